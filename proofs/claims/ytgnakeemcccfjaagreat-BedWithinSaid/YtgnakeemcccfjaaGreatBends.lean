/- Contracts of checkCells, of checkEnds, of knownLevels, of notAbove and of notBelow. -/
import Derived.Test.YtgnakeemcccfjaaGreatBfind
import Derived.Test.YtgnakeemcccfjaaGreatBfindb
namespace Go.Proofs.YtgnakeemcccfjaaGreat
open Go Go.RowKit Go.IntWalk

def noCell (n : Nat) (l : List Int) (i : Nat) : Bool := !(decide (0 ≤ gi l i) && decide (gi l i < n))
def cellsE (n : Nat) (l : List Int) : Int := if anyN (noCell n l) l.length = true then 6 else 0
set_option maxHeartbeats 4000000 in
theorem checkCells_c (g : Gr) (l : List Int) (w : World) (A B : Option Addr) (c d : Nat) (hl : g.L.length ≤ 2000) (hm : l.length ≤ 100000) (hB : Row 1 encZ w B l) :
    Calls Tryz.prog 34 #[.agg #[.int .i64 g.X, .int .i64 g.Y, .int .i64 g.S, .int .i64 g.C, .int .i64 g.R, .slice A g.L.length c], .slice B l.length d] w fun e w' => e = .returned (.int .i64 (cellsE g.L.length l)) ∧ Ext w w' := by
  obtain ⟨Z, hZ⟩ : ∃ Z, cellsE g.L.length l = Z := ⟨_, rfl⟩
  rw [hZ]
  have HZ := Lib.hid hZ
  have HIC := Lib.hid (fun i w' => isCell_c g i w' A c (by unfold maxLen; omega))
  clear hZ
  go_enter Tryz.func34, Tryz.ntmps34
  go_wp2
  have hEp : Ext w (w.alloc (.cells #[.int .i64 g.X, .int .i64 g.Y, .int .i64 g.S, .int .i64 g.C, .int .i64 g.R, .slice A g.L.length c] 24)) := by (repeat (first | with_reducible exact Ext.rfl' _ | with_reducible assumption | with_reducible refine Ext.al ?_ _ | with_reducible refine Ext.dr ?_ | with_reducible refine Ext.st ?_ (by simp) _ | with_reducible refine Ext.tr ?_ (by assumption)))
  have kg : CellsAt (w.alloc (.cells #[.int .i64 g.X, .int .i64 g.Y, .int .i64 g.S, .int .i64 g.C, .int .i64 g.R, .slice A g.L.length c] 24)) w.heap.size 0 [.int .i64 g.X, .int .i64 g.Y, .int .i64 g.S, .int .i64 g.C, .int .i64 g.R, .slice A g.L.length c] := by
    refine cells_six ⟨?_, ?_, ?_, ?_, ?_, ?_⟩ <;> simp [World.cell?_alloc_new, go_sem]
  have zp : w.heap.size < (w.alloc (.cells #[.int .i64 g.X, .int .i64 g.Y, .int .i64 g.S, .int .i64 g.C, .int .i64 g.R, .slice A g.L.length c] 24)).heap.size := by simp
  generalize w.alloc (.cells #[.int .i64 g.X, .int .i64 g.Y, .int .i64 g.S, .int .i64 g.C, .int .i64 g.R, .slice A g.L.length c] 24) = wp at *
  go_loopw [6, 9] (fun _ i wr => Ext wp wr ∧ ∃ k : Nat, k ≤ l.length ∧ i = .int .i64 k ∧ Hid (anyN (noCell g.L.length l) k = false)) (fun _ i _ => l.length - (intOf i).toNat)
  case atStart => exact ⟨Ext.rfl' _, 0, Nat.zero_le _, rfl, rfl⟩
  case round =>
    obtain ⟨hr, k, hk, rfl, hF⟩ := hrel
    have hE : Ext w wr := hEp.tr hr
    by_cases hlt : k < l.length
    · obtain ⟨b, off, rfl, hb0, hcell⟩ := hB.p1 hlt
      have c1 := hcell _ hE
      have hz := hE.sz _ hb0
      obtain ⟨g0, g1, g2, g3, g4, g5⟩ := (kg.ext hr zp).six
      have hzp := hr.sz _ zp
      obtain ⟨v, hv⟩ : ∃ v, l[k] = v := ⟨_, rfl⟩
      have hg := gi_lt l k hlt
      rw [hv] at c1 hg
      have HG := Lib.hid hg
      have HI := Lib.hid (fun w' => HIC.out v w')
      clear hv hg hcell
      cases hq : (decide (0 ≤ v) && decide (v < g.L.length))
      · rw [hq] at HI
        have HN : Hid (noCell g.L.length l k = true) := Lib.hid (by unfold noCell; rw [HG.out, hq]; rfl)
        have hz6 : Hid ((6 : Int) = Z) := Lib.hid (by rw [← HZ.out]; unfold cellsE; rw [if_pos (anyN_at _ hlt HN.out)])
        clear hq
        go_wp2_with (first | (go_at_call 75; with_reducible refine Calls.mono (HI.out _) ?_; rintro e w1 ⟨rfl, hb⟩; have hc := hb.ccell; have hf := hb.frz; have hs := hb.sz; (try simp at hs); (try have hs0 := hs w.heap.size (by omega)); (try have hs1 := hs (w.heap.size + 1) (by omega)); (try have hs2 := hs (w.heap.size + 1 + 1) (by omega)); (try have hs3 := hs (w.heap.size + 1 + 1 + 1) (by omega))))
        go_ret
        exact ⟨ret_int hz6.out, by (repeat (first | with_reducible exact Ext.rfl' _ | with_reducible assumption | with_reducible refine Ext.al ?_ _ | with_reducible refine Ext.dr ?_ | with_reducible refine Ext.st ?_ (by simp) _ | with_reducible refine Ext.tr ?_ (by assumption)))⟩
      · rw [hq] at HI
        have HN : Hid (noCell g.L.length l k = false) := Lib.hid (by unfold noCell; rw [HG.out, hq]; rfl)
        clear hq
        go_wp2_with (first | (go_at_call 75; with_reducible refine Calls.mono (HI.out _) ?_; rintro e w1 ⟨rfl, hb⟩; have hc := hb.ccell; have hf := hb.frz; have hs := hb.sz; (try simp at hs); (try have hs0 := hs w.heap.size (by omega)); (try have hs1 := hs (w.heap.size + 1) (by omega)); (try have hs2 := hs (w.heap.size + 1 + 1) (by omega)); (try have hs3 := hs (w.heap.size + 1 + 1 + 1) (by omega))))
        exact ⟨⟨by (repeat (first | with_reducible exact Ext.rfl' _ | with_reducible assumption | with_reducible refine Ext.al ?_ _ | with_reducible refine Ext.dr ?_ | with_reducible refine Ext.st ?_ (by simp) _ | with_reducible refine Ext.tr ?_ (by assumption))), k + 1, by omega, by go_num, (by show anyN _ (k + 1) = false; rw [anyN, hF.out, HN.out]; rfl)⟩, by simp [intOf]; omega⟩
    · have hks : k = l.length := by omega
      have hz0 : Hid ((0 : Int) = Z) := Lib.hid (by rw [← HZ.out]; unfold cellsE; rw [if_neg (by rw [← hks, hF.out]; decide)])
      go_wp2
      go_ret
      exact ⟨ret_int hz0.out, by (repeat (first | with_reducible exact Ext.rfl' _ | with_reducible assumption | with_reducible refine Ext.al ?_ _ | with_reducible refine Ext.dr ?_ | with_reducible refine Ext.st ?_ (by simp) _ | with_reducible refine Ext.tr ?_ (by assumption)))⟩
def endsE (g : Gr) (F T : List Int) : Int :=
  if chkG g ≠ 0 then chkG g else if F.length = 0 ∨ T.length = 0 then 10 else if cellsE g.L.length F ≠ 0 then cellsE g.L.length F else cellsE g.L.length T
set_option maxHeartbeats 4000000 in
theorem checkEnds_c (g : Gr) (F T : List Int) (w : World) (A B D : Option Addr) (c cB cD : Nat) (hl : g.L.length ≤ 2000) (hFl : F.length ≤ 100000) (hTl : T.length ≤ 100000) (hA : Row 1 encZ w A g.L) (hB : Row 1 encZ w B F) (hD : Row 1 encZ w D T) :
    Calls Tryz.prog 61 #[.agg #[.int .i64 g.X, .int .i64 g.Y, .int .i64 g.S, .int .i64 g.C, .int .i64 g.R, .slice A g.L.length c], .slice B F.length cB, .slice D T.length cD] w fun e w' => e = .returned (.int .i64 (endsE g F T)) ∧ Ext w w' := by
  have H1 := Lib.hid (fun w' (hw : Ext w w') => check_c g w' A c (by unfold maxLen; omega) (hA.ext hw))
  have H2 := Lib.hid (fun w' (hw : Ext w w') => checkCells_c g F w' A B c cB hl hFl (hB.ext hw))
  have H3 := Lib.hid (fun w' (hw : Ext w w') => checkCells_c g T w' A D c cD hl hTl (hD.ext hw))
  unfold endsE
  generalize chkG g = e1 at *
  generalize cellsE g.L.length F = e2 at *
  generalize cellsE g.L.length T = e3 at *
  by_cases h1 : e1 = 0
  case neg =>
    rw [if_pos h1]
    have h1' : (e1 != 0) = true := by rw [bne_iff_ne]; exact h1
    clear h1
    go_enter Tryz.func61, Tryz.ntmps61
    go_wp2_with (first | (go_at_call 28; with_reducible refine Calls.mono (H1.out _ (by (repeat (first | with_reducible exact Ext.rfl' _ | with_reducible assumption | with_reducible refine Ext.al ?_ _ | with_reducible refine Ext.dr ?_ | with_reducible refine Ext.st ?_ (by simp) _ | with_reducible refine Ext.tr ?_ (by assumption))))) ?_; rintro e w1 ⟨rfl, hb⟩; have hc := hb.ccell; have hf := hb.frz; have hs := hb.sz; (try simp at hs); (try have hs0 := hs w.heap.size (by omega)); (try have hs1 := hs (w.heap.size + 1) (by omega)); (try have hs2 := hs (w.heap.size + 1 + 1) (by omega)); (try have hs3 := hs (w.heap.size + 1 + 1 + 1) (by omega))))
    go_ret
    exact ⟨rfl, by (repeat (first | with_reducible exact Ext.rfl' _ | with_reducible assumption | with_reducible refine Ext.al ?_ _ | with_reducible refine Ext.dr ?_ | with_reducible refine Ext.st ?_ (by simp) _ | with_reducible refine Ext.tr ?_ (by assumption)))⟩
  subst h1
  rw [if_neg (by decide)]
  by_cases hF0 : F.length = 0
  · rw [if_pos (.inl hF0)]
    have h' : ((F.length : Int) == 0) = true := by simp [hF0]
    go_enter Tryz.func61, Tryz.ntmps61
    go_wp2_with (first | (go_at_call 28; with_reducible refine Calls.mono (H1.out _ (by (repeat (first | with_reducible exact Ext.rfl' _ | with_reducible assumption | with_reducible refine Ext.al ?_ _ | with_reducible refine Ext.dr ?_ | with_reducible refine Ext.st ?_ (by simp) _ | with_reducible refine Ext.tr ?_ (by assumption))))) ?_; rintro e w1 ⟨rfl, hb⟩; have hc := hb.ccell; have hf := hb.frz; have hs := hb.sz; (try simp at hs); (try have hs0 := hs w.heap.size (by omega)); (try have hs1 := hs (w.heap.size + 1) (by omega)); (try have hs2 := hs (w.heap.size + 1 + 1) (by omega)); (try have hs3 := hs (w.heap.size + 1 + 1 + 1) (by omega))))
    go_ret
    exact ⟨rfl, by (repeat (first | with_reducible exact Ext.rfl' _ | with_reducible assumption | with_reducible refine Ext.al ?_ _ | with_reducible refine Ext.dr ?_ | with_reducible refine Ext.st ?_ (by simp) _ | with_reducible refine Ext.tr ?_ (by assumption)))⟩
  by_cases hT0 : T.length = 0
  · rw [if_pos (.inr hT0)]
    have h' : ((F.length : Int) == 0) = false := by rw [beq_eq_false_iff_ne]; omega
    go_enter Tryz.func61, Tryz.ntmps61
    go_wp2_with (first | (go_at_call 28; with_reducible refine Calls.mono (H1.out _ (by (repeat (first | with_reducible exact Ext.rfl' _ | with_reducible assumption | with_reducible refine Ext.al ?_ _ | with_reducible refine Ext.dr ?_ | with_reducible refine Ext.st ?_ (by simp) _ | with_reducible refine Ext.tr ?_ (by assumption))))) ?_; rintro e w1 ⟨rfl, hb⟩; have hc := hb.ccell; have hf := hb.frz; have hs := hb.sz; (try simp at hs); (try have hs0 := hs w.heap.size (by omega)); (try have hs1 := hs (w.heap.size + 1) (by omega)); (try have hs2 := hs (w.heap.size + 1 + 1) (by omega)); (try have hs3 := hs (w.heap.size + 1 + 1 + 1) (by omega))))
    go_ret
    exact ⟨rfl, by (repeat (first | with_reducible exact Ext.rfl' _ | with_reducible assumption | with_reducible refine Ext.al ?_ _ | with_reducible refine Ext.dr ?_ | with_reducible refine Ext.st ?_ (by simp) _ | with_reducible refine Ext.tr ?_ (by assumption)))⟩
  rw [if_neg (by omega)]
  have hf' : ((F.length : Int) == 0) = false := by rw [beq_eq_false_iff_ne]; omega
  have ht' : ((T.length : Int) == 0) = false := by rw [beq_eq_false_iff_ne]; omega
  clear hF0 hT0
  by_cases h2 : e2 = 0
  case neg =>
    rw [if_pos h2]
    have h2' : (e2 != 0) = true := by rw [bne_iff_ne]; exact h2
    clear h2
    go_enter Tryz.func61, Tryz.ntmps61
    go_wp2_with (first | (go_at_call 28; with_reducible refine Calls.mono (H1.out _ (by (repeat (first | with_reducible exact Ext.rfl' _ | with_reducible assumption | with_reducible refine Ext.al ?_ _ | with_reducible refine Ext.dr ?_ | with_reducible refine Ext.st ?_ (by simp) _ | with_reducible refine Ext.tr ?_ (by assumption))))) ?_; rintro e w1 ⟨rfl, hb⟩; have hc := hb.ccell; have hf := hb.frz; have hs := hb.sz; (try simp at hs); (try have hs0 := hs w.heap.size (by omega)); (try have hs1 := hs (w.heap.size + 1) (by omega)); (try have hs2 := hs (w.heap.size + 1 + 1) (by omega)); (try have hs3 := hs (w.heap.size + 1 + 1 + 1) (by omega))) | (go_at_call 34; with_reducible refine Calls.mono (H2.out _ (by (repeat (first | with_reducible exact Ext.rfl' _ | with_reducible assumption | with_reducible refine Ext.al ?_ _ | with_reducible refine Ext.dr ?_ | with_reducible refine Ext.st ?_ (by simp) _ | with_reducible refine Ext.tr ?_ (by assumption))))) ?_; rintro e w1 ⟨rfl, hb⟩; have hc := hb.ccell; have hf := hb.frz; have hs := hb.sz; (try simp at hs); (try have hs0 := hs w.heap.size (by omega)); (try have hs1 := hs (w.heap.size + 1) (by omega)); (try have hs2 := hs (w.heap.size + 1 + 1) (by omega)); (try have hs3 := hs (w.heap.size + 1 + 1 + 1) (by omega))))
    go_ret
    exact ⟨rfl, by (repeat (first | with_reducible exact Ext.rfl' _ | with_reducible assumption | with_reducible refine Ext.al ?_ _ | with_reducible refine Ext.dr ?_ | with_reducible refine Ext.st ?_ (by simp) _ | with_reducible refine Ext.tr ?_ (by assumption)))⟩
  subst h2
  rw [if_neg (by decide)]
  go_enter Tryz.func61, Tryz.ntmps61
  go_wp2_with (first | (go_at_call 28; with_reducible refine Calls.mono (H1.out _ (by (repeat (first | with_reducible exact Ext.rfl' _ | with_reducible assumption | with_reducible refine Ext.al ?_ _ | with_reducible refine Ext.dr ?_ | with_reducible refine Ext.st ?_ (by simp) _ | with_reducible refine Ext.tr ?_ (by assumption))))) ?_; rintro e w1 ⟨rfl, hb⟩; have hc := hb.ccell; have hf := hb.frz; have hs := hb.sz; (try simp at hs); (try have hs0 := hs w.heap.size (by omega)); (try have hs1 := hs (w.heap.size + 1) (by omega)); (try have hs2 := hs (w.heap.size + 1 + 1) (by omega)); (try have hs3 := hs (w.heap.size + 1 + 1 + 1) (by omega))) | (go_at_call 34; with_reducible refine Calls.mono (H2.out _ (by (repeat (first | with_reducible exact Ext.rfl' _ | with_reducible assumption | with_reducible refine Ext.al ?_ _ | with_reducible refine Ext.dr ?_ | with_reducible refine Ext.st ?_ (by simp) _ | with_reducible refine Ext.tr ?_ (by assumption))))) ?_; rintro e w1 ⟨rfl, hb⟩; have hc := hb.ccell; have hf := hb.frz; have hs := hb.sz; (try simp at hs); (try have hs0 := hs w.heap.size (by omega)); (try have hs1 := hs (w.heap.size + 1) (by omega)); (try have hs2 := hs (w.heap.size + 1 + 1) (by omega)); (try have hs3 := hs (w.heap.size + 1 + 1 + 1) (by omega))) | (go_at_call 34; with_reducible refine Calls.mono (H3.out _ (by (repeat (first | with_reducible exact Ext.rfl' _ | with_reducible assumption | with_reducible refine Ext.al ?_ _ | with_reducible refine Ext.dr ?_ | with_reducible refine Ext.st ?_ (by simp) _ | with_reducible refine Ext.tr ?_ (by assumption))))) ?_; rintro e w1 ⟨rfl, hb⟩; have hc := hb.ccell; have hf := hb.frz; have hs := hb.sz; (try simp at hs); (try have hs0 := hs w.heap.size (by omega)); (try have hs1 := hs (w.heap.size + 1) (by omega)); (try have hs2 := hs (w.heap.size + 1 + 1) (by omega)); (try have hs3 := hs (w.heap.size + 1 + 1 + 1) (by omega))))
  go_ret
  exact ⟨rfl, by (repeat (first | with_reducible exact Ext.rfl' _ | with_reducible assumption | with_reducible refine Ext.al ?_ _ | with_reducible refine Ext.dr ?_ | with_reducible refine Ext.st ?_ (by simp) _ | with_reducible refine Ext.tr ?_ (by assumption)))⟩

/-- The closure that tells the cells that are not above a level. -/
def OutCl (g : Gr) (lev : Int) (A : Option Addr) (c : Nat) (e : Ending) (w' : World) : Prop :=
  ∃ p q, e = .returned (.func (.func 94) #[] #[.pointer (some ⟨p, 0, none⟩), .pointer (some ⟨q, 0, none⟩)]) ∧ BoxG w' p g A c ∧ w'.cell? ⟨q, 0, none⟩ = some (.int .i64 lev) ∧ q < w'.heap.size
theorem notAbove_c (g : Gr) (lev : Int) (w : World) (A : Option Addr) (c : Nat) :
    Calls Tryz.prog 66 #[.agg #[.int .i64 g.X, .int .i64 g.Y, .int .i64 g.S, .int .i64 g.C, .int .i64 g.R, .slice A g.L.length c], .int .i64 lev] w fun e w' => OutCl g lev A c e w' ∧ Ext w w' := by
  go_enter Tryz.func66, Tryz.ntmps66
  go_wp2
  go_ret
  refine ⟨⟨w.heap.size, w.heap.size + 1, rfl, ⟨by simp; omega, cells_six ⟨?_, ?_, ?_, ?_, ?_, ?_⟩⟩, ?_, by simp⟩, by (repeat (first | with_reducible exact Ext.rfl' _ | with_reducible assumption | with_reducible refine Ext.al ?_ _ | with_reducible refine Ext.dr ?_ | with_reducible refine Ext.st ?_ (by simp) _ | with_reducible refine Ext.tr ?_ (by assumption)))⟩
  all_goals simp [World.cell?_alloc_past, World.cell?_alloc_new, go_sem]

/-! ### The levels of the known cells -/
def knF (x : Int) : Bool := decide (x ≠ 30000)
/-- Levels, ascending, of all known cells. -/
def IsLevels (L Ls : List Int) : Prop := Ls.Pairwise (· ≤ ·) ∧ ∀ x, x ∈ Ls ↔ x ∈ L ∧ x ≠ 30000
def OutK (base : Nat) (L : List Int) (e : Ending) (w' : World) : Prop :=
  ∃ Ls A c, e = .returned (.slice A Ls.length c) ∧ NewZ base w' A c Ls ∧ IsLevels L Ls ∧ Ls.length ≤ L.length
theorem isLevels_sort (L : List Int) : IsLevels L (Lib.compact (sortZ (L.filter knF))) :=
  ⟨compact_asc (sortZ_asc _), fun x => by rw [compact_mem, sortZ_mem, List.mem_filter]; unfold knF; simp⟩
set_option maxHeartbeats 8000000 in
theorem knownLevels_c (g : Gr) (w : World) (A : Option Addr) (c : Nat) (hl : g.L.length ≤ 2000) (hA : Row 1 encZ w A g.L) :
    Calls Tryz.prog 62 #[.agg #[.int .i64 g.X, .int .i64 g.Y, .int .i64 g.S, .int .i64 g.C, .int .i64 g.R, .slice A g.L.length c]] w fun e w' => OutK w.heap.size g.L e w' ∧ Ext w w' := by
  have HK := Lib.hid (fun k (hk : k < g.L.length) w' (hw : Ext w w') => isKnown_c g k w' A c hk (by unfold maxLen; omega) (hA.ext hw))
  obtain ⟨i0, hi0, hzi0, hzi1, hzi2⟩ := info_parts infoZ
  have HI := Lib.hid (And.intro hi0 (And.intro hzi0 (And.intro hzi1 hzi2)))
  clear hi0 hzi0 hzi1 hzi2
  go_enter Tryz.func62, Tryz.ntmps62
  go_wp2
  have hEp : Ext w (w.alloc (.cells #[.int .i64 g.X, .int .i64 g.Y, .int .i64 g.S, .int .i64 g.C, .int .i64 g.R, .slice A g.L.length c] 24)) := by (repeat (first | with_reducible exact Ext.rfl' _ | with_reducible assumption | with_reducible refine Ext.al ?_ _ | with_reducible refine Ext.dr ?_ | with_reducible refine Ext.st ?_ (by simp) _ | with_reducible refine Ext.tr ?_ (by assumption)))
  have kg : CellsAt (w.alloc (.cells #[.int .i64 g.X, .int .i64 g.Y, .int .i64 g.S, .int .i64 g.C, .int .i64 g.R, .slice A g.L.length c] 24)) w.heap.size 0 [.int .i64 g.X, .int .i64 g.Y, .int .i64 g.S, .int .i64 g.C, .int .i64 g.R, .slice A g.L.length c] := by
    refine cells_six ⟨?_, ?_, ?_, ?_, ?_, ?_⟩ <;> simp [World.cell?_alloc_new, go_sem]
  have zp : w.heap.size < (w.alloc (.cells #[.int .i64 g.X, .int .i64 g.Y, .int .i64 g.S, .int .i64 g.C, .int .i64 g.R, .slice A g.L.length c] 24)).heap.size := by simp
  generalize w.alloc (.cells #[.int .i64 g.X, .int .i64 g.Y, .int .i64 g.S, .int .i64 g.C, .int .i64 g.R, .slice A g.L.length c] 24) = wp at *
  go_loopw [3, 4, 5, 9] (fun v _ _ i wr => Ext wp wr ∧ ∃ k : Nat, k ≤ g.L.length ∧ i = .int .i64 k ∧ Hid (wr.ownsRow wp.heap.size 3 1 v ((g.L.take k).filter knF).length (((g.L.take k).filter knF).flatMap encZ))) (fun _ _ _ i _ => g.L.length - (intOf i).toNat)
  case atStart => exact ⟨Ext.rfl' _, 0, Nat.zero_le _, rfl, Lib.hid (World.ownsRow_nil _ _ _ _)⟩
  case round =>
    obtain ⟨hr, k, hk, rfl, hO⟩ := hrel
    have hE : Ext w wr := hEp.tr hr
    by_cases hlt : k < g.L.length
    · obtain ⟨b, off, rfl, hb0, hcell⟩ := hA.p1 hlt
      have c1 := hcell _ hE
      have hz := hE.sz _ hb0
      obtain ⟨g0, g1, g2, g3, g4, g5⟩ := (kg.ext hr zp).six
      have hzp := hr.sz _ zp
      obtain ⟨v, hv⟩ : ∃ v, g.L[k] = v := ⟨_, rfl⟩
      have hg := gi_lt g.L k hlt
      have ht : g.L.take (k + 1) = g.L.take k ++ [v] := by rw [← hv]; exact List.take_succ_eq_append_getElem hlt
      rw [hv] at c1 hg
      have HT := Lib.hid ht
      have HK1 := Lib.hid (fun w' (hw : Ext w w') => HK.out k hlt w' hw)
      have hkv : knB g.L k = knF v := by unfold knB knF; rw [hg]
      rw [hkv] at HK1
      have hln : ((g.L.take k).filter knF).length ≤ 2000 := by
        have := List.length_filter_le knF (g.L.take k)
        simp at this; omega
      clear hv hg ht hcell hkv
      cases hq : knF v
      · rw [hq] at HK1
        have HN : Hid ((g.L.take (k + 1)).filter knF = (g.L.take k).filter knF) := Lib.hid (by rw [HT.out, List.filter_append]; simp [hq])
        clear hq
        go_wp2_with (first | (go_at_call 35; with_reducible refine Calls.mono (HK1.out _ (by (repeat (first | with_reducible exact Ext.rfl' _ | with_reducible assumption | with_reducible refine Ext.al ?_ _ | with_reducible refine Ext.dr ?_ | with_reducible refine Ext.st ?_ (by simp) _ | with_reducible refine Ext.tr ?_ (by assumption))))) ?_; rintro e w3 ⟨rfl, hb⟩; have hc := hb.ccell; have hf := hb.frz; have hs := hb.sz; (try simp at hs); (try have t0 := hs (w.heap.size) (by first | assumption | omega)); (try have t1 := hs (b) (by first | assumption | omega)); (try have t2 := hs (w.heap.size) (by first | assumption | omega)); (try have t3 := hs (w.heap.size) (by first | assumption | omega)); (try have t4 := hs (w.heap.size) (by first | assumption | omega)); (try have t5 := hs (w.heap.size) (by first | assumption | omega))))
        have hE3 : Ext wr w3 := by assumption
        refine ⟨⟨hr.tr hE3, k + 1, by omega, by go_num, Lib.hid ?_⟩, by simp [intOf]; omega⟩
        rw [HN.out]
        exact ownsRow_ext hO.out hE3
      · rw [hq] at HK1
        have HN : Hid ((g.L.take (k + 1)).filter knF = (g.L.take k).filter knF ++ [v]) := Lib.hid (by rw [HT.out, List.filter_append]; simp [hq])
        obtain ⟨hi0, hzi0, hzi1, hzi2⟩ := HI.out
        generalize (g.L.take k).filter knF = M at *
        clear hq
        go_wp2_with (first | (go_at_call 35; with_reducible refine Calls.mono (HK1.out _ (by (repeat (first | with_reducible exact Ext.rfl' _ | with_reducible assumption | with_reducible refine Ext.al ?_ _ | with_reducible refine Ext.dr ?_ | with_reducible refine Ext.st ?_ (by simp) _ | with_reducible refine Ext.tr ?_ (by assumption))))) ?_; rintro e w3 ⟨rfl, hb⟩; have hc := hb.ccell; have hf := hb.frz; have hs := hb.sz; (try simp at hs); (try have t0 := hs (w.heap.size) (by first | assumption | omega)); (try have t1 := hs (b) (by first | assumption | omega)); (try have t2 := hs (w.heap.size) (by first | assumption | omega)); (try have t3 := hs (w.heap.size) (by first | assumption | omega)); (try have t4 := hs (w.heap.size) (by first | assumption | omega)); (try have t5 := hs (w.heap.size) (by first | assumption | omega))) | (at_builtin; refine wpList_append_own _ rfl _ _ 22 rfl (wp.heap.size) 3 i0 _ 1 8 Tryz.underlying22 hi0 hzi0 hzi1 hzi2 rfl (by decide) _ _ _ rfl (World.ownsRow.alloc (ownsRow_ext (hO.out) (by assumption)) _) ⟨_, 0, none⟩ 1 1 [.int .i64 (v)] rfl rfl ?_ ?_ ?_ ?_ ?_ ?_))
        · exact one_newZ _ _ _
        · intro u hu; simp at hu; subst hu; rfl
        · unfold maxLen; omega
        · omega
        · have hE3 : Ext wr w3 := by assumption
          have := (hr.tr hE3).size
          simp; omega
        intro v' w4 hown hgrow _
        have hE3 : Ext wr w3 := by assumption
        have hE4 : Ext wp w4 := grown_ext (Ext.al (hr.tr hE3) _) (World.ownsRow.alloc (ownsRow_ext hO.out hE3) _) (Nat.le_refl _) hgrow
        have hown2 := Lib.hid hown
        clear hown hgrow hi0 hzi0 hzi1 hzi2
        go_wp2
        refine ⟨⟨hE4, k + 1, by omega, by go_num, Lib.hid ?_⟩, by simp [intOf]; omega⟩
        rw [HN.out]
        have := hown2.out
        rw [List.flatMap_append, List.length_append]
        exact this
    · have hks : k = g.L.length := by omega
      have h1 := hO.out
      rw [hks, List.take_length] at h1
      have HS := isLevels_sort g.L
      have hlen := compact_len (sortZ (g.L.filter knF))
      rw [sortZ_len] at hlen
      have hfl := List.length_filter_le knF g.L
      have HS2 := Lib.hid HS
      obtain ⟨M, hM⟩ : ∃ M, g.L.filter knF = M := ⟨_, rfl⟩
      rw [hM] at h1 HS2 hlen hfl
      have hsl := sortZ_len M
      obtain ⟨A', c', hv, q1, q2, q3⟩ := ownK_cases encZ_len rfl rfl h1
      subst hv
      have Hq := Lib.hid (And.intro q1 q2)
      clear h1 hM HS hO q1 q2
      rcases q3 with ⟨hnil, rfl, rfl⟩ | ⟨gb, rfl, hgb, ho⟩
      · subst hnil
        have hS1 := Lib.hid (fun w => Tryz.slices_Sort_int_none none 0 w)
        have hC1 := Lib.hid (fun w => Tryz.slices_Compact_int_empty none 0 w)
        have hmn : Lib.compact (sortZ []) = [] := List.eq_nil_of_length_eq_zero (Nat.le_zero.1 hlen)
        clear hsl
        simp only [List.length_nil] at *
        go_wp2_with (first | (go_at_call 88; refine (hS1.out _).mono ?_; rintro e w2 ⟨rfl, hw⟩; subst hw) | (go_at_call 89; refine (hC1.out _).mono ?_; rintro e w2 ⟨rfl, hw⟩; subst hw))
        go_ret
        exact ⟨⟨[], none, 0, rfl, ⟨Nat.le_refl _, Nat.zero_le _, .inl ⟨rfl, rfl, rfl⟩⟩, by have := HS2.out; rwa [hmn] at this, Nat.zero_le _⟩, hE⟩
      · have hS1 := Lib.hid (sort_own_c wr gb c' M ho (by omega))
        have HO := Lib.hid ho
        have hC1 : Hid (∀ w2, OwnK 3 1 encZ w2 gb c' (sortZ M) → Calls Tryz.prog 89 #[.slice (some ⟨gb, 0, none⟩) M.length c'] w2 fun e w' => e = .returned (.slice (some ⟨gb, 0, none⟩) (Lib.compact (sortZ M)).length c') ∧ OwnK 3 1 encZ w' gb c' (Lib.compact (sortZ M)) ∧ Touch gb w2 w') := Lib.hid (fun w2 h => by
          have := compact_own_c w2 gb c' (sortZ M) h (by omega)
          rwa [sortZ_len] at this)
        clear ho hsl
        go_wp2_with (first | (go_at_call 88; refine hS1.out.mono ?_; rintro e w2 ⟨rfl, ho2, ht2⟩; have HO2 := Lib.hid ho2; clear ho2) | (go_at_call 89; refine (hC1.out _ HO2.out).mono ?_; rintro e w5 ⟨rfl, ho5, ht5⟩; have HO5 := Lib.hid ho5; clear ho5))
        go_ret
        refine ⟨⟨Lib.compact (sortZ M), some ⟨gb, 0, none⟩, c', rfl, ⟨by have := Hq.out.1; omega, Hq.out.2, .inr ⟨gb, rfl, by have := hEp.size; omega, HO5.out⟩⟩, HS2.out, by omega⟩, ?_⟩
        exact ht5.ext (ht2.ext hE (by have := hEp.size; omega)) (by have := hEp.size; omega)
end Go.Proofs.YtgnakeemcccfjaaGreat

/- The contracts of the reference's Highest and Least. -/
import Derived.Test.YtgnakeemcccfjaaBreach
namespace Go.Proofs.Ytgnakeemcccfjaa
open Go Go.RowKit Go.IntWalk

/-- The highest known one of the first m cells, of several ones that with the least index; -1 if none is known. -/
def HiI (L : List Int) (cells : List Int) (m : Nat) (best : Int) : Prop :=
  (best = -1 ∧ ∀ j, j < m → ∀ k : Nat, gi cells j = k → k < L.length → knB L k = false) ∨
  ∃ i : Nat, best = i ∧ i < L.length ∧ knB L i = true ∧ (∃ j, j < m ∧ gi cells j = i) ∧ ∀ j, j < m → ∀ k : Nat, gi cells j = k → k < L.length → knB L k = true → gi L k < gi L i ∨ (gi L k = gi L i ∧ i ≤ k)
theorem HiI.skip {L cells : List Int} {m : Nat} {best : Int} (h : HiI L cells m best) (hs : ∀ k : Nat, gi cells m = k → k < L.length → knB L k = true → ∃ i : Nat, best = i ∧ (gi L k < gi L i ∨ (gi L k = gi L i ∧ i ≤ k))) : HiI L cells (m + 1) best := by
  rcases h with ⟨h1, h2⟩ | ⟨i, h1, h2, h3, ⟨j, h4, h5⟩, h6⟩
  · refine .inl ⟨h1, fun j hj k hk hl => ?_⟩
    rcases Nat.lt_succ_iff_lt_or_eq.1 hj with h | h
    · exact h2 j h k hk hl
    · subst h
      cases hkn : knB L k
      · rfl
      · obtain ⟨i, hi, _⟩ := hs k hk hl hkn
        omega
  · refine .inr ⟨i, h1, h2, h3, ⟨j, by omega, h5⟩, fun j hj k hk hl hkn => ?_⟩
    rcases Nat.lt_succ_iff_lt_or_eq.1 hj with h | h
    · exact h6 j h k hk hl hkn
    · subst h
      obtain ⟨i', hi, hc⟩ := hs k hk hl hkn
      have : i' = i := by omega
      subst this
      exact hc
theorem HiI.take {L cells : List Int} {m : Nat} {best : Int} (h : HiI L cells m best) {k : Nat} (hk : gi cells m = k) (hl : k < L.length) (hkn : knB L k = true)
    (hs : ∀ i : Nat, best = i → gi L i < gi L k ∨ (gi L i = gi L k ∧ k < i)) : HiI L cells (m + 1) k := by
  refine .inr ⟨k, rfl, hl, hkn, ⟨m, by omega, hk⟩, fun j hj k' hk' hl' hkn' => ?_⟩
  rcases Nat.lt_succ_iff_lt_or_eq.1 hj with h1 | h1
  · rcases h with ⟨_, h2⟩ | ⟨i, h1', h2, h3, _, h6⟩
    · rw [h2 j h1 k' hk' hl'] at hkn'; cases hkn'
    · have h7 := h6 j h1 k' hk' hl' hkn'
      have h8 := hs i h1'
      omega
  · subst h1
    have : k' = k := by omega
    subst this
    omega
def OutHi (L cells : List Int) (e : Ending) : Prop := ∃ best, e = .returned (.int .i64 best) ∧ HiI L cells cells.length best
set_option maxHeartbeats 8000000 in
theorem rhighest_c (g : Gr) (l : List Int) (w : World) (A B : Option Addr) (c d : Nat) (_hl : g.L.length ≤ 2000) (hm : l.length ≤ 100000) (hA : Row 1 encZ w A g.L) (hB : Row 1 encZ w B l) :
    Calls Try.prog 107 #[.agg #[.int .i64 g.X, .int .i64 g.Y, .int .i64 g.S, .int .i64 g.C, .int .i64 g.R, .slice A g.L.length c], .slice B l.length d] w fun e w' => OutHi g.L l e ∧ Ext w w' := by
  have HK := Lib.hid (fun k (hk : k < g.L.length) w' (hw : Ext w w') => known_c g k w' A c hk (hA.ext hw))
  have HKN := Lib.hid (fun i hi w' => known_no_c g i w' A c hi)
  have HA := Lib.hid hA
  clear hA
  go_enter Try.func107, Try.ntmps107
  go_wp2
  have hEp : Ext w (w.alloc (.cells #[.int .i64 g.X, .int .i64 g.Y, .int .i64 g.S, .int .i64 g.C, .int .i64 g.R, .slice A g.L.length c] 24)) := by (repeat (first | with_reducible exact Ext.rfl' _ | with_reducible assumption | with_reducible refine Ext.al ?_ _ | with_reducible refine Ext.dr ?_ | with_reducible refine Ext.st ?_ (by simp) _ | with_reducible refine Ext.tr ?_ (by assumption)))
  have kg : CellsAt (w.alloc (.cells #[.int .i64 g.X, .int .i64 g.Y, .int .i64 g.S, .int .i64 g.C, .int .i64 g.R, .slice A g.L.length c] 24)) w.heap.size 0 [.int .i64 g.X, .int .i64 g.Y, .int .i64 g.S, .int .i64 g.C, .int .i64 g.R, .slice A g.L.length c] := by
    refine cells_six ⟨?_, ?_, ?_, ?_, ?_, ?_⟩ <;> simp [World.cell?_alloc_new, go_sem]
  have zp : w.heap.size < (w.alloc (.cells #[.int .i64 g.X, .int .i64 g.Y, .int .i64 g.S, .int .i64 g.C, .int .i64 g.R, .slice A g.L.length c] 24)).heap.size := by simp
  generalize w.alloc (.cells #[.int .i64 g.X, .int .i64 g.Y, .int .i64 g.S, .int .i64 g.C, .int .i64 g.R, .slice A g.L.length c] 24) = wp at *
  go_loopw [5, 6, 7] (fun best i _ wr => Ext wp wr ∧ ∃ (k : Nat) (bi : Int), k ≤ l.length ∧ i = .int .i64 k ∧ best = .int .i64 bi ∧ Hid (HiI g.L l k bi)) (fun _ i _ _ => l.length - (intOf i).toNat)
  case atStart => exact ⟨Ext.rfl' _, 0, -1, Nat.zero_le _, rfl, rfl, Lib.hid (.inl ⟨rfl, fun j hj => by omega⟩)⟩
  case round =>
    obtain ⟨hr, k, bi, hk, rfl, rfl, hH⟩ := hrel
    have hE : Ext w wr := hEp.tr hr
    have hzp := hr.sz _ zp
    obtain ⟨g0, g1, g2, g3, g4, g5⟩ := (kg.ext hr zp).six
    by_cases hlt : k < l.length
    · obtain ⟨b, off, rfl, hb0, hcell⟩ := hB.p1 hlt
      have c1 := hcell _ hE
      have hz := hE.sz _ hb0
      rw [← gi_lt] at c1
      obtain ⟨v, hv⟩ : ∃ v, gi l k = v := ⟨_, rfl⟩
      rw [hv] at c1
      have HV := Lib.hid hv
      clear hv hcell
      by_cases hin : v < 0 ∨ (g.L.length : Int) ≤ v
      · have K1 := Lib.hid (fun w' => HKN.out v hin w')
        have HN : Hid (HiI g.L l (k + 1) bi) := Lib.hid (hH.out.skip fun k' h1 h2 _ => by rw [HV.out] at h1; omega)
        clear hin
        go_wp2
        refine region_grow (by kernel_rfl) (by kernel_rfl) ?_
        repeat (first | go_big_quiet_step (first | (go_at_call 95; with_reducible exact callsGrow (K1.out _)) | fail) | quiet_step (first | (go_at_call 95; with_reducible exact callsGrow (K1.out _)) | fail))
        refine wpQuiet_nil ?_
        intro w1 hb
        have hc := hb.ccell
        have hf := hb.frz
        have hs := hb.sz
        (try simp at hs); (try have hs0 := hs w.heap.size (by omega)); (try have hs1 := hs (w.heap.size + 1) (by omega)); (try have hs2 := hs (w.heap.size + 1 + 1) (by omega)); (try have hs3 := hs (w.heap.size + 1 + 1 + 1) (by omega))
        (try simp only [IntWalk.i64_left])
        go_wp2
        exact ⟨⟨by (repeat (first | with_reducible exact Ext.rfl' _ | with_reducible assumption | with_reducible refine Ext.al ?_ _ | with_reducible refine Ext.dr ?_ | with_reducible refine Ext.st ?_ (by simp) _ | with_reducible refine Ext.tr ?_ (by assumption))), k + 1, bi, by omega, by go_num, rfl, HN⟩, by simp [intOf]; omega⟩
      obtain ⟨j, rfl⟩ : ∃ j : Nat, v = j := ⟨v.toNat, by omega⟩
      have hj : j < g.L.length := by omega
      have K1 := Lib.hid (fun w' (hw : Ext w w') => HK.out j hj w' hw)
      clear hin
      cases hkn : knB g.L j
      · rw [hkn] at K1
        have HN : Hid (HiI g.L l (k + 1) bi) := Lib.hid (hH.out.skip fun k' h1 h2 h3 => by
          rw [HV.out] at h1
          have : k' = j := by omega
          subst this
          rw [hkn] at h3; cases h3)
        clear hkn
        go_wp2
        refine region_grow (by kernel_rfl) (by kernel_rfl) ?_
        repeat (first | go_big_quiet_step (first | (go_at_call 95; with_reducible exact callsGrow (K1.out _ (hE.tr (Grow.ok _)))) | fail) | quiet_step (first | (go_at_call 95; with_reducible exact callsGrow (K1.out _ (hE.tr (Grow.ok _)))) | fail))
        refine wpQuiet_nil ?_
        intro w1 hb
        have hc := hb.ccell
        have hf := hb.frz
        have hs := hb.sz
        (try simp at hs); (try have hs0 := hs w.heap.size (by omega)); (try have hs1 := hs (w.heap.size + 1) (by omega)); (try have hs2 := hs (w.heap.size + 1 + 1) (by omega)); (try have hs3 := hs (w.heap.size + 1 + 1 + 1) (by omega))
        (try simp only [IntWalk.i64_left])
        go_wp2
        exact ⟨⟨by (repeat (first | with_reducible exact Ext.rfl' _ | with_reducible assumption | with_reducible refine Ext.al ?_ _ | with_reducible refine Ext.dr ?_ | with_reducible refine Ext.st ?_ (by simp) _ | with_reducible refine Ext.tr ?_ (by assumption))), k + 1, bi, by omega, by go_num, rfl, HN⟩, by simp [intOf]; omega⟩
      rw [hkn] at K1
      have hcase : bi = -1 ∨ ∃ i : Nat, bi = i ∧ i < g.L.length := by
        rcases hH.out with ⟨h, _⟩ | ⟨i, h1, h2, _⟩
        · exact .inl h
        · exact .inr ⟨i, h1, h2⟩
      rcases hcase with rfl | ⟨i, rfl, hi⟩
      · have HN : Hid (HiI g.L l (k + 1) j) := Lib.hid (hH.out.take HV.out hj hkn fun i hi => by omega)
        clear hkn
        go_wp2
        refine region_grow (by kernel_rfl) (by kernel_rfl) ?_
        repeat (first | go_big_quiet_step (first | (go_at_call 95; with_reducible exact callsGrow (K1.out _ (hE.tr (Grow.ok _)))) | fail) | quiet_step (first | (go_at_call 95; with_reducible exact callsGrow (K1.out _ (hE.tr (Grow.ok _)))) | fail))
        refine wpQuiet_nil ?_
        intro w1 hb
        have hc := hb.ccell
        have hf := hb.frz
        have hs := hb.sz
        (try simp at hs); (try have hs0 := hs w.heap.size (by omega)); (try have hs1 := hs (w.heap.size + 1) (by omega)); (try have hs2 := hs (w.heap.size + 1 + 1) (by omega)); (try have hs3 := hs (w.heap.size + 1 + 1 + 1) (by omega))
        (try simp only [IntWalk.i64_left])
        go_wp2
        exact ⟨⟨by (repeat (first | with_reducible exact Ext.rfl' _ | with_reducible assumption | with_reducible refine Ext.al ?_ _ | with_reducible refine Ext.dr ?_ | with_reducible refine Ext.st ?_ (by simp) _ | with_reducible refine Ext.tr ?_ (by assumption))), k + 1, j, by omega, by go_num, rfl, HN⟩, by simp [intOf]; omega⟩
      have hi0 : decide ((i : Int) < 0) = false := decide_eq_false (by omega)
      obtain ⟨bl, ol, hAe, hbl, hcl⟩ := HA.out.p1 hj
      subst hAe
      obtain ⟨bl', ol', hAe, _, hcl2⟩ := HA.out.p1 hi
      injection hAe with hAe
      injection hAe with e1 e2
      subst e1 e2
      have d1 := hcl _ hE
      have d2 := hcl2 _ hE
      rw [← gi_lt] at d1 d2
      have hblz := hE.sz _ hbl
      have hj0 : (0 : Int) ≤ j := by omega
      have hi00 : (0 : Int) ≤ i := by omega
      have HT : Hid ((gi g.L i < gi g.L j ∨ (gi g.L i = gi g.L j ∧ j < i)) → HiI g.L l (k + 1) j) := Lib.hid fun h => hH.out.take HV.out hj hkn fun i' hi' => by
        have : i' = i := by omega
        subst this; exact h
      have HS : Hid ((gi g.L j < gi g.L i ∨ (gi g.L j = gi g.L i ∧ i ≤ j)) → HiI g.L l (k + 1) i) := Lib.hid fun h => hH.out.skip fun k' h1 h2 h3 => by
        rw [HV.out] at h1
        have : k' = j := by omega
        subst this
        exact ⟨i, rfl, h⟩
      clear hcl hcl2 hkn hH
      generalize gi g.L j = a at *
      generalize gi g.L i = bb at *
      by_cases hgt : bb < a
      · have HN := Lib.hid (HT.out (.inl hgt))
        go_wp2
        refine region_grow (by kernel_rfl) (by kernel_rfl) ?_
        repeat (first | go_big_quiet_step (first | (go_at_call 95; with_reducible exact callsGrow (K1.out _ (hE.tr (Grow.ok _)))) | fail) | quiet_step (first | (go_at_call 95; with_reducible exact callsGrow (K1.out _ (hE.tr (Grow.ok _)))) | fail))
        refine wpQuiet_nil ?_
        intro w1 hb
        have hc := hb.ccell
        have hf := hb.frz
        have hs := hb.sz
        (try simp at hs); (try have hs0 := hs w.heap.size (by omega)); (try have hs1 := hs (w.heap.size + 1) (by omega)); (try have hs2 := hs (w.heap.size + 1 + 1) (by omega)); (try have hs3 := hs (w.heap.size + 1 + 1 + 1) (by omega))
        (try simp only [IntWalk.i64_left])
        go_wp2
        exact ⟨⟨by (repeat (first | with_reducible exact Ext.rfl' _ | with_reducible assumption | with_reducible refine Ext.al ?_ _ | with_reducible refine Ext.dr ?_ | with_reducible refine Ext.st ?_ (by simp) _ | with_reducible refine Ext.tr ?_ (by assumption))), k + 1, j, by omega, by go_num, rfl, HN⟩, by simp [intOf]; omega⟩
      have hgt' : decide (bb < a) = false := decide_eq_false hgt
      by_cases heq : a = bb
      · subst heq
        by_cases hji : j < i
        · have HN := Lib.hid (HT.out (.inr ⟨rfl, hji⟩))
          have hji' : (j : Int) < i := by omega
          clear hgt
          go_wp2
          refine region_grow (by kernel_rfl) (by kernel_rfl) ?_
          repeat (first | go_big_quiet_step (first | (go_at_call 95; with_reducible exact callsGrow (K1.out _ (hE.tr (Grow.ok _)))) | fail) | quiet_step (first | (go_at_call 95; with_reducible exact callsGrow (K1.out _ (hE.tr (Grow.ok _)))) | fail))
          refine wpQuiet_nil ?_
          intro w1 hb
          have hc := hb.ccell
          have hf := hb.frz
          have hs := hb.sz
          (try simp at hs); (try have hs0 := hs w.heap.size (by omega)); (try have hs1 := hs (w.heap.size + 1) (by omega)); (try have hs2 := hs (w.heap.size + 1 + 1) (by omega)); (try have hs3 := hs (w.heap.size + 1 + 1 + 1) (by omega))
          (try simp only [IntWalk.i64_left])
          go_wp2
          exact ⟨⟨by (repeat (first | with_reducible exact Ext.rfl' _ | with_reducible assumption | with_reducible refine Ext.al ?_ _ | with_reducible refine Ext.dr ?_ | with_reducible refine Ext.st ?_ (by simp) _ | with_reducible refine Ext.tr ?_ (by assumption))), k + 1, j, by omega, by go_num, rfl, HN⟩, by simp [intOf]; omega⟩
        · have HN := Lib.hid (HS.out (.inr ⟨rfl, by omega⟩))
          have hji' : decide ((j : Int) < i) = false := decide_eq_false (by omega)
          clear hgt
          go_wp2
          refine region_grow (by kernel_rfl) (by kernel_rfl) ?_
          repeat (first | go_big_quiet_step (first | (go_at_call 95; with_reducible exact callsGrow (K1.out _ (hE.tr (Grow.ok _)))) | fail) | quiet_step (first | (go_at_call 95; with_reducible exact callsGrow (K1.out _ (hE.tr (Grow.ok _)))) | fail))
          refine wpQuiet_nil ?_
          intro w1 hb
          have hc := hb.ccell
          have hf := hb.frz
          have hs := hb.sz
          (try simp at hs); (try have hs0 := hs w.heap.size (by omega)); (try have hs1 := hs (w.heap.size + 1) (by omega)); (try have hs2 := hs (w.heap.size + 1 + 1) (by omega)); (try have hs3 := hs (w.heap.size + 1 + 1 + 1) (by omega))
          (try simp only [IntWalk.i64_left])
          go_wp2
          exact ⟨⟨by (repeat (first | with_reducible exact Ext.rfl' _ | with_reducible assumption | with_reducible refine Ext.al ?_ _ | with_reducible refine Ext.dr ?_ | with_reducible refine Ext.st ?_ (by simp) _ | with_reducible refine Ext.tr ?_ (by assumption))), k + 1, i, by omega, by go_num, rfl, HN⟩, by simp [intOf]; omega⟩
      · have HN := Lib.hid (HS.out (.inl (by omega)))
        have heq' : (a == bb) = false := by simp [heq]
        clear hgt heq
        go_wp2
        refine region_grow (by kernel_rfl) (by kernel_rfl) ?_
        repeat (first | go_big_quiet_step (first | (go_at_call 95; with_reducible exact callsGrow (K1.out _ (hE.tr (Grow.ok _)))) | fail) | quiet_step (first | (go_at_call 95; with_reducible exact callsGrow (K1.out _ (hE.tr (Grow.ok _)))) | fail))
        refine wpQuiet_nil ?_
        intro w1 hb
        have hc := hb.ccell
        have hf := hb.frz
        have hs := hb.sz
        (try simp at hs); (try have hs0 := hs w.heap.size (by omega)); (try have hs1 := hs (w.heap.size + 1) (by omega)); (try have hs2 := hs (w.heap.size + 1 + 1) (by omega)); (try have hs3 := hs (w.heap.size + 1 + 1 + 1) (by omega))
        (try simp only [IntWalk.i64_left])
        go_wp2
        exact ⟨⟨by (repeat (first | with_reducible exact Ext.rfl' _ | with_reducible assumption | with_reducible refine Ext.al ?_ _ | with_reducible refine Ext.dr ?_ | with_reducible refine Ext.st ?_ (by simp) _ | with_reducible refine Ext.tr ?_ (by assumption))), k + 1, i, by omega, by go_num, rfl, HN⟩, by simp [intOf]; omega⟩
    · have hks : k = l.length := by omega
      subst hks
      go_wp2
      go_ret
      exact ⟨⟨bi, rfl, hH.out⟩, by (repeat (first | with_reducible exact Ext.rfl' _ | with_reducible assumption | with_reducible refine Ext.al ?_ _ | with_reducible refine Ext.dr ?_ | with_reducible refine Ext.st ?_ (by simp) _ | with_reducible refine Ext.tr ?_ (by assumption)))⟩
/-- What the reference's Least has found among the first m cells. -/
def LeI (g : Gr) (cn rn : Nat) (F T : List Nat) (m : Nat) (best : Int) (found : Bool) : Prop :=
  (found = false ∧ best = 0 ∧ ∀ i, i < m → knB g.L i = true → ¬ wayA g cn rn F T (gi g.L i)) ∨
  (found = true ∧ (∃ i, i < m ∧ knB g.L i = true ∧ gi g.L i = best) ∧ wayA g cn rn F T best ∧ ∀ i, i < m → knB g.L i = true → gi g.L i < best → ¬ wayA g cn rn F T (gi g.L i))
theorem LeI.skip {g : Gr} {cn rn : Nat} {F T : List Nat} {m : Nat} {best : Int} {found : Bool} (h : LeI g cn rn F T m best found) (hs : knB g.L m = true → (found = true → gi g.L m < best) → ¬ wayA g cn rn F T (gi g.L m)) : LeI g cn rn F T (m + 1) best found := by
  rcases h with ⟨h1, h2, h3⟩ | ⟨h1, ⟨i, h2, h3, h4⟩, h5, h6⟩
  · refine .inl ⟨h1, h2, fun i hi hk => ?_⟩
    rcases Nat.lt_succ_iff_lt_or_eq.1 hi with h | h
    · exact h3 i h hk
    · subst h; exact hs hk (by rw [h1]; intro h; cases h)
  · refine .inr ⟨h1, ⟨i, by omega, h3, h4⟩, h5, fun i hi hk hlt => ?_⟩
    rcases Nat.lt_succ_iff_lt_or_eq.1 hi with h | h
    · exact h6 i h hk hlt
    · subst h; exact hs hk (fun _ => hlt)
theorem LeI.take {g : Gr} {cn rn : Nat} {F T : List Nat} {m : Nat} {best : Int} {found : Bool} (h : LeI g cn rn F T m best found) (hk : knB g.L m = true) (hb : found = true → gi g.L m < best) (hw : wayA g cn rn F T (gi g.L m)) : LeI g cn rn F T (m + 1) (gi g.L m) true := by
  refine .inr ⟨rfl, ⟨m, by omega, hk, rfl⟩, hw, fun i hi hki hlt => ?_⟩
  rcases Nat.lt_succ_iff_lt_or_eq.1 hi with h1 | h1
  · rcases h with ⟨_, _, h3⟩ | ⟨h1', _, _, h6⟩
    · exact h3 i h1 hki
    · have := hb h1'; exact h6 i h1 hki (by omega)
  · subst h1; omega
theorem roP_nil (g : Gr) (lev : Int) : roP g lev [] = naP g lev := by
  funext k
  unfold roP naP
  simp
/-- Where Least ends. -/
def OutLe (g : Gr) (cn rn : Nat) (F T : List Nat) (e : Ending) : Prop := ∃ best found, e = .returned (.tuple #[.int .i64 best, .bool found]) ∧ LeI g cn rn F T g.L.length best found
set_option maxHeartbeats 8000000 in
theorem rleast_c {g : Gr} {cn rn : Nat} {F T : List Nat} (E : EndsOk g cn rn F T) (v1 v2 v3 : Value) (w : World) (A B D : Option Addr) (c cB cD : Nat) (hA : Row 1 encZ w A g.L) (hB : Row 1 encZ w B (zl F)) (hD : Row 1 encZ w D (zl T)) :
    Calls Try.prog 58 #[.agg #[.int .i64 g.X, .int .i64 g.Y, .int .i64 g.S, .int .i64 g.C, .int .i64 g.R, .slice A g.L.length c], .agg #[.slice B F.length cB, .slice D T.length cD, v1, v2, v3]] w
      fun e w' => OutLe g cn rn F T e ∧ Ext w w' := by
  have hLe := E.len
  have hn1 := E.n1
  have HK := Lib.hid (fun k (hk : k < g.L.length) w' (hw : Ext w w') => known_c g k w' A c hk (hA.ext hw))
  have HR := Lib.hid (fun most w' (hw : Ext w w') => by
    have h := reaches_c E.hC E.c0 E.c1 E.n1 E.len E.lF E.lT E.fT most [] (by simp) v1 v2 v3 w' A B D none c cB cD 0 (hA.ext hw) (hB.ext hw) (hD.ext hw) (.inl rfl)
    rw [roP_nil] at h
    exact h)
  have HA := Lib.hid hA
  have hl : g.L.length ≤ 1024 := by omega
  clear hA hB hD E hLe hn1
  go_enter Try.func58, Try.ntmps58
  go_wp2
  have hEp : Ext w ((w.alloc (.cells #[.int .i64 g.X, .int .i64 g.Y, .int .i64 g.S, .int .i64 g.C, .int .i64 g.R, .slice A g.L.length c] 24)).alloc (.cells #[.slice B F.length cB, .slice D T.length cD, v1, v2, v3] 92)) := by (repeat (first | with_reducible exact Ext.rfl' _ | with_reducible assumption | with_reducible refine Ext.al ?_ _ | with_reducible refine Ext.dr ?_ | with_reducible refine Ext.st ?_ (by simp) _ | with_reducible refine Ext.tr ?_ (by assumption)))
  generalize hwp : (w.alloc (.cells #[.int .i64 g.X, .int .i64 g.Y, .int .i64 g.S, .int .i64 g.C, .int .i64 g.R, .slice A g.L.length c] 24)).alloc (.cells #[.slice B F.length cB, .slice D T.length cD, v1, v2, v3] 92) = wp at *
  have kg : CellsAt wp w.heap.size 0 [.int .i64 g.X, .int .i64 g.Y, .int .i64 g.S, .int .i64 g.C, .int .i64 g.R, .slice A g.L.length c] := by
    rw [← hwp]
    refine cells_six ⟨?_, ?_, ?_, ?_, ?_, ?_⟩ <;> simp [World.cell?_alloc_past, World.cell?_alloc_new, go_sem]
  have kq : ∀ j v, [.slice B F.length cB, .slice D T.length cD, v1, v2, v3][j]? = some v → wp.cell? ⟨w.heap.size + 1, j, none⟩ = some v := by
    intro j v hj
    rw [← hwp]
    match j with
    | 0 | 1 | 2 | 3 | 4 => simpa [go_sem] using hj
    | j + 5 => simp at hj
  have zp : w.heap.size < wp.heap.size := by rw [← hwp]; simp; omega
  have zq : w.heap.size + 1 < wp.heap.size := by rw [← hwp]; simp
  clear hwp
  go_loopw [6, 7, 8] (fun best fo i wr => Ext wp wr ∧ ∃ (k : Nat) (bi : Int) (f : Bool), k ≤ g.L.length ∧ i = .int .i64 k ∧ best = .int .i64 bi ∧ fo = .bool f ∧ Hid (LeI g cn rn F T k bi f)) (fun _ _ i _ => g.L.length - (intOf i).toNat)
  case atStart => exact ⟨Ext.rfl' _, 0, 0, false, Nat.zero_le _, rfl, rfl, rfl, Lib.hid (.inl ⟨rfl, rfl, fun i hi => by omega⟩)⟩
  case round =>
    obtain ⟨hr, k, bi, f, hk, rfl, rfl, rfl, hH⟩ := hrel
    have hE : Ext w wr := hEp.tr hr
    have hzp := hr.sz _ zp
    have hzq := hr.sz _ zq
    obtain ⟨g0, g1, g2, g3, g4, g5⟩ := (kg.ext hr zp).six
    have q0 := (hr.ccell _ _ zq).trans (kq 0 _ rfl)
    have q1 := (hr.ccell _ _ zq).trans (kq 1 _ rfl)
    have q2 := (hr.ccell _ _ zq).trans (kq 2 _ rfl)
    have q3 := (hr.ccell _ _ zq).trans (kq 3 _ rfl)
    have q4 := (hr.ccell _ _ zq).trans (kq 4 _ rfl)
    by_cases hlt : k < g.L.length
    · have K1 := Lib.hid (fun w' (hw : Ext w w') => HK.out k hlt w' hw)
      cases hkn : knB g.L k
      · rw [hkn] at K1
        have HN : Hid (LeI g cn rn F T (k + 1) bi f) := Lib.hid (hH.out.skip fun h => by rw [hkn] at h; cases h)
        clear hkn
        go_wp2
        refine region_grow (by kernel_rfl) (by kernel_rfl) ?_
        repeat (first | go_big_quiet_step (first | (go_at_call 95; with_reducible exact callsGrow (K1.out _ (hE.tr (Grow.ok _)))) | fail) | quiet_step (first | (go_at_call 95; with_reducible exact callsGrow (K1.out _ (hE.tr (Grow.ok _)))) | fail))
        refine wpQuiet_nil ?_
        intro w1 hb
        have hc := hb.ccell
        have hf := hb.frz
        have hs := hb.sz
        (try simp at hs); (try have hs0 := hs w.heap.size (by omega)); (try have hs1 := hs (w.heap.size + 1) (by omega)); (try have hs2 := hs (w.heap.size + 1 + 1) (by omega)); (try have hs3 := hs (w.heap.size + 1 + 1 + 1) (by omega))
        (try simp only [IntWalk.i64_left])
        go_wp2
        exact ⟨⟨by (repeat (first | with_reducible exact Ext.rfl' _ | with_reducible assumption | with_reducible refine Ext.al ?_ _ | with_reducible refine Ext.dr ?_ | with_reducible refine Ext.st ?_ (by simp) _ | with_reducible refine Ext.tr ?_ (by assumption))), k + 1, bi, f, by omega, by go_num, rfl, rfl, HN⟩, by simp [intOf]; omega⟩
      rw [hkn] at K1
      obtain ⟨bl, ol, hAe, hbl, hcl⟩ := HA.out.p1 hlt
      subst hAe
      have d1 := hcl _ hE
      rw [← gi_lt] at d1
      have hblz := hE.sz _ hbl
      have HT : Hid ((f = true → gi g.L k < bi) → wayA g cn rn F T (gi g.L k) → LeI g cn rn F T (k + 1) (gi g.L k) true) := Lib.hid fun h h2 => hH.out.take hkn h h2
      have HS : Hid (((f = true → gi g.L k < bi) → ¬ wayA g cn rn F T (gi g.L k)) → LeI g cn rn F T (k + 1) bi f) := Lib.hid fun h => hH.out.skip fun _ => h
      have HRk := Lib.hid (fun w' (hw : Ext w w') => HR.out (gi g.L k) w' hw)
      have HWA : Hid (wayA g cn rn F T (gi g.L k) = ∃ p, IsWay (adjN cn rn) (naP g (gi g.L k)) (cn * rn) F T p) := Lib.hid rfl
      rw [← HWA.out] at HRk
      clear hcl hkn hH
      generalize gi g.L k = a at *
      by_cases hgo : f = true → a < bi
      · by_cases hw : wayA g cn rn F T a
        · have R1 : Hid (∀ w', Ext w w' → Calls Try.prog 105 #[.agg #[.int .i64 g.X, .int .i64 g.Y, .int .i64 g.S, .int .i64 g.C, .int .i64 g.R, .slice (some ⟨bl, ol, none⟩) g.L.length c], .agg #[.slice B F.length cB, .slice D T.length cD, v1, v2, v3], .int .i64 a, .slice none 0 0] w' fun e w'' => e = .returned (.bool true) ∧ Ext w' w'') := Lib.hid fun w' hw' => (HRk.out w' hw').mono fun e w'' h => by
            rcases h with ⟨⟨h1, _⟩ | ⟨_, h1⟩, h2⟩
            · exact ⟨h1, h2⟩
            · exact absurd hw h1
          have HN := Lib.hid (HT.out hgo hw)
          clear HRk hw
          cases f with
          | false =>
            clear hgo
            go_wp2
            refine region_grow (by kernel_rfl) (by kernel_rfl) ?_
            repeat (first | go_big_quiet_step (first | (go_at_call 95; with_reducible exact callsGrow (K1.out _ (hE.tr (Grow.ok _)))) | (go_at_call 105; with_reducible exact callsGrow (R1.out _ (hE.tr (Grow.ok _)))) | fail) | quiet_step (first | (go_at_call 95; with_reducible exact callsGrow (K1.out _ (hE.tr (Grow.ok _)))) | (go_at_call 105; with_reducible exact callsGrow (R1.out _ (hE.tr (Grow.ok _)))) | fail))
            refine wpQuiet_nil ?_
            intro w1 hb
            have hc := hb.ccell
            have hf := hb.frz
            have hs := hb.sz
            (try simp at hs); (try have hs0 := hs w.heap.size (by omega)); (try have hs1 := hs (w.heap.size + 1) (by omega)); (try have hs2 := hs (w.heap.size + 1 + 1) (by omega)); (try have hs3 := hs (w.heap.size + 1 + 1 + 1) (by omega))
            (try simp only [IntWalk.i64_left])
            go_wp2
            exact ⟨⟨by (repeat (first | with_reducible exact Ext.rfl' _ | with_reducible assumption | with_reducible refine Ext.al ?_ _ | with_reducible refine Ext.dr ?_ | with_reducible refine Ext.st ?_ (by simp) _ | with_reducible refine Ext.tr ?_ (by assumption))), k + 1, a, true, by omega, by go_num, rfl, rfl, HN⟩, by simp [intOf]; omega⟩
          | true =>
            have hab := hgo rfl
            clear hgo
            go_wp2
            refine region_grow (by kernel_rfl) (by kernel_rfl) ?_
            repeat (first | go_big_quiet_step (first | (go_at_call 95; with_reducible exact callsGrow (K1.out _ (hE.tr (Grow.ok _)))) | (go_at_call 105; with_reducible exact callsGrow (R1.out _ (hE.tr (Grow.ok _)))) | fail) | quiet_step (first | (go_at_call 95; with_reducible exact callsGrow (K1.out _ (hE.tr (Grow.ok _)))) | (go_at_call 105; with_reducible exact callsGrow (R1.out _ (hE.tr (Grow.ok _)))) | fail))
            refine wpQuiet_nil ?_
            intro w1 hb
            have hc := hb.ccell
            have hf := hb.frz
            have hs := hb.sz
            (try simp at hs); (try have hs0 := hs w.heap.size (by omega)); (try have hs1 := hs (w.heap.size + 1) (by omega)); (try have hs2 := hs (w.heap.size + 1 + 1) (by omega)); (try have hs3 := hs (w.heap.size + 1 + 1 + 1) (by omega))
            (try simp only [IntWalk.i64_left])
            go_wp2
            exact ⟨⟨by (repeat (first | with_reducible exact Ext.rfl' _ | with_reducible assumption | with_reducible refine Ext.al ?_ _ | with_reducible refine Ext.dr ?_ | with_reducible refine Ext.st ?_ (by simp) _ | with_reducible refine Ext.tr ?_ (by assumption))), k + 1, a, true, by omega, by go_num, rfl, rfl, HN⟩, by simp [intOf]; omega⟩
        · have R1 : Hid (∀ w', Ext w w' → Calls Try.prog 105 #[.agg #[.int .i64 g.X, .int .i64 g.Y, .int .i64 g.S, .int .i64 g.C, .int .i64 g.R, .slice (some ⟨bl, ol, none⟩) g.L.length c], .agg #[.slice B F.length cB, .slice D T.length cD, v1, v2, v3], .int .i64 a, .slice none 0 0] w' fun e w'' => e = .returned (.bool false) ∧ Ext w' w'') := Lib.hid fun w' hw' => (HRk.out w' hw').mono fun e w'' h => by
            rcases h with ⟨⟨_, h1⟩ | ⟨h1, _⟩, h2⟩
            · exact absurd h1 hw
            · exact ⟨h1, h2⟩
          have HN := Lib.hid (HS.out fun _ => hw)
          clear HRk hw
          cases f with
          | false =>
            clear hgo
            go_wp2
            refine region_grow (by kernel_rfl) (by kernel_rfl) ?_
            repeat (first | go_big_quiet_step (first | (go_at_call 95; with_reducible exact callsGrow (K1.out _ (hE.tr (Grow.ok _)))) | (go_at_call 105; with_reducible exact callsGrow (R1.out _ (hE.tr (Grow.ok _)))) | fail) | quiet_step (first | (go_at_call 95; with_reducible exact callsGrow (K1.out _ (hE.tr (Grow.ok _)))) | (go_at_call 105; with_reducible exact callsGrow (R1.out _ (hE.tr (Grow.ok _)))) | fail))
            refine wpQuiet_nil ?_
            intro w1 hb
            have hc := hb.ccell
            have hf := hb.frz
            have hs := hb.sz
            (try simp at hs); (try have hs0 := hs w.heap.size (by omega)); (try have hs1 := hs (w.heap.size + 1) (by omega)); (try have hs2 := hs (w.heap.size + 1 + 1) (by omega)); (try have hs3 := hs (w.heap.size + 1 + 1 + 1) (by omega))
            (try simp only [IntWalk.i64_left])
            go_wp2
            exact ⟨⟨by (repeat (first | with_reducible exact Ext.rfl' _ | with_reducible assumption | with_reducible refine Ext.al ?_ _ | with_reducible refine Ext.dr ?_ | with_reducible refine Ext.st ?_ (by simp) _ | with_reducible refine Ext.tr ?_ (by assumption))), k + 1, bi, false, by omega, by go_num, rfl, rfl, HN⟩, by simp [intOf]; omega⟩
          | true =>
            have hab := hgo rfl
            clear hgo
            go_wp2
            refine region_grow (by kernel_rfl) (by kernel_rfl) ?_
            repeat (first | go_big_quiet_step (first | (go_at_call 95; with_reducible exact callsGrow (K1.out _ (hE.tr (Grow.ok _)))) | (go_at_call 105; with_reducible exact callsGrow (R1.out _ (hE.tr (Grow.ok _)))) | fail) | quiet_step (first | (go_at_call 95; with_reducible exact callsGrow (K1.out _ (hE.tr (Grow.ok _)))) | (go_at_call 105; with_reducible exact callsGrow (R1.out _ (hE.tr (Grow.ok _)))) | fail))
            refine wpQuiet_nil ?_
            intro w1 hb
            have hc := hb.ccell
            have hf := hb.frz
            have hs := hb.sz
            (try simp at hs); (try have hs0 := hs w.heap.size (by omega)); (try have hs1 := hs (w.heap.size + 1) (by omega)); (try have hs2 := hs (w.heap.size + 1 + 1) (by omega)); (try have hs3 := hs (w.heap.size + 1 + 1 + 1) (by omega))
            (try simp only [IntWalk.i64_left])
            go_wp2
            exact ⟨⟨by (repeat (first | with_reducible exact Ext.rfl' _ | with_reducible assumption | with_reducible refine Ext.al ?_ _ | with_reducible refine Ext.dr ?_ | with_reducible refine Ext.st ?_ (by simp) _ | with_reducible refine Ext.tr ?_ (by assumption))), k + 1, bi, true, by omega, by go_num, rfl, rfl, HN⟩, by simp [intOf]; omega⟩
      · have HN := Lib.hid (HS.out fun h => absurd h hgo)
        have hft : f = true := by
          cases f with
          | false => exact absurd (fun h => by cases h) hgo
          | true => rfl
        subst hft
        have hab : decide (a < bi) = false := decide_eq_false fun h => hgo fun _ => h
        clear hgo HRk
        go_wp2
        refine region_grow (by kernel_rfl) (by kernel_rfl) ?_
        repeat (first | go_big_quiet_step (first | (go_at_call 95; with_reducible exact callsGrow (K1.out _ (hE.tr (Grow.ok _)))) | fail) | quiet_step (first | (go_at_call 95; with_reducible exact callsGrow (K1.out _ (hE.tr (Grow.ok _)))) | fail))
        refine wpQuiet_nil ?_
        intro w1 hb
        have hc := hb.ccell
        have hf := hb.frz
        have hs := hb.sz
        (try simp at hs); (try have hs0 := hs w.heap.size (by omega)); (try have hs1 := hs (w.heap.size + 1) (by omega)); (try have hs2 := hs (w.heap.size + 1 + 1) (by omega)); (try have hs3 := hs (w.heap.size + 1 + 1 + 1) (by omega))
        (try simp only [IntWalk.i64_left])
        go_wp2
        exact ⟨⟨by (repeat (first | with_reducible exact Ext.rfl' _ | with_reducible assumption | with_reducible refine Ext.al ?_ _ | with_reducible refine Ext.dr ?_ | with_reducible refine Ext.st ?_ (by simp) _ | with_reducible refine Ext.tr ?_ (by assumption))), k + 1, bi, true, by omega, by go_num, rfl, rfl, HN⟩, by simp [intOf]; omega⟩
    · have hks : k = g.L.length := by omega
      subst hks
      go_wp2
      exact bodyPost_ret (v := .tuple #[.int .i64 bi, .bool f]) (by simp [results, Try.results58, go_sem]) rfl ⟨⟨bi, f, rfl, hH.out⟩, by (repeat (first | with_reducible exact Ext.rfl' _ | with_reducible assumption | with_reducible refine Ext.al ?_ _ | with_reducible refine Ext.dr ?_ | with_reducible refine Ext.st ?_ (by simp) _ | with_reducible refine Ext.tr ?_ (by assumption)))⟩
end Go.Proofs.Ytgnakeemcccfjaa

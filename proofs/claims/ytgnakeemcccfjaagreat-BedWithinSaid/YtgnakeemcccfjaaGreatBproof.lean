/- The contracts of CheckClear and of what it calls. -/
import Derived.Test.YtgnakeemcccfjaaGreatBclear
namespace Go.Proofs.YtgnakeemcccfjaaGreat
open Go Go.RowKit Go.IntWalk

theorem notB_eq {x y : Bool} : (!x || y) = !(x && !y) := by cases x <;> cases y <;> rfl
set_option maxHeartbeats 2000000 in
theorem barrier1_c (g : Gr) (f : Int → Bool) (n k p q b : Nat) (w : World) (A : Option Addr) (c : Nat) (hk : k < g.L.length) (hl : g.L.length ≤ 1100) (hA : Row 1 encZ w A g.L) (hp : BoxG w p g A c) (hq : w.cell? ⟨q, 0, none⟩ = some (.map (some b))) (hqz : q < w.heap.size) (hS : SetZ w b n f) :
    Calls Tryz.prog 98 #[.int .i64 k, .pointer (some ⟨p, 0, none⟩), .pointer (some ⟨q, 0, none⟩)] w fun e w' => e = .returned (.bool (knB g.L k && !(f k))) ∧ Ext w w' := by
  have HK := Lib.hid (fun w' (hw : Ext w w') => isKnown_c g k w' A c hk (by unfold maxLen; omega) (hA.ext hw))
  obtain ⟨hpz, hp⟩ := hp
  obtain ⟨g0, g1, g2, g3, g4, g5⟩ := hp.six
  have HLK := Lib.hid (fun w' (hw : Ext w w') => (hS.ext hw).look k (wf_of (by omega) (by omega)))
  clear hp hS
  cases hkn : knB g.L k
  · rw [hkn] at HK
    clear hkn
    go_enter Tryz.func98, Tryz.ntmps98
    go_wp2_with (first | (go_at_call 35; with_reducible refine Calls.mono (HK.out _ (by (repeat (first | with_reducible exact Ext.rfl' _ | with_reducible assumption | with_reducible refine Ext.al ?_ _ | with_reducible refine Ext.dr ?_ | with_reducible refine Ext.st ?_ (by simp) _ | with_reducible refine Ext.tr ?_ (by assumption))))) ?_; rintro e w1 ⟨rfl, hb⟩; have hc := hb.ccell; have hf := hb.frz; have hs := hb.sz; (try simp at hs); (try have hs0 := hs w.heap.size (by omega)); (try have hs1 := hs (w.heap.size + 1) (by omega)); (try have hs2 := hs (w.heap.size + 1 + 1) (by omega)); (try have hs3 := hs (w.heap.size + 1 + 1 + 1) (by omega))))
    go_ret
    exact ⟨rfl, by (repeat (first | with_reducible exact Ext.rfl' _ | with_reducible assumption | with_reducible refine Ext.al ?_ _ | with_reducible refine Ext.dr ?_ | with_reducible refine Ext.st ?_ (by simp) _ | with_reducible refine Ext.tr ?_ (by assumption)))⟩
  · rw [hkn] at HK
    clear hkn
    go_enter Tryz.func98, Tryz.ntmps98
    go_wp2_with (first | ((go_at_call 35; with_reducible refine Calls.mono (HK.out _ (by (repeat (first | with_reducible exact Ext.rfl' _ | with_reducible assumption | with_reducible refine Ext.al ?_ _ | with_reducible refine Ext.dr ?_ | with_reducible refine Ext.st ?_ (by simp) _ | with_reducible refine Ext.tr ?_ (by assumption))))) ?_; rintro e w1 ⟨rfl, hb⟩; have hc := hb.ccell; have hf := hb.frz; have hs := hb.sz; (try simp at hs); (try have hs0 := hs w.heap.size (by omega)); (try have hs1 := hs (w.heap.size + 1) (by omega)); (try have hs2 := hs (w.heap.size + 1 + 1) (by omega)); (try have hs3 := hs (w.heap.size + 1 + 1 + 1) (by omega))); have hlk := HLK.out w1 hb))
    go_ret
    exact ⟨rfl, by (repeat (first | with_reducible exact Ext.rfl' _ | with_reducible assumption | with_reducible refine Ext.al ?_ _ | with_reducible refine Ext.dr ?_ | with_reducible refine Ext.st ?_ (by simp) _ | with_reducible refine Ext.tr ?_ (by assumption)))⟩
theorem areN_c (g : Gr) (cn rn i : Nat) (j : Int) (w : World) (A : Option Addr) (c : Nat) (hC : g.C = cn) (hR : g.R = rn) (h0 : 0 < cn) (h1 : cn ≤ 1024) (h2 : rn ≤ 1024) (hi : i < cn * rn) (hn : cn * rn ≤ 1024) :
    Calls Tryz.prog 97 #[.agg #[.int .i64 g.X, .int .i64 g.Y, .int .i64 g.S, .int .i64 g.C, .int .i64 g.R, .slice A g.L.length c], .int .i64 i, .int .i64 j] w fun e w' => e = .returned (.bool (decide (j ∈ zl (nbr cn rn i)))) ∧ Ext w w' := by
  have HN := Lib.hid (fun w' => neighbours_c g cn rn i w' A c hC hR h0 h1 h2 hi hn)
  have hlen : (zl (nbr cn rn i)).length ≤ maxLen := by
    rw [zl_len]
    have h1 : ∀ (P : Prop) [Decidable P] (x : Nat), (if P then [x] else []).length ≤ 1 := by intro P _ x; split <;> simp
    have : (nbr cn rn i).length ≤ 4 := by
      unfold nbr
      simp only [List.length_append]
      have a1 := h1 (0 < i / cn) (i - cn)
      have a2 := h1 (0 < i % cn) (i - 1)
      have a3 := h1 (i % cn + 1 < cn) (i + 1)
      have a4 := h1 (i / cn + 1 < rn) (i + cn)
      omega
    unfold maxLen; omega
  have HL := Lib.hid hlen
  clear hlen
  generalize zl (nbr cn rn i) = M at *
  clear hC hR h0 h1 h2 hi hn
  go_enter Tryz.func97, Tryz.ntmps97
  go_wp2_with (first | (go_at_call 92; (with_reducible refine Calls.mono (HN.out _) ?_); rintro e w1 ⟨⟨An, cn', rfl, hNN⟩, hb⟩; have hc := hb.ccell; have hf := hb.frz; have hs := hb.sz; (try simp at hs); (try have t0 := hs (w.heap.size) (by first | assumption | omega)); (try have t1 := hs (w.heap.size) (by first | assumption | omega)); (try have t2 := hs (w.heap.size) (by first | assumption | omega)); (try have t3 := hs (w.heap.size) (by first | assumption | omega)); (try have t4 := hs (w.heap.size) (by first | assumption | omega)); (try have t5 := hs (w.heap.size) (by first | assumption | omega))) | (go_at_call 96; with_reducible refine Calls.mono (callsOfSame (contains_c _ _ _ _ _ HL.out hNN.row)) ?_; rintro e w1 ⟨rfl, hb⟩; have hc := hb.ccell; have hf := hb.frz; have hs := hb.sz; (try simp at hs); (try have hs0 := hs w.heap.size (by omega)); (try have hs1 := hs (w.heap.size + 1) (by omega)); (try have hs2 := hs (w.heap.size + 1 + 1) (by omega)); (try have hs3 := hs (w.heap.size + 1 + 1 + 1) (by omega))))
  go_ret
  exact ⟨rfl, by (repeat (first | with_reducible exact Ext.rfl' _ | with_reducible assumption | with_reducible refine Ext.al ?_ _ | with_reducible refine Ext.dr ?_ | with_reducible refine Ext.st ?_ (by simp) _ | with_reducible refine Ext.tr ?_ (by assumption)))⟩
theorem gi_zl (p : List Nat) (k : Nat) (h : k < p.length) : gi (zl p) k = (gn p k : Int) := by rw [gi_lt _ _ (by rw [zl_len]; exact h), gn_lt p k h]; simp [zl]
/-- The highest level of a list of cells. -/
def hiL (L : List Int) (p : List Nat) : Nat → Int
  | 0 => -20000
  | k + 1 => max (hiL L p k) (gi L (gn p k))
set_option maxHeartbeats 4000000 in
theorem highestLevel_c (g : Gr) (p : List Nat) (w : World) (A B : Option Addr) (c d : Nat) (_hl : g.L.length ≤ 2000) (hp : p.length ≤ 100000) (hA : Row 1 encZ w A g.L) (hB : Row 1 encZ w B (zl p)) (hin : ∀ x ∈ p, x < g.L.length) :
    Calls Tryz.prog 69 #[.agg #[.int .i64 g.X, .int .i64 g.Y, .int .i64 g.S, .int .i64 g.C, .int .i64 g.R, .slice A g.L.length c], .slice B p.length d] w fun e w' => e = .returned (.int .i64 (hiL g.L p p.length)) ∧ Ext w w' := by
  have HIN := Lib.hid hin
  clear hin
  go_enter Tryz.func69, Tryz.ntmps69
  go_wp2
  have hEp : Ext w (w.alloc (.cells #[.int .i64 g.X, .int .i64 g.Y, .int .i64 g.S, .int .i64 g.C, .int .i64 g.R, .slice A g.L.length c] 24)) := by (repeat (first | with_reducible exact Ext.rfl' _ | with_reducible assumption | with_reducible refine Ext.al ?_ _ | with_reducible refine Ext.dr ?_ | with_reducible refine Ext.st ?_ (by simp) _ | with_reducible refine Ext.tr ?_ (by assumption)))
  have kg : CellsAt (w.alloc (.cells #[.int .i64 g.X, .int .i64 g.Y, .int .i64 g.S, .int .i64 g.C, .int .i64 g.R, .slice A g.L.length c] 24)) w.heap.size 0 [.int .i64 g.X, .int .i64 g.Y, .int .i64 g.S, .int .i64 g.C, .int .i64 g.R, .slice A g.L.length c] := by
    refine cells_six ⟨?_, ?_, ?_, ?_, ?_, ?_⟩ <;> simp [World.cell?_alloc_new, go_sem]
  have zp : w.heap.size < (w.alloc (.cells #[.int .i64 g.X, .int .i64 g.Y, .int .i64 g.S, .int .i64 g.C, .int .i64 g.R, .slice A g.L.length c] 24)).heap.size := by simp
  generalize w.alloc (.cells #[.int .i64 g.X, .int .i64 g.Y, .int .i64 g.S, .int .i64 g.C, .int .i64 g.R, .slice A g.L.length c] 24) = wp at *
  go_loopw [5, 7, 10] (fun v _ i wr => Ext wp wr ∧ ∃ k : Nat, k ≤ p.length ∧ i = .int .i64 k ∧ v = .int .i64 (hiL g.L p k)) (fun _ _ i _ => p.length - (intOf i).toNat)
  case atStart => exact ⟨Ext.rfl' _, 0, Nat.zero_le _, rfl, rfl⟩
  case round =>
    obtain ⟨hr, k, hk, rfl, rfl⟩ := hrel
    have hE : Ext w wr := hEp.tr hr
    by_cases hlt : k < p.length
    · obtain ⟨b, off, rfl, hb0, hcell⟩ := hB.p1 (by rw [zl_len]; exact hlt)
      have c1 := hcell _ hE
      have hz := hE.sz _ hb0
      rw [← gi_lt, gi_zl p k hlt] at c1
      have hx := HIN.out (gn p k) (by rw [gn_lt p k hlt]; exact List.getElem_mem hlt)
      have hst : hiL g.L p (k + 1) = max (hiL g.L p k) (gi g.L (gn p k)) := rfl
      obtain ⟨b2, off2, rfl, hb2, hcell2⟩ := hA.p1 hx
      have c2 := hcell2 _ hE
      have hz2 := hE.sz _ hb2
      rw [← gi_lt] at c2
      obtain ⟨g0, g1, g2, g3, g4, g5⟩ := (kg.ext hr zp).six
      have hzp := hr.sz _ zp
      generalize gn p k = i at *
      generalize gi g.L i = v at *
      generalize hiL g.L p k = V at *
      have HS := Lib.hid hst
      clear hcell hcell2 hst
      go_wp2
      exact ⟨⟨by (repeat (first | with_reducible exact Ext.rfl' _ | with_reducible assumption | with_reducible refine Ext.al ?_ _ | with_reducible refine Ext.dr ?_ | with_reducible refine Ext.st ?_ (by simp) _ | with_reducible refine Ext.tr ?_ (by assumption))), k + 1, by omega, by go_num, (by rw [HS.out])⟩, by simp [intOf]; omega⟩
    · have hks : k = p.length := by omega
      subst hks
      go_wp2
      go_ret
      exact ⟨rfl, by (repeat (first | with_reducible exact Ext.rfl' _ | with_reducible assumption | with_reducible refine Ext.al ?_ _ | with_reducible refine Ext.dr ?_ | with_reducible refine Ext.st ?_ (by simp) _ | with_reducible refine Ext.tr ?_ (by assumption)))⟩
/-! ### isWay -/
def stepB (g : Gr) (cn rn : Nat) (P : List Int) (k : Nat) : Bool :=
  (decide (0 ≤ gi P k) && decide (gi P k < g.L.length)) && (knB g.L (gi P k).toNat && (k == 0 || decide (gi P k ∈ zl (nbr cn rn (gi P (k - 1)).toNat))))
def isWayB (g : Gr) (cn rn : Nat) (F T P : List Int) : Bool :=
  decide (P ≠ []) && (decide (gi P 0 ∈ F) && (decide (gi P (P.length - 1) ∈ T) && !(anyN (fun k => !(stepB g cn rn P k)) P.length)))
set_option maxHeartbeats 8000000 in
theorem isWay_c (g : Gr) (cn rn : Nat) (F T P Q : List Int) (lev : Int) (w : World) (A B D Ap Aq : Option Addr) (c cB cD cP cQ : Nat) (hC : g.C = cn) (hR : g.R = rn) (h0 : 0 < cn) (h1 : cn ≤ 1024) (h2 : rn ≤ 1024) (hn : cn * rn ≤ 1024) (hL : g.L.length = cn * rn)
    (hFl : F.length ≤ 50000) (hTl : T.length ≤ 50000) (hPl : P.length ≤ 50000) (hA : Row 1 encZ w A g.L) (hB : Row 1 encZ w B F) (hD : Row 1 encZ w D T) (hP : Row 1 encZ w Ap P) :
    Calls Tryz.prog 68 #[.agg #[.int .i64 g.X, .int .i64 g.Y, .int .i64 g.S, .int .i64 g.C, .int .i64 g.R, .slice A g.L.length c], .agg #[.slice B F.length cB, .slice D T.length cD, .int .i64 lev, .slice Ap P.length cP, .slice Aq Q.length cQ]] w fun e w' => e = .returned (.bool (isWayB g cn rn F T P)) ∧ Ext w w' := by
  have HIC := Lib.hid (fun i w' => isCell_c g i w' A c (by unfold maxLen; omega))
  have HK := Lib.hid (fun k (hk : k < g.L.length) w' (hw : Ext w w') => isKnown_c g k w' A c hk (by unfold maxLen; omega) (hA.ext hw))
  have HN := Lib.hid (fun i (hi : i < g.L.length) j w' => areN_c g cn rn i j w' A c hC hR h0 h1 h2 (by omega) hn)
  have HCF := Lib.hid (fun x w' (hw : Ext w w') => callsOfSame (contains_c w' B cB F x (by unfold maxLen; omega) (hB.ext hw)))
  have HCT := Lib.hid (fun x w' (hw : Ext w w') => callsOfSame (contains_c w' D cD T x (by unfold maxLen; omega) (hD.ext hw)))
  clear hC hR h0 h1 h2 hn hL hFl hTl hA hB hD
  by_cases hP0 : P = []
  · subst hP0
    rw [show isWayB g cn rn F T [] = false from rfl]
    clear HIC HK HN HCF HCT hP
    go_enter Tryz.func68, Tryz.ntmps68
    go_upto_region 2 with fail
    refine region_grow (by kernel_rfl) (by kernel_rfl) ?_
    repeat (first | go_big_quiet_step (first | fail | fail) | quiet_step (first | fail | fail))
    refine wpQuiet_nil ?_
    intro w1 hb
    have hc := hb.ccell
    have hf := hb.frz
    have hs := hb.sz
    (try simp at hs); (try have hs0 := hs w.heap.size (by omega)); (try have hs1 := hs (w.heap.size + 1) (by omega)); (try have hs2 := hs (w.heap.size + 1 + 1) (by omega)); (try have hs3 := hs (w.heap.size + 1 + 1 + 1) (by omega))
    (try simp only [IntWalk.i64_left])
    go_wp2
    go_ret
    exact ⟨rfl, by (repeat (first | with_reducible exact Ext.rfl' _ | with_reducible assumption | with_reducible refine Ext.al ?_ _ | with_reducible refine Ext.dr ?_ | with_reducible refine Ext.st ?_ (by simp) _ | with_reducible refine Ext.tr ?_ (by assumption)))⟩
  obtain ⟨Z, hZ⟩ : ∃ Z, isWayB g cn rn F T P = Z := ⟨_, rfl⟩
  rw [hZ]
  unfold isWayB at hZ
  rw [decide_eq_true hP0, Bool.true_and] at hZ
  have hlen : 0 < P.length := List.length_pos_iff.2 hP0
  obtain ⟨m, hm⟩ : ∃ m, P.length = m + 1 := ⟨P.length - 1, by omega⟩
  have HP := Lib.hid hP
  have HM := Lib.hid hm
  obtain ⟨bp, op, hAp, hbp, hcell⟩ := hP.p1 hlen
  subst hAp
  have c0 := hcell _ (Ext.rfl' w)
  rw [← gi_lt] at c0
  have cm := (hP.p1 (k := m) (by omega))
  obtain ⟨b', o', e', _, hcm⟩ := cm
  injection e' with e'
  injection e' with e1 e2
  subst e1 e2
  have cm := hcm _ (Ext.rfl' w)
  rw [← gi_lt] at cm
  rw [hm, Nat.add_sub_cancel] at hZ
  rw [hm]
  have HZ := Lib.hid hZ
  obtain ⟨x0, hx0⟩ : ∃ x, gi P 0 = x := ⟨_, rfl⟩
  obtain ⟨xm, hxm⟩ : ∃ x, gi P m = x := ⟨_, rfl⟩
  rw [hx0] at c0 HZ
  rw [hxm] at cm HZ
  simp only [Nat.add_zero] at c0
  clear hZ hcell hcm hP hx0 hxm hm hP0
  have hne0 : (((m : Int) + 1) == 0) = false := by rw [beq_eq_false_iff_ne]; omega
  have hmb : m ≤ 50000 := by have := HM.out; omega
  have hbp1 : bp < w.heap.size + 1 := by omega
  have hbp2 : bp < w.heap.size + 1 + 1 := by omega
  have HFx := Lib.hid (fun w' (hw : Ext w w') => HCF.out x0 w' hw)
  have HTx := Lib.hid (fun w' (hw : Ext w w') => HCT.out xm w' hw)
  clear HCF HCT
  cases hf0 : decide (x0 ∈ F)
  · rw [hf0] at HFx HZ
    have hz := HZ.out
    rw [Bool.false_and] at hz
    subst hz
    clear hf0 HZ HTx HIC HK HN
    go_enter Tryz.func68, Tryz.ntmps68
    go_upto_region 2 with fail
    refine region_grow (by kernel_rfl) (by kernel_rfl) ?_
    repeat (first | go_big_quiet_step (first | (go_at_call 96; with_reducible exact callsGrow (HFx.out _ (Ext.tr (by (repeat (first | with_reducible exact Ext.rfl' _ | with_reducible assumption | with_reducible refine Ext.al ?_ _ | with_reducible refine Ext.dr ?_ | with_reducible refine Ext.st ?_ (by simp) _ | with_reducible refine Ext.tr ?_ (by assumption)))) (Grow.ok _)))) | fail) | quiet_step (first | (go_at_call 96; with_reducible exact callsGrow (HFx.out _ (Ext.tr (by (repeat (first | with_reducible exact Ext.rfl' _ | with_reducible assumption | with_reducible refine Ext.al ?_ _ | with_reducible refine Ext.dr ?_ | with_reducible refine Ext.st ?_ (by simp) _ | with_reducible refine Ext.tr ?_ (by assumption)))) (Grow.ok _)))) | fail))
    refine wpQuiet_nil ?_
    intro w1 hb
    have hc := hb.ccell
    have hf := hb.frz
    have hs := hb.sz
    (try simp at hs); (try have hs0 := hs w.heap.size (by omega)); (try have hs1 := hs (w.heap.size + 1) (by omega)); (try have hs2 := hs (w.heap.size + 1 + 1) (by omega)); (try have hs3 := hs (w.heap.size + 1 + 1 + 1) (by omega))
    (try simp only [IntWalk.i64_left])
    go_wp2
    go_ret
    exact ⟨rfl, by (repeat (first | with_reducible exact Ext.rfl' _ | with_reducible assumption | with_reducible refine Ext.al ?_ _ | with_reducible refine Ext.dr ?_ | with_reducible refine Ext.st ?_ (by simp) _ | with_reducible refine Ext.tr ?_ (by assumption)))⟩
  rw [hf0, Bool.true_and] at HZ
  rw [hf0] at HFx
  clear hf0
  cases ht0 : decide (xm ∈ T)
  · rw [ht0] at HTx HZ
    have hz := HZ.out
    rw [Bool.false_and] at hz
    subst hz
    clear ht0 HZ HIC HK HN
    go_enter Tryz.func68, Tryz.ntmps68
    go_upto_region 2 with fail
    refine region_grow (by kernel_rfl) (by kernel_rfl) ?_
    repeat (first | go_big_quiet_step (first | (go_at_call 96; with_reducible exact callsGrow (HFx.out _ (Ext.tr (by (repeat (first | with_reducible exact Ext.rfl' _ | with_reducible assumption | with_reducible refine Ext.al ?_ _ | with_reducible refine Ext.dr ?_ | with_reducible refine Ext.st ?_ (by simp) _ | with_reducible refine Ext.tr ?_ (by assumption)))) (Grow.ok _)))) | (go_at_call 96; with_reducible exact callsGrow (HTx.out _ (Ext.tr (by (repeat (first | with_reducible exact Ext.rfl' _ | with_reducible assumption | with_reducible refine Ext.al ?_ _ | with_reducible refine Ext.dr ?_ | with_reducible refine Ext.st ?_ (by simp) _ | with_reducible refine Ext.tr ?_ (by assumption)))) (Grow.ok _)))) | fail) | quiet_step (first | (go_at_call 96; with_reducible exact callsGrow (HFx.out _ (Ext.tr (by (repeat (first | with_reducible exact Ext.rfl' _ | with_reducible assumption | with_reducible refine Ext.al ?_ _ | with_reducible refine Ext.dr ?_ | with_reducible refine Ext.st ?_ (by simp) _ | with_reducible refine Ext.tr ?_ (by assumption)))) (Grow.ok _)))) | (go_at_call 96; with_reducible exact callsGrow (HTx.out _ (Ext.tr (by (repeat (first | with_reducible exact Ext.rfl' _ | with_reducible assumption | with_reducible refine Ext.al ?_ _ | with_reducible refine Ext.dr ?_ | with_reducible refine Ext.st ?_ (by simp) _ | with_reducible refine Ext.tr ?_ (by assumption)))) (Grow.ok _)))) | fail))
    refine wpQuiet_nil ?_
    intro w1 hb
    have hc := hb.ccell
    have hf := hb.frz
    have hs := hb.sz
    (try simp at hs); (try have hs0 := hs w.heap.size (by omega)); (try have hs1 := hs (w.heap.size + 1) (by omega)); (try have hs2 := hs (w.heap.size + 1 + 1) (by omega)); (try have hs3 := hs (w.heap.size + 1 + 1 + 1) (by omega))
    (try simp only [IntWalk.i64_left])
    go_wp2
    go_ret
    exact ⟨rfl, by (repeat (first | with_reducible exact Ext.rfl' _ | with_reducible assumption | with_reducible refine Ext.al ?_ _ | with_reducible refine Ext.dr ?_ | with_reducible refine Ext.st ?_ (by simp) _ | with_reducible refine Ext.tr ?_ (by assumption)))⟩
  rw [ht0, Bool.true_and] at HZ
  rw [ht0] at HTx
  clear ht0
  go_enter Tryz.func68, Tryz.ntmps68
  go_upto_region 2 with fail
  refine region_grow (by kernel_rfl) (by kernel_rfl) ?_
  repeat (first | go_big_quiet_step (first | (go_at_call 96; with_reducible exact callsGrow (HFx.out _ (Ext.tr (by (repeat (first | with_reducible exact Ext.rfl' _ | with_reducible assumption | with_reducible refine Ext.al ?_ _ | with_reducible refine Ext.dr ?_ | with_reducible refine Ext.st ?_ (by simp) _ | with_reducible refine Ext.tr ?_ (by assumption)))) (Grow.ok _)))) | (go_at_call 96; with_reducible exact callsGrow (HTx.out _ (Ext.tr (by (repeat (first | with_reducible exact Ext.rfl' _ | with_reducible assumption | with_reducible refine Ext.al ?_ _ | with_reducible refine Ext.dr ?_ | with_reducible refine Ext.st ?_ (by simp) _ | with_reducible refine Ext.tr ?_ (by assumption)))) (Grow.ok _)))) | fail) | quiet_step (first | (go_at_call 96; with_reducible exact callsGrow (HFx.out _ (Ext.tr (by (repeat (first | with_reducible exact Ext.rfl' _ | with_reducible assumption | with_reducible refine Ext.al ?_ _ | with_reducible refine Ext.dr ?_ | with_reducible refine Ext.st ?_ (by simp) _ | with_reducible refine Ext.tr ?_ (by assumption)))) (Grow.ok _)))) | (go_at_call 96; with_reducible exact callsGrow (HTx.out _ (Ext.tr (by (repeat (first | with_reducible exact Ext.rfl' _ | with_reducible assumption | with_reducible refine Ext.al ?_ _ | with_reducible refine Ext.dr ?_ | with_reducible refine Ext.st ?_ (by simp) _ | with_reducible refine Ext.tr ?_ (by assumption)))) (Grow.ok _)))) | fail))
  refine wpQuiet_nil ?_
  intro w1 hb
  have hc := hb.ccell
  have hf := hb.frz
  have hs := hb.sz
  (try simp at hs); (try have hs0 := hs w.heap.size (by omega)); (try have hs1 := hs (w.heap.size + 1) (by omega)); (try have hs2 := hs (w.heap.size + 1 + 1) (by omega)); (try have hs3 := hs (w.heap.size + 1 + 1 + 1) (by omega))
  (try simp only [IntWalk.i64_left])
  go_wp2
  have hE1 : Ext w w1 := by (repeat (first | with_reducible exact Ext.rfl' _ | with_reducible assumption | with_reducible refine Ext.al ?_ _ | with_reducible refine Ext.dr ?_ | with_reducible refine Ext.st ?_ (by simp) _ | with_reducible refine Ext.tr ?_ (by assumption)))
  have kg : CellsAt w1 w.heap.size 0 [.int .i64 g.X, .int .i64 g.Y, .int .i64 g.S, .int .i64 g.C, .int .i64 g.R, .slice A g.L.length c] := by
    refine cells_six ⟨?_, ?_, ?_, ?_, ?_, ?_⟩ <;> simp [*, go_sem]
  clear hc hf hb hs hs1 HFx HTx hbp1 hbp2 hne0
  go_loopw [6, 7, 37] (fun _ _ i wr => Ext w1 wr ∧ ∃ k : Nat, k ≤ m + 1 ∧ i = .int .i64 k ∧ Hid (anyN (fun k => !(stepB g cn rn P k)) k = false)) (fun _ _ i _ => (m + 1) - (intOf i).toNat)
  case atStart => exact ⟨Ext.rfl' _, 0, Nat.zero_le _, rfl, rfl⟩
  case round =>
    obtain ⟨hr, k, hk, rfl, hF⟩ := hrel
    have hE : Ext w wr := hE1.tr hr
    obtain ⟨g0, g1, g2, g3, g4, g5⟩ := (kg.ext hr hs0).six
    have hzp := hr.sz _ hs0
    by_cases hlt : k < m + 1
    · obtain ⟨b', o', e', _, hck⟩ := HP.out.p1 (k := k) (by have := HM.out; omega)
      injection e' with e'
      injection e' with e1 e2
      subst e1 e2
      have ck := hck _ hE
      have hbpz := hE.sz _ hbp
      rw [← gi_lt] at ck
      obtain ⟨v, hv⟩ : ∃ v, gi P k = v := ⟨_, rfl⟩
      rw [hv] at ck
      have HV := Lib.hid hv
      have HI := Lib.hid (fun w' => HIC.out v w')
      clear hv hck
      have hfail : stepB g cn rn P k = false → Hid (false = Z) := fun h => Lib.hid (by
        rw [← HZ.out, anyN_at (fun k => !(stepB g cn rn P k)) hlt (by rw [h]; rfl)]; rfl)
      have hgo : stepB g cn rn P k = true → Hid (anyN (fun k => !(stepB g cn rn P k)) (k + 1) = false) := fun h => Lib.hid (by
        rw [anyN, hF.out, h]; rfl)
      have hsb : stepB g cn rn P k = ((decide (0 ≤ v) && decide (v < g.L.length)) && (knB g.L v.toNat && (k == 0 || decide (v ∈ zl (nbr cn rn (gi P (k - 1)).toNat))))) := by unfold stepB; rw [HV.out]
      have HSB := Lib.hid hsb
      have HFA := Lib.hid hfail
      have HGO := Lib.hid hgo
      clear hsb hfail hgo
      cases hq : (decide (0 ≤ v) && decide (v < g.L.length))
      · rw [hq] at HI
        have hz := HFA.out (by rw [HSB.out, hq]; rfl)
        clear hq
        go_upto_region 7 with fail
        refine region_grow (by kernel_rfl) (by kernel_rfl) ?_
        repeat (first | go_big_quiet_step (first | (go_at_call 75; with_reducible exact callsGrow (HI.out _)) | fail) | quiet_step (first | (go_at_call 75; with_reducible exact callsGrow (HI.out _)) | fail))
        refine wpQuiet_nil ?_
        intro w1 hb
        have hc := hb.ccell
        have hf := hb.frz
        have hs := hb.sz
        (try simp at hs); (try have hs0 := hs w.heap.size (by omega)); (try have hs1 := hs (w.heap.size + 1) (by omega)); (try have hs2 := hs (w.heap.size + 1 + 1) (by omega)); (try have hs3 := hs (w.heap.size + 1 + 1 + 1) (by omega))
        (try simp only [IntWalk.i64_left])
        go_wp2
        go_ret
        exact ⟨ret_bool hz.out, by (repeat (first | with_reducible exact Ext.rfl' _ | with_reducible assumption | with_reducible refine Ext.al ?_ _ | with_reducible refine Ext.dr ?_ | with_reducible refine Ext.st ?_ (by simp) _ | with_reducible refine Ext.tr ?_ (by assumption)))⟩
      have hv0 : 0 ≤ v ∧ v < g.L.length := by simpa using hq
      obtain ⟨j, rfl⟩ : ∃ j : Nat, v = j := ⟨v.toNat, by omega⟩
      have hj : j < g.L.length := by omega
      have HKj := Lib.hid (fun w' (hw : Ext wr w') => HK.out j hj w' (hE.tr hw))
      rw [hq] at HI HSB
      rw [show ((j : Int).toNat) = j from rfl, Bool.true_and] at HSB
      clear hq hv0
      cases hkn : knB g.L j
      · rw [hkn] at HKj HSB
        have hz := HFA.out (by rw [HSB.out]; rfl)
        clear hkn
        go_upto_region 7 with fail
        refine region_grow (by kernel_rfl) (by kernel_rfl) ?_
        repeat (first | go_big_quiet_step (first | (go_at_call 75; with_reducible exact callsGrow (HI.out _)) | (go_at_call 35; with_reducible exact callsGrow (HKj.out _ (Grow.ok _))) | fail) | quiet_step (first | (go_at_call 75; with_reducible exact callsGrow (HI.out _)) | (go_at_call 35; with_reducible exact callsGrow (HKj.out _ (Grow.ok _))) | fail))
        refine wpQuiet_nil ?_
        intro w1 hb
        have hc := hb.ccell
        have hf := hb.frz
        have hs := hb.sz
        (try simp at hs); (try have hs0 := hs w.heap.size (by omega)); (try have hs1 := hs (w.heap.size + 1) (by omega)); (try have hs2 := hs (w.heap.size + 1 + 1) (by omega)); (try have hs3 := hs (w.heap.size + 1 + 1 + 1) (by omega))
        (try simp only [IntWalk.i64_left])
        go_wp2
        go_ret
        exact ⟨ret_bool hz.out, by (repeat (first | with_reducible exact Ext.rfl' _ | with_reducible assumption | with_reducible refine Ext.al ?_ _ | with_reducible refine Ext.dr ?_ | with_reducible refine Ext.st ?_ (by simp) _ | with_reducible refine Ext.tr ?_ (by assumption)))⟩
      rw [hkn] at HKj HSB
      rw [Bool.true_and] at HSB
      clear hkn
      by_cases hk0 : k = 0
      · subst hk0
        simp only [Nat.add_zero] at ck
        have hgo := HGO.out (by rw [HSB.out]; rfl)
        go_upto_region 7 with fail
        refine region_grow (by kernel_rfl) (by kernel_rfl) ?_
        repeat (first | go_big_quiet_step (first | (go_at_call 75; with_reducible exact callsGrow (HI.out _)) | (go_at_call 35; with_reducible exact callsGrow (HKj.out _ (Grow.ok _))) | fail) | quiet_step (first | (go_at_call 75; with_reducible exact callsGrow (HI.out _)) | (go_at_call 35; with_reducible exact callsGrow (HKj.out _ (Grow.ok _))) | fail))
        refine wpQuiet_nil ?_
        intro w1 hb
        have hc := hb.ccell
        have hf := hb.frz
        have hs := hb.sz
        (try simp at hs); (try have hs0 := hs w.heap.size (by omega)); (try have hs1 := hs (w.heap.size + 1) (by omega)); (try have hs2 := hs (w.heap.size + 1 + 1) (by omega)); (try have hs3 := hs (w.heap.size + 1 + 1 + 1) (by omega))
        (try simp only [IntWalk.i64_left])
        go_wp2
        exact ⟨⟨by (repeat (first | with_reducible exact Ext.rfl' _ | with_reducible assumption | with_reducible refine Ext.al ?_ _ | with_reducible refine Ext.dr ?_ | with_reducible refine Ext.st ?_ (by simp) _ | with_reducible refine Ext.tr ?_ (by assumption))), 0 + 1, by omega, by go_num, hgo⟩, by first | (simp [intOf]; done) | (simp [intOf]; omega)⟩
      obtain ⟨k, rfl⟩ : ∃ k', k = k' + 1 := ⟨k - 1, by omega⟩
      rw [show (k + 1 == 0) = false from rfl, Bool.false_or, Nat.add_sub_cancel] at HSB
      obtain ⟨b', o', e', _, hck⟩ := HP.out.p1 (k := k) (by have := HM.out; omega)
      injection e' with e'
      injection e' with e1 e2
      subst e1 e2
      have ck1 := hck _ hE
      rw [← gi_lt] at ck1
      have hprev : stepB g cn rn P k = true := by
        have := (anyN_no _ _).1 hF.out k (by omega)
        simpa using this
      have hpv : 0 ≤ gi P k ∧ gi P k < g.L.length := by
        unfold stepB at hprev
        rw [Bool.and_eq_true] at hprev
        simpa using hprev.1
      obtain ⟨u, hu⟩ : ∃ u : Nat, gi P k = u := ⟨(gi P k).toNat, by omega⟩
      rw [hu] at ck1 HSB hpv
      rw [show ((u : Int).toNat) = u from rfl] at HSB
      have HNu := Lib.hid (fun w' => HN.out u (by omega) (j : Int) w')
      have hkk : ((k : Int) + 1) > 0 := by omega
      clear hck hprev hu hpv
      cases hq : decide ((j : Int) ∈ zl (nbr cn rn u))
      · rw [hq] at HNu HSB
        have hz := HFA.out HSB.out
        clear hq
        go_upto_region 7 with fail
        refine region_grow (by kernel_rfl) (by kernel_rfl) ?_
        repeat (first | go_big_quiet_step (first | (go_at_call 75; with_reducible exact callsGrow (HI.out _)) | (go_at_call 35; with_reducible exact callsGrow (HKj.out _ (Grow.ok _))) | (go_at_call 97; with_reducible exact callsGrow (HNu.out _)) | fail) | quiet_step (first | (go_at_call 75; with_reducible exact callsGrow (HI.out _)) | (go_at_call 35; with_reducible exact callsGrow (HKj.out _ (Grow.ok _))) | (go_at_call 97; with_reducible exact callsGrow (HNu.out _)) | fail))
        refine wpQuiet_nil ?_
        intro w1 hb
        have hc := hb.ccell
        have hf := hb.frz
        have hs := hb.sz
        (try simp at hs); (try have hs0 := hs w.heap.size (by omega)); (try have hs1 := hs (w.heap.size + 1) (by omega)); (try have hs2 := hs (w.heap.size + 1 + 1) (by omega)); (try have hs3 := hs (w.heap.size + 1 + 1 + 1) (by omega))
        (try simp only [IntWalk.i64_left])
        go_wp2
        go_ret
        exact ⟨ret_bool hz.out, by (repeat (first | with_reducible exact Ext.rfl' _ | with_reducible assumption | with_reducible refine Ext.al ?_ _ | with_reducible refine Ext.dr ?_ | with_reducible refine Ext.st ?_ (by simp) _ | with_reducible refine Ext.tr ?_ (by assumption)))⟩
      · rw [hq] at HNu HSB
        have hgo := HGO.out HSB.out
        clear hq
        go_upto_region 7 with fail
        refine region_grow (by kernel_rfl) (by kernel_rfl) ?_
        repeat (first | go_big_quiet_step (first | (go_at_call 75; with_reducible exact callsGrow (HI.out _)) | (go_at_call 35; with_reducible exact callsGrow (HKj.out _ (Grow.ok _))) | (go_at_call 97; with_reducible exact callsGrow (HNu.out _)) | fail) | quiet_step (first | (go_at_call 75; with_reducible exact callsGrow (HI.out _)) | (go_at_call 35; with_reducible exact callsGrow (HKj.out _ (Grow.ok _))) | (go_at_call 97; with_reducible exact callsGrow (HNu.out _)) | fail))
        refine wpQuiet_nil ?_
        intro w1 hb
        have hc := hb.ccell
        have hf := hb.frz
        have hs := hb.sz
        (try simp at hs); (try have hs0 := hs w.heap.size (by omega)); (try have hs1 := hs (w.heap.size + 1) (by omega)); (try have hs2 := hs (w.heap.size + 1 + 1) (by omega)); (try have hs3 := hs (w.heap.size + 1 + 1 + 1) (by omega))
        (try simp only [IntWalk.i64_left])
        go_wp2
        exact ⟨⟨by (repeat (first | with_reducible exact Ext.rfl' _ | with_reducible assumption | with_reducible refine Ext.al ?_ _ | with_reducible refine Ext.dr ?_ | with_reducible refine Ext.st ?_ (by simp) _ | with_reducible refine Ext.tr ?_ (by assumption))), k + 1 + 1, by omega, by go_num, hgo⟩, by simp [intOf]; omega⟩
    · have hks : k = m + 1 := by omega
      have hz1 : Hid (true = Z) := Lib.hid (by rw [← HZ.out, ← hks, hF.out]; rfl)
      go_wp2
      go_ret
      exact ⟨ret_bool hz1.out, by (repeat (first | with_reducible exact Ext.rfl' _ | with_reducible assumption | with_reducible refine Ext.al ?_ _ | with_reducible refine Ext.dr ?_ | with_reducible refine Ext.st ?_ (by simp) _ | with_reducible refine Ext.tr ?_ (by assumption)))⟩
/-! ### isBarrier -/
def barOk (g : Gr) (lev : Int) (Q : List Int) (k : Nat) : Bool :=
  (decide (0 ≤ gi Q k) && decide (gi Q k < g.L.length)) && (knB g.L (gi Q k).toNat && decide (lev ≤ gi g.L (gi Q k).toNat))
def opB (g : Gr) (Q : List Int) (k : Nat) : Bool := knB g.L k && !(decide ((k : Int) ∈ Q))
def BarP (g : Gr) (cn rn : Nat) (F T : List Nat) (lev : Int) (Q : List Int) : Prop :=
  anyN (fun k => !(barOk g lev Q k)) Q.length = false ∧ NoWay (adjN cn rn) (opB g Q) (cn * rn) F T
set_option maxHeartbeats 8000000 in
theorem isBarrier_c {g : Gr} {cn rn : Nat} {F T : List Nat} (E : EndsOk g cn rn F T) (P Q : List Int) (lev : Int) (w : World) (A B D Ap Aq : Option Addr) (c cB cD cP cQ : Nat)
    (hQl : Q.length ≤ 50000) (hA : Row 1 encZ w A g.L) (hB : Row 1 encZ w B (zl F)) (hD : Row 1 encZ w D (zl T)) (hQ : Row 1 encZ w Aq Q) :
    Calls Tryz.prog 70 #[.agg #[.int .i64 g.X, .int .i64 g.Y, .int .i64 g.S, .int .i64 g.C, .int .i64 g.R, .slice A g.L.length c], .agg #[.slice B F.length cB, .slice D T.length cD, .int .i64 lev, .slice Ap P.length cP, .slice Aq Q.length cQ]] w fun e w' => BoolOf (BarP g cn rn F T lev Q) e ∧ Ext w w' := by
  have hn := E.n1
  have hL := E.len
  have HIC := Lib.hid (fun i w' => isCell_c g i w' A c (by unfold maxLen; omega))
  have HK := Lib.hid (fun k (hk : k < g.L.length) w' (hw : Ext w w') => isKnown_c g k w' A c hk (by unfold maxLen; omega) (hA.ext hw))
  have HST := Lib.hid (fun w' (hw : Ext w w') (h : ∀ x ∈ Q, 0 ≤ x ∧ x ≤ 100000) => setOf_c Q w' Aq cQ (by omega) h (hQ.ext hw))
  have HFW := Lib.hid (fun p q b n w' (hw : Ext w w') (hp : BoxG w' p g A c) (hq : w'.cell? ⟨q, 0, none⟩ = some (.map (some b))) (hqz : q < w'.heap.size) (hS : SetZ w' b n (fun y => decide (y ∈ Q))) =>
    (findWayB_c g cn rn F T (opB g Q) p q w' A B D c cB cD E.hC E.hR E.c0 E.c1 E.r1 E.n1 E.fF E.fT E.lF E.lT (hB.ext hw) (hD.ext hw) (fun k hk w'' hw' =>
      barrier1_c g (fun y => decide (y ∈ Q)) n k p q b w'' A c (by omega) (by omega) (hA.ext (hw.tr hw')) (hp.ext hw') ((hw'.ccell _ _ hqz).trans hq) (hw'.sz _ hqz) (hS.ext hw'))).mono fun e w'' h => (⟨NilOr.of h.1, h.2⟩ : NilOr w'.heap.size (adjN cn rn) (opB g Q) (cn * rn) F T e w'' ∧ Ext w' w''))
  have HA := Lib.hid hA
  have HLN : Hid (g.L.length ≤ 1024) := Lib.hid (by omega)
  clear hn hL hB hD hA E
  go_enter Tryz.func70, Tryz.ntmps70
  go_wp2
  have hEp : Ext w ((w.alloc (.cells #[.int .i64 g.X, .int .i64 g.Y, .int .i64 g.S, .int .i64 g.C, .int .i64 g.R, .slice A g.L.length c] 24)).alloc (.cells #[.slice B F.length cB, .slice D T.length cD, .int .i64 lev, .slice Ap P.length cP, .slice Aq Q.length cQ] 69)) := by (repeat (first | with_reducible exact Ext.rfl' _ | with_reducible assumption | with_reducible refine Ext.al ?_ _ | with_reducible refine Ext.dr ?_ | with_reducible refine Ext.st ?_ (by simp) _ | with_reducible refine Ext.tr ?_ (by assumption)))
  generalize hwp : (w.alloc (.cells #[.int .i64 g.X, .int .i64 g.Y, .int .i64 g.S, .int .i64 g.C, .int .i64 g.R, .slice A g.L.length c] 24)).alloc (.cells #[.slice B F.length cB, .slice D T.length cD, .int .i64 lev, .slice Ap P.length cP, .slice Aq Q.length cQ] 69) = wp at *
  have kg : CellsAt wp w.heap.size 0 [.int .i64 g.X, .int .i64 g.Y, .int .i64 g.S, .int .i64 g.C, .int .i64 g.R, .slice A g.L.length c] := by
    rw [← hwp]
    refine cells_six ⟨?_, ?_, ?_, ?_, ?_, ?_⟩ <;> simp [World.cell?_alloc_past, World.cell?_alloc_new, go_sem]
  have kq0 : wp.cell? ⟨w.heap.size + 1, 0, none⟩ = some (.slice B F.length cB) := by rw [← hwp]; simp [go_sem]
  have kq1 : wp.cell? ⟨w.heap.size + 1, 1, none⟩ = some (.slice D T.length cD) := by rw [← hwp]; simp [go_sem]
  have kq2 : wp.cell? ⟨w.heap.size + 1, 2, none⟩ = some (.int .i64 lev) := by rw [← hwp]; simp [go_sem]
  have kq4 : wp.cell? ⟨w.heap.size + 1, 4, none⟩ = some (.slice Aq Q.length cQ) := by rw [← hwp]; simp [go_sem]
  have zp : w.heap.size < wp.heap.size := by rw [← hwp]; simp; omega
  have zq : w.heap.size + 1 < wp.heap.size := by rw [← hwp]; simp
  clear hwp
  go_loopw [6, 12] (fun _ i wr => Ext wp wr ∧ ∃ k : Nat, k ≤ Q.length ∧ i = .int .i64 k ∧ Hid (anyN (fun k => !(barOk g lev Q k)) k = false)) (fun _ i _ => Q.length - (intOf i).toNat)
  case atStart => exact ⟨Ext.rfl' _, 0, Nat.zero_le _, rfl, rfl⟩
  case round =>
    obtain ⟨hr, k, hk, rfl, hF⟩ := hrel
    have hE : Ext w wr := hEp.tr hr
    have kg' := kg.ext hr zp
    obtain ⟨g0, g1, g2, g3, g4, g5⟩ := kg'.six
    have hzp := hr.sz _ zp
    have hzq := hr.sz _ zq
    have kr0 := (hr.ccell _ _ zq).trans kq0
    have kr1 := (hr.ccell _ _ zq).trans kq1
    have kr2 := (hr.ccell _ _ zq).trans kq2
    have kr4 := (hr.ccell _ _ zq).trans kq4
    have KG := Lib.hid kg'
    clear kg kg' kq0 kq1 kq2 kq4
    by_cases hlt : k < Q.length
    · obtain ⟨bq, oq, rfl, hbq, hck⟩ := hQ.p1 hlt
      have ck := hck _ hE
      have hbqz := hE.sz _ hbq
      rw [← gi_lt] at ck
      obtain ⟨v, hv⟩ : ∃ v, gi Q k = v := ⟨_, rfl⟩
      rw [hv] at ck
      have HV := Lib.hid hv
      have HI := Lib.hid (fun w' => HIC.out v w')
      clear hv hck
      have HFA : Hid (barOk g lev Q k = false → ¬ BarP g cn rn F T lev Q) := Lib.hid (fun h hb => by
        have h1 := anyN_at (fun k => !(barOk g lev Q k)) hlt (by rw [h]; rfl)
        rw [hb.1] at h1; cases h1)
      have HGO : Hid (barOk g lev Q k = true → Hid (anyN (fun k => !(barOk g lev Q k)) (k + 1) = false)) := Lib.hid (fun h => Lib.hid (by rw [anyN, hF.out, h]; rfl))
      have HSB : Hid (barOk g lev Q k = ((decide (0 ≤ v) && decide (v < g.L.length)) && (knB g.L v.toNat && decide (lev ≤ gi g.L v.toNat)))) := Lib.hid (by unfold barOk; rw [HV.out])
      cases hq : (decide (0 ≤ v) && decide (v < g.L.length))
      · rw [hq] at HI
        have hz := Lib.hid (HFA.out (by rw [HSB.out, hq]; rfl))
        clear hq
        go_upto_region 4 with fail
        refine region_grow (by kernel_rfl) (by kernel_rfl) ?_
        repeat (first | go_big_quiet_step (first | (go_at_call 75; with_reducible exact callsGrow (HI.out _)) | fail) | quiet_step (first | (go_at_call 75; with_reducible exact callsGrow (HI.out _)) | fail))
        refine wpQuiet_nil ?_
        intro w1 hb
        have hc := hb.ccell
        have hf := hb.frz
        have hs := hb.sz
        (try simp at hs); (try have hs0 := hs w.heap.size (by omega)); (try have hs1 := hs (w.heap.size + 1) (by omega)); (try have hs2 := hs (w.heap.size + 1 + 1) (by omega)); (try have hs3 := hs (w.heap.size + 1 + 1 + 1) (by omega))
        (try simp only [IntWalk.i64_left])
        go_wp2
        go_ret
        exact ⟨⟨false, rfl, by simpa using hz.out⟩, by (repeat (first | with_reducible exact Ext.rfl' _ | with_reducible assumption | with_reducible refine Ext.al ?_ _ | with_reducible refine Ext.dr ?_ | with_reducible refine Ext.st ?_ (by simp) _ | with_reducible refine Ext.tr ?_ (by assumption)))⟩
      have hv0 : 0 ≤ v ∧ v < g.L.length := by simpa using hq
      obtain ⟨j, rfl⟩ : ∃ j : Nat, v = j := ⟨v.toNat, by omega⟩
      have hj : j < g.L.length := by omega
      have HKj := Lib.hid (fun w' (hw : Ext wr w') => HK.out j hj w' (hE.tr hw))
      rw [hq] at HI HSB
      rw [show ((j : Int).toNat) = j from rfl, Bool.true_and] at HSB
      obtain ⟨ba, oa, hAa, hba, hcj⟩ := HA.out.p1 hj
      have cj := hcj _ hE
      have hbaz := hE.sz _ hba
      rw [← gi_lt] at cj
      subst hAa
      clear hq hv0 hcj
      cases hkn : knB g.L j
      · rw [hkn] at HKj HSB
        have hz := Lib.hid (HFA.out (by rw [HSB.out]; rfl))
        clear hkn
        go_upto_region 4 with fail
        refine region_grow (by kernel_rfl) (by kernel_rfl) ?_
        repeat (first | go_big_quiet_step (first | (go_at_call 75; with_reducible exact callsGrow (HI.out _)) | (go_at_call 35; with_reducible exact callsGrow (HKj.out _ (Grow.ok _))) | fail) | quiet_step (first | (go_at_call 75; with_reducible exact callsGrow (HI.out _)) | (go_at_call 35; with_reducible exact callsGrow (HKj.out _ (Grow.ok _))) | fail))
        refine wpQuiet_nil ?_
        intro w1 hb
        have hc := hb.ccell
        have hf := hb.frz
        have hs := hb.sz
        (try simp at hs); (try have hs0 := hs w.heap.size (by omega)); (try have hs1 := hs (w.heap.size + 1) (by omega)); (try have hs2 := hs (w.heap.size + 1 + 1) (by omega)); (try have hs3 := hs (w.heap.size + 1 + 1 + 1) (by omega))
        (try simp only [IntWalk.i64_left])
        go_wp2
        go_ret
        exact ⟨⟨false, rfl, by simpa using hz.out⟩, by (repeat (first | with_reducible exact Ext.rfl' _ | with_reducible assumption | with_reducible refine Ext.al ?_ _ | with_reducible refine Ext.dr ?_ | with_reducible refine Ext.st ?_ (by simp) _ | with_reducible refine Ext.tr ?_ (by assumption)))⟩
      rw [hkn] at HKj HSB
      rw [Bool.true_and] at HSB
      clear hkn
      generalize gi g.L j = y at *
      by_cases hy : y < lev
      · have hz := Lib.hid (HFA.out (by rw [HSB.out]; simp; omega))
        go_upto_region 4 with fail
        refine region_grow (by kernel_rfl) (by kernel_rfl) ?_
        repeat (first | go_big_quiet_step (first | (go_at_call 75; with_reducible exact callsGrow (HI.out _)) | (go_at_call 35; with_reducible exact callsGrow (HKj.out _ (Grow.ok _))) | fail) | quiet_step (first | (go_at_call 75; with_reducible exact callsGrow (HI.out _)) | (go_at_call 35; with_reducible exact callsGrow (HKj.out _ (Grow.ok _))) | fail))
        refine wpQuiet_nil ?_
        intro w1 hb
        have hc := hb.ccell
        have hf := hb.frz
        have hs := hb.sz
        (try simp at hs); (try have hs0 := hs w.heap.size (by omega)); (try have hs1 := hs (w.heap.size + 1) (by omega)); (try have hs2 := hs (w.heap.size + 1 + 1) (by omega)); (try have hs3 := hs (w.heap.size + 1 + 1 + 1) (by omega))
        (try simp only [IntWalk.i64_left])
        go_wp2
        go_ret
        exact ⟨⟨false, rfl, by simpa using hz.out⟩, by (repeat (first | with_reducible exact Ext.rfl' _ | with_reducible assumption | with_reducible refine Ext.al ?_ _ | with_reducible refine Ext.dr ?_ | with_reducible refine Ext.st ?_ (by simp) _ | with_reducible refine Ext.tr ?_ (by assumption)))⟩
      · have hgo := HGO.out (by rw [HSB.out]; simp; omega)
        go_upto_region 4 with fail
        refine region_grow (by kernel_rfl) (by kernel_rfl) ?_
        repeat (first | go_big_quiet_step (first | (go_at_call 75; with_reducible exact callsGrow (HI.out _)) | (go_at_call 35; with_reducible exact callsGrow (HKj.out _ (Grow.ok _))) | fail) | quiet_step (first | (go_at_call 75; with_reducible exact callsGrow (HI.out _)) | (go_at_call 35; with_reducible exact callsGrow (HKj.out _ (Grow.ok _))) | fail))
        refine wpQuiet_nil ?_
        intro w1 hb
        have hc := hb.ccell
        have hf := hb.frz
        have hs := hb.sz
        (try simp at hs); (try have hs0 := hs w.heap.size (by omega)); (try have hs1 := hs (w.heap.size + 1) (by omega)); (try have hs2 := hs (w.heap.size + 1 + 1) (by omega)); (try have hs3 := hs (w.heap.size + 1 + 1 + 1) (by omega))
        (try simp only [IntWalk.i64_left])
        go_wp2
        exact ⟨⟨by (repeat (first | with_reducible exact Ext.rfl' _ | with_reducible assumption | with_reducible refine Ext.al ?_ _ | with_reducible refine Ext.dr ?_ | with_reducible refine Ext.st ?_ (by simp) _ | with_reducible refine Ext.tr ?_ (by assumption))), k + 1, by omega, by go_num, hgo⟩, by simp [intOf]; omega⟩
    · have hks : k = Q.length := by omega
      subst hks
      have hwf : ∀ x ∈ Q, 0 ≤ x ∧ x ≤ 100000 := by
        intro x hx
        obtain ⟨i, hi, rfl⟩ := List.mem_iff_getElem.1 hx
        have h1 := (anyN_no _ _).1 hF.out i hi
        have h2 : barOk g lev Q i = true := by simpa using h1
        unfold barOk at h2
        rw [Bool.and_eq_true] at h2
        have h3 := h2.1
        rw [gi_lt _ _ hi] at h3
        have h4 : 0 ≤ Q[i] ∧ Q[i] < g.L.length := by simpa using h3
        have := HLN.out
        omega
      have HSx := Lib.hid (fun w' (hw : Ext w w') => HST.out w' hw hwf)
      clear hwf
      have heq := fun (w : World) (A : Option Addr) (n c : Nat) => Lib.run_eql_slice_nil (P := Tryz.prog) w 22 3 A n c 0 0 Tryz.underlying22
      go_wp2_with (first | (go_at_call 90; (with_reducible refine Calls.mono (HSx.out _ (by (repeat (first | with_reducible exact Ext.rfl' _ | with_reducible assumption | with_reducible refine Ext.al ?_ _ | with_reducible refine Ext.dr ?_ | with_reducible refine Ext.st ?_ (by simp) _ | with_reducible refine Ext.tr ?_ (by assumption))))) ?_); rintro e w1 ⟨⟨bs, ns, rfl, hbs, hns, hS⟩, hb⟩; have hc := hb.ccell; have hf := hb.frz; have hs := hb.sz; (try simp at hs); (try have t0 := hs (w.heap.size) (by first | assumption | omega)); (try have t1 := hs (w.heap.size + 1) (by first | assumption | omega)); (try have t2 := hs (w.heap.size) (by first | assumption | omega)); (try have t3 := hs (w.heap.size) (by first | assumption | omega)); (try have t4 := hs (w.heap.size) (by first | assumption | omega)); (try have t5 := hs (w.heap.size) (by first | assumption | omega))))
      have hE1 : Ext w w1 := hE.tr hb
      have hE2 : Ext w1 (w1.alloc (.cells #[.map (some bs)] 128)) := Ext.al (Ext.rfl' _) _
      have hcl : (w1.alloc (.cells #[.map (some bs)] 128)).cell? ⟨w1.heap.size, 0, none⟩ = some (.map (some bs)) := by simp [go_sem]
      have hzl : w1.heap.size < (w1.alloc (.cells #[.map (some bs)] 128)).heap.size := by simp
      have hbx : BoxG (w1.alloc (.cells #[.map (some bs)] 128)) w.heap.size g A c := (BoxG.ext ⟨hzp, KG.out⟩ hb).ext hE2
      have HR := HFW.out w.heap.size w1.heap.size bs ns _ (hE1.tr hE2) hbx hcl hzl (hS.ext hE2)
      have hEW := hE1.tr hE2
      generalize w1.alloc (.cells #[.map (some bs)] 128) = W at *
      refine Calls.mono HR ?_
      rintro e w2 ⟨⟨Aw, mw, cw, rfl, hW⟩, hb2⟩
      have hE3 := hEW.tr hb2
      have HW := Lib.hid hW
      have HF := hF
      clear HR hcl hzl hbx hb hb2 hS hW hF
      dsimp only
      go_wp2
      rcases HW.out with ⟨rfl, rfl, rfl, hno⟩ | ⟨pw, gw, rfl, rfl, hway, _⟩
      · go_ret
        exact ⟨⟨true, rfl, by simp; exact ⟨HF.out, hno⟩⟩, hE3⟩
      · go_ret
        exact ⟨⟨false, rfl, by simp; exact fun h => h.2 pw hway⟩, hE3⟩
end Go.Proofs.YtgnakeemcccfjaaGreat

/- The contract of the reference's Proved. -/
import Derived.Test.YtgnakeemcccfjaaBrhigh
import Derived.Test.YtgnakeemcccfjaaBpright
namespace Go.Proofs.Ytgnakeemcccfjaa
open Go Go.RowKit Go.IntWalk

theorem gn_map (P : List Int) (k : Nat) : gn (P.map Int.toNat) k = (gi P k).toNat := by
  unfold gn gi
  rw [List.getD_eq_getElem?_getD, List.getD_eq_getElem?_getD, List.getElem?_map]
  cases P[k]? <;> rfl
section
variable {g : Gr} {cn rn : Nat} {F T : List Nat} {lev : Int} {P Q : List Int}
theorem right_ends (h : Right g cn rn F T lev P Q) : P ≠ [] ∧ gi P 0 ∈ zl F ∧ gi P (P.length - 1) ∈ zl T := by
  have h1 := h.1
  unfold isWayB at h1
  simp only [Bool.and_eq_true, decide_eq_true_eq] at h1
  exact ⟨h1.1, h1.2.1, h1.2.2.1⟩
theorem right_step (h : Right g cn rn F T lev P Q) {k : Nat} (hk : k < P.length) : stepB g cn rn P k = true := by
  have h1 := h.1
  unfold isWayB at h1
  simp only [Bool.and_eq_true, Bool.not_eq_true'] at h1
  have := (anyN_no _ _).1 h1.2.2.2 k hk
  simpa using this
theorem right_le (h : Right g cn rn F T lev P Q) {k : Nat} (hk : k < P.length) : gi g.L (gi P k).toNat ≤ lev := by
  rw [← h.2.1, ← gn_map]
  exact hiL_ge g.L _ P.length k hk
theorem right_bar (h : Right g cn rn F T lev P Q) {k : Nat} (hk : k < Q.length) : barOk g lev Q k = true := by
  have := (anyN_no _ _).1 h.2.2.1 k hk
  simpa using this
/-- A right path's cells are there and known. -/
theorem step_cell {k : Nat} (h : stepB g cn rn P k = true) : ∃ j : Nat, gi P k = j ∧ j < g.L.length ∧ knB g.L j = true := by
  unfold stepB at h
  simp only [Bool.and_eq_true, decide_eq_true_eq] at h
  refine ⟨(gi P k).toNat, by omega, by omega, h.2.1⟩
theorem hiL_high (v : VG g) (hs : ∀ k, k < P.length → stepB g cn rn P k = true) (hP : 0 < P.length) {best : Int} (h : HiI g.L P P.length best) : ∃ i : Nat, best = i ∧ i < g.L.length ∧ gi g.L i = hiL g.L (P.map Int.toNat) P.length := by
  rcases h with ⟨_, h2⟩ | ⟨i, h1, h2, h3, ⟨j, h4, h5⟩, h6⟩
  · obtain ⟨k, k1, k2, k3⟩ := step_cell (hs 0 hP)
    rw [h2 0 hP k k1 k2] at k3; cases k3
  · refine ⟨i, h1, h2, ?_⟩
    have a1 := hiL_ge g.L (P.map Int.toNat) P.length j h4
    rw [gn_map, h5] at a1
    have a1 : gi g.L i ≤ hiL g.L (P.map Int.toNat) P.length := a1
    obtain ⟨k, k1, k2⟩ := hiL_mem g.L (P.map Int.toNat) P.length (fun k hk => by
      obtain ⟨x, x1, x2, x3⟩ := step_cell (hs k hk)
      rw [gn_map, x1]
      have := v.lev x x2
      have h9 := knB_iff.1 x3
      show -20000 ≤ gi g.L x
      omega) hP
    obtain ⟨x, x1, x2, x3⟩ := step_cell (hs k k1)
    rw [gn_map, x1] at k2
    have k2 : hiL g.L (P.map Int.toNat) P.length = gi g.L x := k2
    have := h6 k k1 x x1 x2 x3
    omega
theorem opB_roP (v : VG g) (hL : g.L.length = cn * rn) (Q : List Int) {p : List Nat} : IsWay (adjN cn rn) (roP g 20000 Q) (cn * rn) F T p ↔ IsWay (adjN cn rn) (opB g Q) (cn * rn) F T p := by
  have e : ∀ k, k < cn * rn → (roP g 20000 Q k = true ↔ opB g Q k = true) := by
    intro k hk
    unfold roP opB
    simp only [Bool.and_eq_true, decide_eq_true_eq]
    constructor
    · rintro ⟨h1, _, h3⟩; exact ⟨h1, h3⟩
    · rintro ⟨h1, h3⟩
      have := v.lev k (by omega)
      have h9 := knB_iff.1 h1
      exact ⟨h1, by omega, h3⟩
  unfold IsWay
  constructor
  · rintro ⟨h1, h2, h3, h4, h5⟩; exact ⟨h1, h2, h3, fun k hk => ⟨(h4 k hk).1, (e _ (h4 k hk).1).1 (h4 k hk).2⟩, h5⟩
  · rintro ⟨h1, h2, h3, h4, h5⟩; exact ⟨h1, h2, h3, fun k hk => ⟨(h4 k hk).1, (e _ (h4 k hk).1).2 (h4 k hk).2⟩, h5⟩
/-- A step of the reference's check. -/
theorem stepB_of {k j : Nat} (hj : gi P k = j) (hl : j < g.L.length) (hk : knB g.L j = true) (ha : k = 0 ∨ ∃ m u : Nat, k = m + 1 ∧ gi P m = u ∧ j ∈ nbr cn rn u) : stepB g cn rn P k = true := by
  unfold stepB
  rw [hj, show ((j : Int).toNat) = j from rfl, hk, decide_eq_true (show (0 : Int) ≤ j by omega), decide_eq_true (show (j : Int) < g.L.length by omega)]
  rcases ha with rfl | ⟨m, u, rfl, hu, hm⟩
  · rfl
  · rw [Nat.add_sub_cancel, hu, show ((u : Int).toNat) = u from rfl, decide_eq_true (mem_zl.2 hm)]
    simp
theorem stepB_adj {m j u : Nat} (h : stepB g cn rn P (m + 1) = true) (hj : gi P (m + 1) = j) (hu : gi P m = u) : j ∈ nbr cn rn u := by
  unfold stepB at h
  simp only [Bool.and_eq_true] at h
  have h2 := h.2.2
  rw [hj, Nat.add_sub_cancel, hu, show ((u : Int).toNat) = u from rfl, show (m + 1 == 0) = false from rfl, Bool.false_or, decide_eq_true_eq] at h2
  exact mem_zl.1 h2
end
/-- There is one highest cell, and one only. -/
theorem hiI_ex (L cells : List Int) : ∀ m, ∃ best, HiI L cells m best
  | 0 => ⟨-1, .inl ⟨rfl, fun j hj => by omega⟩⟩
  | m + 1 => by
    obtain ⟨best, h⟩ := hiI_ex L cells m
    by_cases hk : ∃ k : Nat, gi cells m = k ∧ k < L.length ∧ knB L k = true
    · obtain ⟨k, k1, k2, k3⟩ := hk
      by_cases hb : ∃ i : Nat, best = i ∧ (gi L k < gi L i ∨ (gi L k = gi L i ∧ i ≤ k))
      · refine ⟨best, h.skip fun k' h1 _ _ => ?_⟩
        have : k' = k := by omega
        subst this; exact hb
      · refine ⟨k, h.take k1 k2 k3 fun i hi => ?_⟩
        by_cases h1 : gi L i < gi L k
        · exact .inl h1
        · by_cases h2 : gi L k < gi L i
          · exact absurd ⟨i, hi, .inl h2⟩ hb
          · refine .inr ⟨by omega, ?_⟩
            by_cases h3 : i ≤ k
            · exact absurd ⟨i, hi, .inr ⟨by omega, h3⟩⟩ hb
            · omega
    · exact ⟨best, h.skip fun k' h1 h2 h3 => absurd ⟨k', h1, h2, h3⟩ hk⟩
theorem hiI_one {L cells : List Int} {m : Nat} {b b' : Int} (h : HiI L cells m b) (h' : HiI L cells m b') : b = b' := by
  rcases h with ⟨h1, h2⟩ | ⟨i, h1, h2, h3, ⟨j, h4, h5⟩, h6⟩
  · rcases h' with ⟨h1', _⟩ | ⟨i', h1', h2', h3', ⟨j', h4', h5'⟩, h6'⟩
    · omega
    · rw [h2 j' h4' i' h5' h2'] at h3'; cases h3'
  · rcases h' with ⟨h1', h2'⟩ | ⟨i', h1', h2', h3', ⟨j', h4', h5'⟩, h6'⟩
    · rw [h2' j h4 i h5 h2] at h3; cases h3
    · have a1 := h6 j' h4' i' h5' h2' h3'
      have a2 := h6' j h4 i h5 h2 h3
      omega
set_option maxHeartbeats 16000000 in
theorem proved_c {g : Gr} {cn rn : Nat} {F T : List Nat} (E : EndsOk g cn rn F T) (v : VG g) (P Q : List Int) (lev : Int) (w : World) (A B D Ap Aq : Option Addr) (c cB cD cP cQ : Nat)
    (hPl : P.length ≤ 50000) (hQl : Q.length ≤ 50000) (hA : Row 1 encZ w A g.L) (hB : Row 1 encZ w B (zl F)) (hD : Row 1 encZ w D (zl T)) (hP : Row 1 encZ w Ap P) (hQ : Row 1 encZ w Aq Q) :
    Calls Try.prog 59 #[.agg #[.int .i64 g.X, .int .i64 g.Y, .int .i64 g.S, .int .i64 g.C, .int .i64 g.R, .slice A g.L.length c], .agg #[.slice B F.length cB, .slice D T.length cD, .int .i64 lev, .slice Ap P.length cP, .slice Aq Q.length cQ]] w fun e w' => OutIff (Right g cn rn F T lev P Q) e ∧ Ext w w' := by
  have hL := E.len
  have hn1 := E.n1
  have hn : g.L.length ≤ 1024 := by omega
  have HK := Lib.hid (fun k (hk : k < g.L.length) w' (hw : Ext w w') => known_c g k w' A c hk (hA.ext hw))
  have HKN := Lib.hid (fun i hi w' => known_no_c g i w' A c hi)
  have HN := Lib.hid (fun (i k : Nat) (hi : i ≤ 2000) (hk : k ≤ 2000) w' => neigh_c g cn i k w' A c E.hC E.c0 E.c1 hi hk)
  have HCF := Lib.hid (fun x w' (hw : Ext w w') => by
    have h := has_c (zl F) x w' B cB (by rw [zl_len]; have := E.lF; omega) (hB.ext hw)
    rw [zl_len] at h
    exact h)
  have HCT := Lib.hid (fun x w' (hw : Ext w w') => by
    have h := has_c (zl T) x w' D cD (by rw [zl_len]; have := E.lT; omega) (hD.ext hw)
    rw [zl_len] at h
    exact h)
  have HHI := Lib.hid (fun w' (hw : Ext w w') => rhighest_c g P w' A Ap c cP (by omega) (by omega) (hA.ext hw) (hP.ext hw))
  have HRE := Lib.hid (fun w' (hw : Ext w w') => reaches_c E.hC E.c0 E.c1 E.n1 E.len E.lF E.lT E.fT 20000 Q (by omega) (.int .i64 lev) (.slice Ap P.length cP) (.slice Aq Q.length cQ) w' A B D Aq c cB cD cQ (hA.ext hw) (hB.ext hw) (hD.ext hw) (hQ.ext hw))
  have HNB : Hid (∀ u j : Nat, u < g.L.length → j < g.L.length → (nbB cn u j = true ↔ j ∈ nbr cn rn u)) := Lib.hid fun u j hu hj => by
    rw [nbr_mem E.c0 (by omega) j]
    exact ⟨fun h => ⟨by omega, h⟩, fun h => h.2⟩
  have HA := Lib.hid hA
  have HV := Lib.hid v
  have HLN := Lib.hid hL
  clear hB hD hA E v hL hn1
  obtain ⟨R, hR⟩ : ∃ R, Right g cn rn F T lev P Q = R := ⟨_, rfl⟩
  rw [hR]
  have HR := Lib.hid hR
  clear hR
  by_cases hP0 : P = []
  · have HF : Hid (¬ R) := Lib.hid (by rw [← HR.out]; intro h; exact (right_ends h).1 hP0)
    subst hP0
    clear HK HKN HN HCF HCT HHI HRE HNB
    go_enter Try.func59, Try.ntmps59
    go_upto_region 2 with fail
    refine region_grow (by kernel_rfl) (by kernel_rfl) ?_
    repeat (first | go_big_quiet_step (first | fail | fail) | quiet_step (first | fail | fail))
    refine wpQuiet_nil ?_
    intro w1 hb
    have hc := hb.ccell
    have hf := hb.frz
    have hs := hb.sz
    (try simp at hs); (try have hs0 := hs w.heap.size (by omega)); (try have hs1 := hs (w.heap.size + 1) (by omega)); (try have hs2 := hs (w.heap.size + 1 + 1) (by omega)); (try have hs3 := hs (w.heap.size + 1 + 1 + 1) (by omega))
    (try simp only [IntWalk.i64_left])
    go_wp2
    go_ret
    exact ⟨.inr ⟨rfl, HF.out⟩, by (repeat (first | with_reducible exact Ext.rfl' _ | with_reducible assumption | with_reducible refine Ext.al ?_ _ | with_reducible refine Ext.dr ?_ | with_reducible refine Ext.st ?_ (by simp) _ | with_reducible refine Ext.tr ?_ (by assumption)))⟩
  have hlen : 0 < P.length := List.length_pos_iff.2 hP0
  obtain ⟨m, hm⟩ : ∃ m, P.length = m + 1 := ⟨P.length - 1, by omega⟩
  have HP := Lib.hid hP
  have HM := Lib.hid hm
  obtain ⟨bp, op, hAp, hbp, hcell⟩ := hP.p1 hlen
  subst hAp
  have c0 := hcell _ (Ext.rfl' w)
  rw [← gi_lt] at c0
  have cm := (hP.p1 (k := m) (by omega))
  obtain ⟨b', o', e', _, hcm⟩ := cm
  injection e' with e'
  injection e' with e1 e2
  subst e1 e2
  have cm := hcm _ (Ext.rfl' w)
  rw [← gi_lt] at cm
  have HE1 : Hid (gi P 0 ∉ zl F → ¬ R) := Lib.hid fun h h2 => h (by rw [← HR.out] at h2; exact (right_ends h2).2.1)
  have HE2 : Hid (gi P m ∉ zl T → ¬ R) := Lib.hid fun h h2 => h (by rw [← HR.out] at h2; have := (right_ends h2).2.2; rwa [HM.out, Nat.add_sub_cancel] at this)
  rw [hm] at HHI HRE ⊢
  obtain ⟨x0, hx0⟩ : ∃ x, gi P 0 = x := ⟨_, rfl⟩
  obtain ⟨xm, hxm⟩ : ∃ x, gi P m = x := ⟨_, rfl⟩
  have HX := Lib.hid (And.intro hx0 hxm)
  rw [hx0] at c0 HE1
  rw [hxm] at cm HE2
  simp only [Nat.add_zero] at c0
  clear hcell hcm hP hx0 hxm hm hP0
  have hne0 : (((m : Int) + 1) == 0) = false := by rw [beq_eq_false_iff_ne]; omega
  have hmb : m ≤ 50000 := by have := HM.out; omega
  have hbp1 : bp < w.heap.size + 1 := by omega
  have hbp2 : bp < w.heap.size + 1 + 1 := by omega
  have HFx := Lib.hid (fun w' (hw : Ext w w') => HCF.out x0 w' hw)
  have HTx := Lib.hid (fun w' (hw : Ext w w') => HCT.out xm w' hw)
  clear HCF HCT
  cases hf0 : decide (x0 ∈ zl F)
  · rw [hf0] at HFx
    have HF := Lib.hid (HE1.out (of_decide_eq_false hf0))
    clear hf0 HTx HK HKN HN HHI HRE HNB HE1 HE2
    go_enter Try.func59, Try.ntmps59
    go_upto_region 2 with fail
    refine region_grow (by kernel_rfl) (by kernel_rfl) ?_
    repeat (first | go_big_quiet_step (first | (go_at_call 106; with_reducible exact callsGrow (HFx.out _ (Ext.tr (by (repeat (first | with_reducible exact Ext.rfl' _ | with_reducible assumption | with_reducible refine Ext.al ?_ _ | with_reducible refine Ext.dr ?_ | with_reducible refine Ext.st ?_ (by simp) _ | with_reducible refine Ext.tr ?_ (by assumption)))) (Grow.ok _)))) | fail) | quiet_step (first | (go_at_call 106; with_reducible exact callsGrow (HFx.out _ (Ext.tr (by (repeat (first | with_reducible exact Ext.rfl' _ | with_reducible assumption | with_reducible refine Ext.al ?_ _ | with_reducible refine Ext.dr ?_ | with_reducible refine Ext.st ?_ (by simp) _ | with_reducible refine Ext.tr ?_ (by assumption)))) (Grow.ok _)))) | fail))
    refine wpQuiet_nil ?_
    intro w1 hb
    have hc := hb.ccell
    have hf := hb.frz
    have hs := hb.sz
    (try simp at hs); (try have hs0 := hs w.heap.size (by omega)); (try have hs1 := hs (w.heap.size + 1) (by omega)); (try have hs2 := hs (w.heap.size + 1 + 1) (by omega)); (try have hs3 := hs (w.heap.size + 1 + 1 + 1) (by omega))
    (try simp only [IntWalk.i64_left])
    go_wp2
    go_ret
    exact ⟨.inr ⟨rfl, HF.out⟩, by (repeat (first | with_reducible exact Ext.rfl' _ | with_reducible assumption | with_reducible refine Ext.al ?_ _ | with_reducible refine Ext.dr ?_ | with_reducible refine Ext.st ?_ (by simp) _ | with_reducible refine Ext.tr ?_ (by assumption)))⟩
  rw [hf0] at HFx
  cases ht0 : decide (xm ∈ zl T)
  · rw [ht0] at HTx
    have HF := Lib.hid (HE2.out (of_decide_eq_false ht0))
    clear hf0 ht0 HK HKN HN HHI HRE HNB HE1 HE2
    go_enter Try.func59, Try.ntmps59
    go_upto_region 2 with fail
    refine region_grow (by kernel_rfl) (by kernel_rfl) ?_
    repeat (first | go_big_quiet_step (first | (go_at_call 106; with_reducible exact callsGrow (HFx.out _ (Ext.tr (by (repeat (first | with_reducible exact Ext.rfl' _ | with_reducible assumption | with_reducible refine Ext.al ?_ _ | with_reducible refine Ext.dr ?_ | with_reducible refine Ext.st ?_ (by simp) _ | with_reducible refine Ext.tr ?_ (by assumption)))) (Grow.ok _)))) | (go_at_call 106; with_reducible exact callsGrow (HTx.out _ (Ext.tr (by (repeat (first | with_reducible exact Ext.rfl' _ | with_reducible assumption | with_reducible refine Ext.al ?_ _ | with_reducible refine Ext.dr ?_ | with_reducible refine Ext.st ?_ (by simp) _ | with_reducible refine Ext.tr ?_ (by assumption)))) (Grow.ok _)))) | fail) | quiet_step (first | (go_at_call 106; with_reducible exact callsGrow (HFx.out _ (Ext.tr (by (repeat (first | with_reducible exact Ext.rfl' _ | with_reducible assumption | with_reducible refine Ext.al ?_ _ | with_reducible refine Ext.dr ?_ | with_reducible refine Ext.st ?_ (by simp) _ | with_reducible refine Ext.tr ?_ (by assumption)))) (Grow.ok _)))) | (go_at_call 106; with_reducible exact callsGrow (HTx.out _ (Ext.tr (by (repeat (first | with_reducible exact Ext.rfl' _ | with_reducible assumption | with_reducible refine Ext.al ?_ _ | with_reducible refine Ext.dr ?_ | with_reducible refine Ext.st ?_ (by simp) _ | with_reducible refine Ext.tr ?_ (by assumption)))) (Grow.ok _)))) | fail))
    refine wpQuiet_nil ?_
    intro w1 hb
    have hc := hb.ccell
    have hf := hb.frz
    have hs := hb.sz
    (try simp at hs); (try have hs0 := hs w.heap.size (by omega)); (try have hs1 := hs (w.heap.size + 1) (by omega)); (try have hs2 := hs (w.heap.size + 1 + 1) (by omega)); (try have hs3 := hs (w.heap.size + 1 + 1 + 1) (by omega))
    (try simp only [IntWalk.i64_left])
    go_wp2
    go_ret
    exact ⟨.inr ⟨rfl, HF.out⟩, by (repeat (first | with_reducible exact Ext.rfl' _ | with_reducible assumption | with_reducible refine Ext.al ?_ _ | with_reducible refine Ext.dr ?_ | with_reducible refine Ext.st ?_ (by simp) _ | with_reducible refine Ext.tr ?_ (by assumption)))⟩
  rw [ht0] at HTx
  have HEN : Hid (P ≠ [] ∧ gi P 0 ∈ zl F ∧ gi P (P.length - 1) ∈ zl T) := Lib.hid ⟨List.length_pos_iff.1 hlen, by rw [HX.out.1]; exact of_decide_eq_true hf0, by rw [HM.out, Nat.add_sub_cancel, HX.out.2]; exact of_decide_eq_true ht0⟩
  clear hf0 ht0 HE1 HE2 HX
  go_enter Try.func59, Try.ntmps59
  go_upto_region 2 with fail
  refine region_grow (by kernel_rfl) (by kernel_rfl) ?_
  repeat (first | go_big_quiet_step (first | (go_at_call 106; with_reducible exact callsGrow (HFx.out _ (Ext.tr (by (repeat (first | with_reducible exact Ext.rfl' _ | with_reducible assumption | with_reducible refine Ext.al ?_ _ | with_reducible refine Ext.dr ?_ | with_reducible refine Ext.st ?_ (by simp) _ | with_reducible refine Ext.tr ?_ (by assumption)))) (Grow.ok _)))) | (go_at_call 106; with_reducible exact callsGrow (HTx.out _ (Ext.tr (by (repeat (first | with_reducible exact Ext.rfl' _ | with_reducible assumption | with_reducible refine Ext.al ?_ _ | with_reducible refine Ext.dr ?_ | with_reducible refine Ext.st ?_ (by simp) _ | with_reducible refine Ext.tr ?_ (by assumption)))) (Grow.ok _)))) | fail) | quiet_step (first | (go_at_call 106; with_reducible exact callsGrow (HFx.out _ (Ext.tr (by (repeat (first | with_reducible exact Ext.rfl' _ | with_reducible assumption | with_reducible refine Ext.al ?_ _ | with_reducible refine Ext.dr ?_ | with_reducible refine Ext.st ?_ (by simp) _ | with_reducible refine Ext.tr ?_ (by assumption)))) (Grow.ok _)))) | (go_at_call 106; with_reducible exact callsGrow (HTx.out _ (Ext.tr (by (repeat (first | with_reducible exact Ext.rfl' _ | with_reducible assumption | with_reducible refine Ext.al ?_ _ | with_reducible refine Ext.dr ?_ | with_reducible refine Ext.st ?_ (by simp) _ | with_reducible refine Ext.tr ?_ (by assumption)))) (Grow.ok _)))) | fail))
  refine wpQuiet_nil ?_
  intro w1 hb
  have hc := hb.ccell
  have hf := hb.frz
  have hs := hb.sz
  (try simp at hs); (try have hs0 := hs w.heap.size (by omega)); (try have hs1 := hs (w.heap.size + 1) (by omega)); (try have hs2 := hs (w.heap.size + 1 + 1) (by omega)); (try have hs3 := hs (w.heap.size + 1 + 1 + 1) (by omega))
  (try simp only [IntWalk.i64_left])
  go_wp2
  have hE1 : Ext w w1 := by (repeat (first | with_reducible exact Ext.rfl' _ | with_reducible assumption | with_reducible refine Ext.al ?_ _ | with_reducible refine Ext.dr ?_ | with_reducible refine Ext.st ?_ (by simp) _ | with_reducible refine Ext.tr ?_ (by assumption)))
  have kg : CellsAt w1 w.heap.size 0 [.int .i64 g.X, .int .i64 g.Y, .int .i64 g.S, .int .i64 g.C, .int .i64 g.R, .slice A g.L.length c] := by
    refine cells_six ⟨?_, ?_, ?_, ?_, ?_, ?_⟩ <;> simp [*, go_sem]
  have kq : ∀ j v, [.slice B F.length cB, .slice D T.length cD, .int .i64 lev, .slice (some ⟨bp, op, none⟩) (m + 1) cP, .slice Aq Q.length cQ][j]? = some v → w1.cell? ⟨w.heap.size + 1, j, none⟩ = some v := by
    intro j v hj
    match j with
    | 0 | 1 | 2 | 3 | 4 => simpa [*, go_sem] using hj
    | j + 5 => simp at hj
  have zq : w.heap.size + 1 < w1.heap.size := hs1
  have zp0 : w.heap.size < w1.heap.size := hs0
  clear hc hf hb hs HFx HTx hbp1 hbp2 hne0 cm c0
  go_loopw [6] (fun i wr => Ext w1 wr ∧ ∃ k : Nat, k ≤ m + 1 ∧ i = .int .i64 k ∧ Hid (∀ j, j < k → stepB g cn rn P j = true)) (fun i _ => (m + 1) - (intOf i).toNat)
  case atStart => exact ⟨Ext.rfl' _, 0, Nat.zero_le _, rfl, Lib.hid (by intro j hj; omega)⟩
  case round =>
    obtain ⟨hr, k, hk, rfl, hF⟩ := hrel
    have hE : Ext w wr := hE1.tr hr
    obtain ⟨g0, g1, g2, g3, g4, g5⟩ := (kg.ext hr hs0).six
    have hzp := hr.sz _ hs0
    have hzq := hr.sz _ zq
    have q0 := (hr.ccell _ _ zq).trans (kq 0 _ rfl)
    have q1 := (hr.ccell _ _ zq).trans (kq 1 _ rfl)
    have q2 := (hr.ccell _ _ zq).trans (kq 2 _ rfl)
    have q3 := (hr.ccell _ _ zq).trans (kq 3 _ rfl)
    have q4 := (hr.ccell _ _ zq).trans (kq 4 _ rfl)
    by_cases hlt : k < m + 1
    · obtain ⟨b', o', e', _, hck⟩ := HP.out.p1 (k := k) (by have := HM.out; omega)
      injection e' with e'
      injection e' with e1 e2
      subst e1 e2
      have ck := hck _ hE
      have hbpz := hE.sz _ hbp
      rw [← gi_lt] at ck
      obtain ⟨u0, hv⟩ : ∃ v, gi P k = v := ⟨_, rfl⟩
      rw [hv] at ck
      have HVk := Lib.hid hv
      have hkP : k < P.length := by have := HM.out; omega
      have HFA : Hid (stepB g cn rn P k = false → ¬ R) := Lib.hid fun h h2 => by rw [← HR.out] at h2; rw [right_step h2 hkP] at h; cases h
      have HFL : Hid (lev < gi g.L (gi P k).toNat → ¬ R) := Lib.hid fun h h2 => by rw [← HR.out] at h2; have := right_le h2 hkP; omega
      clear hv hck
      by_cases hin : u0 < 0 ∨ (g.L.length : Int) ≤ u0
      · have K1 := Lib.hid (fun w' => HKN.out u0 hin w')
        have HF2 := Lib.hid (HFA.out (by
          cases hst : stepB g cn rn P k
          · rfl
          · obtain ⟨j, h1, h2, _⟩ := step_cell hst
            rw [HVk.out] at h1; omega))
        clear hin
        go_wp2
        refine region_grow (by kernel_rfl) (by kernel_rfl) ?_
        repeat (first | go_big_quiet_step (first | (go_at_call 95; with_reducible exact callsGrow (K1.out _)) | fail) | quiet_step (first | (go_at_call 95; with_reducible exact callsGrow (K1.out _)) | fail))
        refine wpQuiet_nil ?_
        intro w1 hb
        have hc := hb.ccell
        have hf := hb.frz
        have hs := hb.sz
        (try simp at hs); (try have hs0 := hs w.heap.size (by omega)); (try have hs1 := hs (w.heap.size + 1) (by omega)); (try have hs2 := hs (w.heap.size + 1 + 1) (by omega)); (try have hs3 := hs (w.heap.size + 1 + 1 + 1) (by omega))
        (try simp only [IntWalk.i64_left])
        go_wp2
        go_ret
        exact ⟨.inr ⟨rfl, HF2.out⟩, by (repeat (first | with_reducible exact Ext.rfl' _ | with_reducible assumption | with_reducible refine Ext.al ?_ _ | with_reducible refine Ext.dr ?_ | with_reducible refine Ext.st ?_ (by simp) _ | with_reducible refine Ext.tr ?_ (by assumption)))⟩
      obtain ⟨j, rfl⟩ : ∃ j : Nat, u0 = j := ⟨u0.toNat, by omega⟩
      have hj : j < g.L.length := by omega
      have K1 := Lib.hid (fun w' (hw : Ext w w') => HK.out j hj w' hw)
      clear hin
      cases hkn : knB g.L j
      · rw [hkn] at K1
        have HF2 := Lib.hid (HFA.out (by
          cases hst : stepB g cn rn P k
          · rfl
          · obtain ⟨j', h1, h2, h3⟩ := step_cell hst
            rw [HVk.out] at h1
            have : j' = j := by omega
            subst this
            rw [hkn] at h3; cases h3))
        clear hkn
        go_wp2
        refine region_grow (by kernel_rfl) (by kernel_rfl) ?_
        repeat (first | go_big_quiet_step (first | (go_at_call 95; with_reducible exact callsGrow (K1.out _ (hE.tr (Grow.ok _)))) | fail) | quiet_step (first | (go_at_call 95; with_reducible exact callsGrow (K1.out _ (hE.tr (Grow.ok _)))) | fail))
        refine wpQuiet_nil ?_
        intro w1 hb
        have hc := hb.ccell
        have hf := hb.frz
        have hs := hb.sz
        (try simp at hs); (try have hs0 := hs w.heap.size (by omega)); (try have hs1 := hs (w.heap.size + 1) (by omega)); (try have hs2 := hs (w.heap.size + 1 + 1) (by omega)); (try have hs3 := hs (w.heap.size + 1 + 1 + 1) (by omega))
        (try simp only [IntWalk.i64_left])
        go_wp2
        go_ret
        exact ⟨.inr ⟨rfl, HF2.out⟩, by (repeat (first | with_reducible exact Ext.rfl' _ | with_reducible assumption | with_reducible refine Ext.al ?_ _ | with_reducible refine Ext.dr ?_ | with_reducible refine Ext.st ?_ (by simp) _ | with_reducible refine Ext.tr ?_ (by assumption)))⟩
      rw [hkn] at K1
      obtain ⟨bl, ol, hAe, hbl, hcl⟩ := HA.out.p1 hj
      subst hAe
      have d1 := hcl _ hE
      rw [← gi_lt] at d1
      have hblz := hE.sz _ hbl
      have hj0 : (0 : Int) ≤ j := by omega
      rw [HVk.out, show ((j : Int).toNat) = j from rfl] at HFL
      have HKN2 := Lib.hid hkn
      clear hcl hkn
      obtain ⟨a, ha⟩ : ∃ a, gi g.L j = a := ⟨_, rfl⟩
      rw [ha] at d1 HFL
      clear ha
      by_cases hgt : lev < a
      · have HF2 := Lib.hid (HFL.out hgt)
        go_wp2
        refine region_grow (by kernel_rfl) (by kernel_rfl) ?_
        repeat (first | go_big_quiet_step (first | (go_at_call 95; with_reducible exact callsGrow (K1.out _ (hE.tr (Grow.ok _)))) | fail) | quiet_step (first | (go_at_call 95; with_reducible exact callsGrow (K1.out _ (hE.tr (Grow.ok _)))) | fail))
        refine wpQuiet_nil ?_
        intro w1 hb
        have hc := hb.ccell
        have hf := hb.frz
        have hs := hb.sz
        (try simp at hs); (try have hs0 := hs w.heap.size (by omega)); (try have hs1 := hs (w.heap.size + 1) (by omega)); (try have hs2 := hs (w.heap.size + 1 + 1) (by omega)); (try have hs3 := hs (w.heap.size + 1 + 1 + 1) (by omega))
        (try simp only [IntWalk.i64_left])
        go_wp2
        go_ret
        exact ⟨.inr ⟨rfl, HF2.out⟩, by (repeat (first | with_reducible exact Ext.rfl' _ | with_reducible assumption | with_reducible refine Ext.al ?_ _ | with_reducible refine Ext.dr ?_ | with_reducible refine Ext.st ?_ (by simp) _ | with_reducible refine Ext.tr ?_ (by assumption)))⟩
      have hgt' : decide (lev < a) = false := decide_eq_false hgt
      clear hgt
      by_cases hk0 : k = 0
      · subst hk0
        simp only [Nat.add_zero] at ck
        have hgo : Hid (∀ j, j < 0 + 1 → stepB g cn rn P j = true) := Lib.hid (by
          intro x hx
          have : x = 0 := by omega
          subst this
          exact stepB_of HVk.out hj HKN2.out (.inl rfl))
        go_wp2
        refine region_grow (by kernel_rfl) (by kernel_rfl) ?_
        repeat (first | go_big_quiet_step (first | (go_at_call 95; with_reducible exact callsGrow (K1.out _ (hE.tr (Grow.ok _)))) | fail) | quiet_step (first | (go_at_call 95; with_reducible exact callsGrow (K1.out _ (hE.tr (Grow.ok _)))) | fail))
        refine wpQuiet_nil ?_
        intro w1 hb
        have hc := hb.ccell
        have hf := hb.frz
        have hs := hb.sz
        (try simp at hs); (try have hs0 := hs w.heap.size (by omega)); (try have hs1 := hs (w.heap.size + 1) (by omega)); (try have hs2 := hs (w.heap.size + 1 + 1) (by omega)); (try have hs3 := hs (w.heap.size + 1 + 1 + 1) (by omega))
        (try simp only [IntWalk.i64_left])
        go_wp2
        exact ⟨⟨by (repeat (first | with_reducible exact Ext.rfl' _ | with_reducible assumption | with_reducible refine Ext.al ?_ _ | with_reducible refine Ext.dr ?_ | with_reducible refine Ext.st ?_ (by simp) _ | with_reducible refine Ext.tr ?_ (by assumption))), 0 + 1, by omega, by go_num, hgo⟩, by first | (simp [intOf]; done) | (simp [intOf]; omega)⟩
      obtain ⟨k, rfl⟩ : ∃ k', k = k' + 1 := ⟨k - 1, by omega⟩
      obtain ⟨b', o', e', _, hck⟩ := HP.out.p1 (k := k) (by have := HM.out; omega)
      injection e' with e'
      injection e' with e1 e2
      subst e1 e2
      have ck1 := hck _ hE
      rw [← gi_lt] at ck1
      obtain ⟨u, hu, hul, _⟩ := step_cell (hF.out k (by omega))
      rw [hu] at ck1
      have HU := Lib.hid hu
      have N1 := Lib.hid (fun w' => HN.out u j (by omega) (by omega) w')
      have hkk : ((k : Int) + 1) > 0 := by omega
      clear hck hu
      cases hq : nbB cn u j
      · rw [hq] at N1
        have HF2 := Lib.hid (HFA.out (by
          cases hst : stepB g cn rn P (k + 1)
          · rfl
          · have h9 := (HNB.out u j hul hj).2 (stepB_adj hst HVk.out HU.out)
            rw [hq] at h9; cases h9))
        clear hq hul
        go_wp2
        refine region_grow (by kernel_rfl) (by kernel_rfl) ?_
        repeat (first | go_big_quiet_step (first | (go_at_call 95; with_reducible exact callsGrow (K1.out _ (hE.tr (Grow.ok _)))) | (go_at_call 80; with_reducible exact callsGrow (N1.out _)) | fail) | quiet_step (first | (go_at_call 95; with_reducible exact callsGrow (K1.out _ (hE.tr (Grow.ok _)))) | (go_at_call 80; with_reducible exact callsGrow (N1.out _)) | fail))
        refine wpQuiet_nil ?_
        intro w1 hb
        have hc := hb.ccell
        have hf := hb.frz
        have hs := hb.sz
        (try simp at hs); (try have hs0 := hs w.heap.size (by omega)); (try have hs1 := hs (w.heap.size + 1) (by omega)); (try have hs2 := hs (w.heap.size + 1 + 1) (by omega)); (try have hs3 := hs (w.heap.size + 1 + 1 + 1) (by omega))
        (try simp only [IntWalk.i64_left])
        go_wp2
        go_ret
        exact ⟨.inr ⟨rfl, HF2.out⟩, by (repeat (first | with_reducible exact Ext.rfl' _ | with_reducible assumption | with_reducible refine Ext.al ?_ _ | with_reducible refine Ext.dr ?_ | with_reducible refine Ext.st ?_ (by simp) _ | with_reducible refine Ext.tr ?_ (by assumption)))⟩
      · rw [hq] at N1
        have hgo : Hid (∀ j, j < k + 1 + 1 → stepB g cn rn P j = true) := Lib.hid (by
          intro x hx
          rcases Nat.lt_succ_iff_lt_or_eq.1 hx with h | h
          · exact hF.out x h
          · subst h
            exact stepB_of HVk.out hj HKN2.out (.inr ⟨k, u, rfl, HU.out, (HNB.out u j hul hj).1 hq⟩))
        clear hq hul
        go_wp2
        refine region_grow (by kernel_rfl) (by kernel_rfl) ?_
        repeat (first | go_big_quiet_step (first | (go_at_call 95; with_reducible exact callsGrow (K1.out _ (hE.tr (Grow.ok _)))) | (go_at_call 80; with_reducible exact callsGrow (N1.out _)) | fail) | quiet_step (first | (go_at_call 95; with_reducible exact callsGrow (K1.out _ (hE.tr (Grow.ok _)))) | (go_at_call 80; with_reducible exact callsGrow (N1.out _)) | fail))
        refine wpQuiet_nil ?_
        intro w1 hb
        have hc := hb.ccell
        have hf := hb.frz
        have hs := hb.sz
        (try simp at hs); (try have hs0 := hs w.heap.size (by omega)); (try have hs1 := hs (w.heap.size + 1) (by omega)); (try have hs2 := hs (w.heap.size + 1 + 1) (by omega)); (try have hs3 := hs (w.heap.size + 1 + 1 + 1) (by omega))
        (try simp only [IntWalk.i64_left])
        go_wp2
        exact ⟨⟨by (repeat (first | with_reducible exact Ext.rfl' _ | with_reducible assumption | with_reducible refine Ext.al ?_ _ | with_reducible refine Ext.dr ?_ | with_reducible refine Ext.st ?_ (by simp) _ | with_reducible refine Ext.tr ?_ (by assumption))), k + 1 + 1, by omega, by go_num, hgo⟩, by simp [intOf]; omega⟩
    · have hst : ∀ j, j < P.length → stepB g cn rn P j = true := fun j hj => hF.out j (by have := HM.out; omega)
      obtain ⟨best, hbest⟩ := hiI_ex g.L P P.length
      obtain ⟨i, hbi, hi, hgi⟩ := hiL_high HV.out hst hlen hbest
      subst hbi
      have HB1 := Lib.hid hbest
      have H1 : Hid (∀ w', Ext w w' → Calls Try.prog 107 #[.agg #[.int .i64 g.X, .int .i64 g.Y, .int .i64 g.S, .int .i64 g.C, .int .i64 g.R, .slice A g.L.length c], .slice (some ⟨bp, op, none⟩) (m + 1) cP] w' fun e w'' => e = .returned (.int .i64 i) ∧ Ext w' w'') := Lib.hid fun w' hw' => (HHI.out w' hw').mono fun e w'' h => by
        obtain ⟨⟨b2, h1, h2⟩, h3⟩ := h
        rw [hiI_one h2 HB1.out] at h1
        exact ⟨h1, h3⟩
      obtain ⟨bl, ol, hAe, hbl, hcl⟩ := HA.out.p1 hi
      subst hAe
      have d1 := hcl _ hE
      rw [← gi_lt, hgi] at d1
      have hblz := hE.sz _ hbl
      have hi0 : (0 : Int) ≤ i := by omega
      have HST := Lib.hid hst
      clear hst hbest hgi hcl HHI
      by_cases hne : hiL g.L (P.map Int.toNat) P.length = lev
      case neg =>
        have HF2 : Hid (¬ R) := Lib.hid fun h2 => by rw [← HR.out] at h2; exact hne h2.2.1
        have hne' : (hiL g.L (P.map Int.toNat) P.length != lev) = true := by rw [bne_iff_ne]; exact hne
        generalize hiL g.L (P.map Int.toNat) P.length = hx at *
        clear hne
        go_wp2
        refine region_grow (by kernel_rfl) (by kernel_rfl) ?_
        repeat (first | go_big_quiet_step (first | (go_at_call 107; with_reducible exact callsGrow (H1.out _ (hE.tr (Grow.ok _)))) | fail) | quiet_step (first | (go_at_call 107; with_reducible exact callsGrow (H1.out _ (hE.tr (Grow.ok _)))) | fail))
        refine wpQuiet_nil ?_
        intro w1 hb
        have hc := hb.ccell
        have hf := hb.frz
        have hs := hb.sz
        (try simp at hs); (try have hs0 := hs w.heap.size (by omega)); (try have hs1 := hs (w.heap.size + 1) (by omega)); (try have hs2 := hs (w.heap.size + 1 + 1) (by omega)); (try have hs3 := hs (w.heap.size + 1 + 1 + 1) (by omega))
        (try simp only [IntWalk.i64_left])
        go_wp2
        go_ret
        exact ⟨.inr ⟨rfl, HF2.out⟩, by (repeat (first | with_reducible exact Ext.rfl' _ | with_reducible assumption | with_reducible refine Ext.al ?_ _ | with_reducible refine Ext.dr ?_ | with_reducible refine Ext.st ?_ (by simp) _ | with_reducible refine Ext.tr ?_ (by assumption)))⟩
      have HHL := Lib.hid hne
      rw [hne] at d1
      clear hne
      go_wp2
      refine region_grow (by kernel_rfl) (by kernel_rfl) ?_
      repeat (first | go_big_quiet_step (first | (go_at_call 107; with_reducible exact callsGrow (H1.out _ (hE.tr (Grow.ok _)))) | fail) | quiet_step (first | (go_at_call 107; with_reducible exact callsGrow (H1.out _ (hE.tr (Grow.ok _)))) | fail))
      refine wpQuiet_nil ?_
      intro w1 hb
      have hc := hb.ccell
      have hf := hb.frz
      have hs := hb.sz
      (try simp at hs); (try have hs0 := hs w.heap.size (by omega)); (try have hs1 := hs (w.heap.size + 1) (by omega)); (try have hs2 := hs (w.heap.size + 1 + 1) (by omega)); (try have hs3 := hs (w.heap.size + 1 + 1 + 1) (by omega))
      (try simp only [IntWalk.i64_left])
      obtain ⟨w3, hw3⟩ : ∃ w3, w3 = w1 := ⟨_, rfl⟩
      subst hw3
      have hr3 := hr.tr hb
      have hE3 := hE.tr hb
      have q2' := (hr3.ccell _ _ zq).trans (kq 2 _ rfl)
      have q4' := (hr3.ccell _ _ zq).trans (kq 4 _ rfl)
      have zq3 := hr3.sz _ zq
      clear hc hf hs g0 g1 g2 g3 g4 g5 q0 q1 q2 q3 q4 d1 hF
      go_wp2
      clear hk hlt
      go_loopw [8] (fun i wr => Ext w3 wr ∧ ∃ k : Nat, k ≤ Q.length ∧ i = .int .i64 k ∧ Hid (∀ j, j < k → barOk g lev Q j = true)) (fun i _ => Q.length - (intOf i).toNat)
      case atStart => exact ⟨Ext.rfl' _, 0, Nat.zero_le _, rfl, Lib.hid (by intro j hj; omega)⟩
      case round =>
        obtain ⟨hr4, k, hk4, rfl, hF⟩ := hrel
        have hr5 := hr3.tr hr4
        have hE := hE3.tr hr4
        obtain ⟨g0, g1, g2, g3, g4, g5⟩ := (kg.ext hr5 zp0).six
        have hzp := hr5.sz _ zp0
        have hzq := hr5.sz _ zq
        have q0 := (hr5.ccell _ _ zq).trans (kq 0 _ rfl)
        have q1 := (hr5.ccell _ _ zq).trans (kq 1 _ rfl)
        have q2 := (hr5.ccell _ _ zq).trans (kq 2 _ rfl)
        have q3 := (hr5.ccell _ _ zq).trans (kq 3 _ rfl)
        have q4 := (hr5.ccell _ _ zq).trans (kq 4 _ rfl)
        by_cases hlt : k < Q.length
        · obtain ⟨bq, oq, hAq, hbq, hck⟩ := hQ.p1 hlt
          subst hAq
          have ck := hck _ hE
          have hbqz := hE.sz _ hbq
          rw [← gi_lt] at ck
          obtain ⟨u0, hv⟩ : ∃ v, gi Q k = v := ⟨_, rfl⟩
          rw [hv] at ck
          have HVk := Lib.hid hv
          have HFA : Hid (barOk g lev Q k = false → ¬ R) := Lib.hid fun h h2 => by rw [← HR.out] at h2; rw [right_bar h2 hlt] at h; cases h
          have hbo : barOk g lev Q k = ((decide (0 ≤ u0) && decide (u0 < g.L.length)) && (knB g.L u0.toNat && decide (lev ≤ gi g.L u0.toNat))) := by unfold barOk; rw [HVk.out]
          have HBO := Lib.hid hbo
          clear hv hck hbo
          by_cases hin : u0 < 0 ∨ (g.L.length : Int) ≤ u0
          · have K1 := Lib.hid (fun w' => HKN.out u0 hin w')
            have HF2 := Lib.hid (HFA.out (by
              rw [HBO.out]
              rcases hin with h | h
              · rw [decide_eq_false (show ¬ 0 ≤ u0 by omega)]; rfl
              · rw [decide_eq_false (show ¬ u0 < g.L.length by omega)]; simp))
            clear hin
            go_wp2
            refine region_grow (by kernel_rfl) (by kernel_rfl) ?_
            repeat (first | go_big_quiet_step (first | (go_at_call 95; with_reducible exact callsGrow (K1.out _)) | fail) | quiet_step (first | (go_at_call 95; with_reducible exact callsGrow (K1.out _)) | fail))
            refine wpQuiet_nil ?_
            intro w1 hb
            have hc := hb.ccell
            have hf := hb.frz
            have hs := hb.sz
            (try simp at hs); (try have hs0 := hs w.heap.size (by omega)); (try have hs1 := hs (w.heap.size + 1) (by omega)); (try have hs2 := hs (w.heap.size + 1 + 1) (by omega)); (try have hs3 := hs (w.heap.size + 1 + 1 + 1) (by omega))
            (try simp only [IntWalk.i64_left])
            go_wp2
            go_ret
            exact ⟨.inr ⟨rfl, HF2.out⟩, by (repeat (first | with_reducible exact Ext.rfl' _ | with_reducible assumption | with_reducible refine Ext.al ?_ _ | with_reducible refine Ext.dr ?_ | with_reducible refine Ext.st ?_ (by simp) _ | with_reducible refine Ext.tr ?_ (by assumption)))⟩
          obtain ⟨j, rfl⟩ : ∃ j : Nat, u0 = j := ⟨u0.toNat, by omega⟩
          have hj : j < g.L.length := by omega
          have K1 := Lib.hid (fun w' (hw : Ext w w') => HK.out j hj w' hw)
          rw [show ((j : Int).toNat) = j from rfl, decide_eq_true (show (0 : Int) ≤ j by omega), decide_eq_true (show (j : Int) < g.L.length by omega)] at HBO
          clear hin
          cases hkn : knB g.L j
          · rw [hkn] at K1
            have HF2 := Lib.hid (HFA.out (by rw [HBO.out, hkn]; rfl))
            clear hkn
            go_wp2
            refine region_grow (by kernel_rfl) (by kernel_rfl) ?_
            repeat (first | go_big_quiet_step (first | (go_at_call 95; with_reducible exact callsGrow (K1.out _ (hE.tr (Grow.ok _)))) | fail) | quiet_step (first | (go_at_call 95; with_reducible exact callsGrow (K1.out _ (hE.tr (Grow.ok _)))) | fail))
            refine wpQuiet_nil ?_
            intro w1 hb
            have hc := hb.ccell
            have hf := hb.frz
            have hs := hb.sz
            (try simp at hs); (try have hs0 := hs w.heap.size (by omega)); (try have hs1 := hs (w.heap.size + 1) (by omega)); (try have hs2 := hs (w.heap.size + 1 + 1) (by omega)); (try have hs3 := hs (w.heap.size + 1 + 1 + 1) (by omega))
            (try simp only [IntWalk.i64_left])
            go_wp2
            go_ret
            exact ⟨.inr ⟨rfl, HF2.out⟩, by (repeat (first | with_reducible exact Ext.rfl' _ | with_reducible assumption | with_reducible refine Ext.al ?_ _ | with_reducible refine Ext.dr ?_ | with_reducible refine Ext.st ?_ (by simp) _ | with_reducible refine Ext.tr ?_ (by assumption)))⟩
          rw [hkn] at K1
          obtain ⟨bl', ol', hAe, _, hcl⟩ := HA.out.p1 hj
          injection hAe with hAe
          injection hAe with e1 e2
          subst e1 e2
          have d1 := hcl _ hE
          rw [← gi_lt] at d1
          have hblz := hE.sz _ hbl
          have hj0 : (0 : Int) ≤ j := by omega
          rw [hkn] at HBO
          clear hcl hkn
          obtain ⟨a, ha⟩ : ∃ a, gi g.L j = a := ⟨_, rfl⟩
          rw [ha] at d1 HBO
          clear ha
          by_cases hgt : a < lev
          · have HF2 := Lib.hid (HFA.out (by rw [HBO.out, decide_eq_false (show ¬ lev ≤ a by omega)]; rfl))
            go_wp2
            refine region_grow (by kernel_rfl) (by kernel_rfl) ?_
            repeat (first | go_big_quiet_step (first | (go_at_call 95; with_reducible exact callsGrow (K1.out _ (hE.tr (Grow.ok _)))) | fail) | quiet_step (first | (go_at_call 95; with_reducible exact callsGrow (K1.out _ (hE.tr (Grow.ok _)))) | fail))
            refine wpQuiet_nil ?_
            intro w1 hb
            have hc := hb.ccell
            have hf := hb.frz
            have hs := hb.sz
            (try simp at hs); (try have hs0 := hs w.heap.size (by omega)); (try have hs1 := hs (w.heap.size + 1) (by omega)); (try have hs2 := hs (w.heap.size + 1 + 1) (by omega)); (try have hs3 := hs (w.heap.size + 1 + 1 + 1) (by omega))
            (try simp only [IntWalk.i64_left])
            go_wp2
            go_ret
            exact ⟨.inr ⟨rfl, HF2.out⟩, by (repeat (first | with_reducible exact Ext.rfl' _ | with_reducible assumption | with_reducible refine Ext.al ?_ _ | with_reducible refine Ext.dr ?_ | with_reducible refine Ext.st ?_ (by simp) _ | with_reducible refine Ext.tr ?_ (by assumption)))⟩
          · have hgo : Hid (∀ j, j < k + 1 → barOk g lev Q j = true) := Lib.hid (by
              intro x hx
              rcases Nat.lt_succ_iff_lt_or_eq.1 hx with h | h
              · exact hF.out x h
              · subst h; rw [HBO.out, decide_eq_true (show lev ≤ a by omega)]; rfl)
            have hgt' : decide (a < lev) = false := decide_eq_false hgt
            clear hgt
            go_wp2
            refine region_grow (by kernel_rfl) (by kernel_rfl) ?_
            repeat (first | go_big_quiet_step (first | (go_at_call 95; with_reducible exact callsGrow (K1.out _ (hE.tr (Grow.ok _)))) | fail) | quiet_step (first | (go_at_call 95; with_reducible exact callsGrow (K1.out _ (hE.tr (Grow.ok _)))) | fail))
            refine wpQuiet_nil ?_
            intro w1 hb
            have hc := hb.ccell
            have hf := hb.frz
            have hs := hb.sz
            (try simp at hs); (try have hs0 := hs w.heap.size (by omega)); (try have hs1 := hs (w.heap.size + 1) (by omega)); (try have hs2 := hs (w.heap.size + 1 + 1) (by omega)); (try have hs3 := hs (w.heap.size + 1 + 1 + 1) (by omega))
            (try simp only [IntWalk.i64_left])
            go_wp2
            exact ⟨⟨by (repeat (first | with_reducible exact Ext.rfl' _ | with_reducible assumption | with_reducible refine Ext.al ?_ _ | with_reducible refine Ext.dr ?_ | with_reducible refine Ext.st ?_ (by simp) _ | with_reducible refine Ext.tr ?_ (by assumption))), k + 1, by omega, by go_num, hgo⟩, by simp [intOf]; omega⟩
        · have hkq : k = Q.length := by omega
          have HBN : Hid (anyN (fun k => !(barOk g lev Q k)) Q.length = false) := Lib.hid ((anyN_no _ _).2 fun x hx => by rw [hF.out x (by omega)]; rfl)
          have HWB : Hid (isWayB g cn rn (zl F) (zl T) P = true) := Lib.hid (by
            unfold isWayB
            rw [decide_eq_true HEN.out.1, decide_eq_true HEN.out.2.1, decide_eq_true HEN.out.2.2, (anyN_no _ _).2 fun x hx => by rw [HST.out x hx]; rfl]
            rfl)
          have HRE2 := Lib.hid (fun w' (hw : Ext w w') => HRE.out w' hw)
          by_cases hway : ∃ p, IsWay (adjN cn rn) (roP g 20000 Q) (cn * rn) F T p
          · have R1 : Hid (∀ w', Ext w w' → Calls Try.prog 105 #[.agg #[.int .i64 g.X, .int .i64 g.Y, .int .i64 g.S, .int .i64 g.C, .int .i64 g.R, .slice (some ⟨bl, ol, none⟩) g.L.length c], .agg #[.slice B F.length cB, .slice D T.length cD, .int .i64 lev, .slice (some ⟨bp, op, none⟩) (m + 1) cP, .slice Aq Q.length cQ], .int .i64 20000, .slice Aq Q.length cQ] w' fun e w'' => e = .returned (.bool true) ∧ Ext w' w'') := Lib.hid fun w' hw' => (HRE2.out w' hw').mono fun e w'' h => by
              rcases h with ⟨⟨h1, _⟩ | ⟨_, h1⟩, h2⟩
              · exact ⟨h1, h2⟩
              · exact absurd hway h1
            have HF2 : Hid (¬ R) := Lib.hid fun h2 => by
              rw [← HR.out] at h2
              obtain ⟨p, hp⟩ := hway
              exact h2.2.2.2 p ((opB_roP HV.out HLN.out Q).1 hp)
            clear hway HRE HRE2
            go_wp2_with (first | (go_at_call 105; with_reducible refine Calls.mono (R1.out _ (by first | assumption | (repeat (first | with_reducible exact Ext.rfl' _ | with_reducible assumption | with_reducible refine Ext.al ?_ _ | with_reducible refine Ext.dr ?_ | with_reducible refine Ext.st ?_ (by simp) _ | with_reducible refine Ext.tr ?_ (by assumption))))) ?_; rintro e w7 ⟨rfl, hb⟩; have hc := hb.ccell; have hf := hb.frz; have hs := hb.sz; (try simp at hs); (try have t0 := hs (w.heap.size) (by first | assumption | omega)); (try have t1 := hs (w.heap.size) (by first | assumption | omega)); (try have t2 := hs (w.heap.size) (by first | assumption | omega)); (try have t3 := hs (w.heap.size) (by first | assumption | omega)); (try have t4 := hs (w.heap.size) (by first | assumption | omega)); (try have t5 := hs (w.heap.size) (by first | assumption | omega))))
            go_ret
            exact ⟨.inr ⟨rfl, HF2.out⟩, by (repeat (first | with_reducible exact Ext.rfl' _ | with_reducible assumption | with_reducible refine Ext.al ?_ _ | with_reducible refine Ext.dr ?_ | with_reducible refine Ext.st ?_ (by simp) _ | with_reducible refine Ext.tr ?_ (by assumption)))⟩
          · have R1 : Hid (∀ w', Ext w w' → Calls Try.prog 105 #[.agg #[.int .i64 g.X, .int .i64 g.Y, .int .i64 g.S, .int .i64 g.C, .int .i64 g.R, .slice (some ⟨bl, ol, none⟩) g.L.length c], .agg #[.slice B F.length cB, .slice D T.length cD, .int .i64 lev, .slice (some ⟨bp, op, none⟩) (m + 1) cP, .slice Aq Q.length cQ], .int .i64 20000, .slice Aq Q.length cQ] w' fun e w'' => e = .returned (.bool false) ∧ Ext w' w'') := Lib.hid fun w' hw' => (HRE2.out w' hw').mono fun e w'' h => by
              rcases h with ⟨⟨_, h1⟩ | ⟨h1, _⟩, h2⟩
              · exact absurd h1 hway
              · exact ⟨h1, h2⟩
            have HF2 : Hid R := Lib.hid (by
              rw [← HR.out]
              exact ⟨HWB.out, HHL.out, HBN.out, fun p hp => hway ⟨p, (opB_roP HV.out HLN.out Q).2 hp⟩⟩)
            clear hway HRE HRE2
            go_wp2_with (first | (go_at_call 105; with_reducible refine Calls.mono (R1.out _ (by first | assumption | (repeat (first | with_reducible exact Ext.rfl' _ | with_reducible assumption | with_reducible refine Ext.al ?_ _ | with_reducible refine Ext.dr ?_ | with_reducible refine Ext.st ?_ (by simp) _ | with_reducible refine Ext.tr ?_ (by assumption))))) ?_; rintro e w7 ⟨rfl, hb⟩; have hc := hb.ccell; have hf := hb.frz; have hs := hb.sz; (try simp at hs); (try have t0 := hs (w.heap.size) (by first | assumption | omega)); (try have t1 := hs (w.heap.size) (by first | assumption | omega)); (try have t2 := hs (w.heap.size) (by first | assumption | omega)); (try have t3 := hs (w.heap.size) (by first | assumption | omega)); (try have t4 := hs (w.heap.size) (by first | assumption | omega)); (try have t5 := hs (w.heap.size) (by first | assumption | omega))))
            go_ret
            exact ⟨.inl ⟨rfl, HF2.out⟩, by (repeat (first | with_reducible exact Ext.rfl' _ | with_reducible assumption | with_reducible refine Ext.al ?_ _ | with_reducible refine Ext.dr ?_ | with_reducible refine Ext.st ?_ (by simp) _ | with_reducible refine Ext.tr ?_ (by assumption)))⟩
end Go.Proofs.Ytgnakeemcccfjaa

/- SoilCarries: the law returns true for every input. Conditions: none. -/
import Derived.Test.YtohdplnlbnoojaaSlawam
namespace Go.Proofs.Ytohdplnlbnoojaa
open Go Go.RowKit Go.IntWalk

theorem carry_div {a b d : Int} (hd : 0 < d) : a / d + (b + a % d) / d = (a + b) / d ∧ (b + a % d) % d = (a + b) % d := by
  have h1 : a + b = b + a % d + d * (a / d) := by have := Int.emod_add_mul_ediv a d; omega
  constructor
  · rw [h1, Int.add_mul_ediv_left _ _ (by omega)]; omega
  · rw [h1, Int.add_mul_emod_self_left]
/-- Two amounts one after the other are both together. -/
theorem am_carry {s : So} {v u n d : Int} (h0 : chkSoils [s] = 0) (hv : 0 ≤ v ∧ v ≤ 100000000000000) (hu : 0 ≤ u ∧ u ≤ 100000000000000) (hn : 1 ≤ n ∧ n ≤ 5000) (hd : 1 ≤ d ∧ d ≤ 1000000) :
    ∃ q1 m1 q2 m2 q3 : Int, amV s v 0 n d = .tuple #[.int .i64 q1, .int .i64 m1, .int .i64 0] ∧ amV s u m1 n d = .tuple #[.int .i64 q2, .int .i64 m2, .int .i64 0] ∧ amV s (v + u) 0 n d = .tuple #[.int .i64 q3, .int .i64 m2, .int .i64 0] ∧ q1 + q2 = q3 ∧ wrap64 (q1 + q2) = q3 := by
  have w1 : ∀ x : Int, 0 ≤ x → x ≤ 200000000000000 → withinB x 0 1000000000000000 = true := by
    intro x h1 h2
    simp only [withinB, Bool.and_eq_true, decide_eq_true_eq]
    omega
  have w2 : ∀ x : Int, 0 ≤ x → x < d → withinB x 0 (d - 1) = true := by
    intro x h1 h2
    simp only [withinB, Bool.and_eq_true, decide_eq_true_eq]
    omega
  have e1 : ∀ x r : Int, 0 ≤ x → x ≤ 200000000000000 → 0 ≤ r → r < d → amE s x r d = 0 := by
    intro x r h1 h2 h3 h4
    unfold amE
    rw [if_neg (by omega), w1 x h1 h2, w2 r h3 h4]
    rfl
  have hm0 : 0 ≤ (v * n) % d := Int.emod_nonneg _ (by omega)
  have hm1 : (v * n) % d < d := Int.emod_lt_of_pos _ (by omega)
  obtain ⟨c1, c2⟩ := carry_div (a := v * n) (b := u * n) (d := d) (by omega)
  refine ⟨(v * n) / d, (v * n) % d, (u * n + (v * n) % d) / d, (u * n + (v * n) % d) % d, ((v + u) * n) / d, ?_, ?_, ?_, ?_, ?_⟩
  · unfold amV amQ amR
    rw [e1 v 0 hv.1 (by omega) (by omega) (by omega), if_pos rfl, if_pos rfl, Int.add_zero]
  · unfold amV amQ amR
    rw [e1 u _ hu.1 (by omega) hm0 hm1, if_pos rfl, if_pos rfl]
  · unfold amV amQ amR
    rw [e1 (v + u) 0 (by omega) (by omega) (by omega) (by omega), if_pos rfl, if_pos rfl, Int.add_zero, Int.add_mul, c2]
  · rw [Int.add_mul]; exact c1
  · rw [Int.add_mul, c1]
    have h1 : 0 ≤ v * n := Int.mul_nonneg hv.1 (by omega)
    have h2 : v * n ≤ 100000000000000 * 5000 := Int.mul_le_mul hv.2 hn.2 (by omega) (by omega)
    have h3 : 0 ≤ u * n := Int.mul_nonneg hu.1 (by omega)
    have h4 : u * n ≤ 100000000000000 * 5000 := Int.mul_le_mul hu.2 hn.2 (by omega) (by omega)
    have h5 : 0 ≤ (v * n + u * n) / d := Int.ediv_nonneg (by omega) (by omega)
    have h6 : (v * n + u * n) / d ≤ v * n + u * n := Int.ediv_le_self _ (by omega)
    unfold wrap64
    omega
theorem amV_err {s : So} {v r n d : Int} (h0 : chkSoils [s] ≠ 0) : amV s v r n d = .tuple #[.int .i64 0, .int .i64 0, .int .i64 (chkSoils [s])] := by
  unfold amV amQ amR amE
  rw [if_pos h0, if_neg h0, if_neg h0]
set_option maxHeartbeats 16000000 in
set_option maxRecDepth 100000 in
theorem ca_walk (s : So) (v u : Int) (w : World) :
    Calls Try.prog 12 #[.agg #[.string s.s, .int .i64 s.run, .int .i64 s.den, .int .i64 s.num, .int .i64 s.dn], .int .i64 v, .int .i64 u] w fun e w' => e = .returned (.bool true) ∧ Ext w w' := by
  have HV := Lib.hid (fun w => within_c v 0 100000000000000 w)
  have HU := Lib.hid (fun w => within_c u 0 100000000000000 w)
  by_cases hs : 50 < s.s.size
  · have hs' : (50 : Int) < (s.s.size : Int) := by omega
    go_enter Try.func12, Try.ntmps12
    go_wp2_with (first | (go_at_call 14; with_reducible refine Calls.mono (awake_c _) ?_; rintro e wa ⟨rfl, hb⟩; have hc := hb.ccell; have hf := hb.frz; have hs := hb.sz; (try simp at hs); (try have t0 := hs (w.heap.size) (by first | assumption | omega)); (try have t1 := hs (w.heap.size) (by first | assumption | omega)); (try have t2 := hs (w.heap.size) (by first | assumption | omega)); (try have t3 := hs (w.heap.size) (by first | assumption | omega)); (try have t4 := hs (w.heap.size) (by first | assumption | omega)); (try have t5 := hs (w.heap.size) (by first | assumption | omega))))
    go_ret
    exact ⟨rfl, by (repeat (first | with_reducible exact Ext.rfl' _ | with_reducible assumption | with_reducible refine Ext.al ?_ _ | with_reducible refine Ext.dr ?_ | with_reducible refine Ext.st ?_ (by simp) _ | with_reducible refine Ext.tr ?_ (by assumption)))⟩
  have hs' : ¬ (50 : Int) < (s.s.size : Int) := by omega
  cases hv : withinB v 0 100000000000000
  · rw [hv] at HV
    clear hv
    go_enter Try.func12, Try.ntmps12
    go_wp2_with (first | (go_at_call 14; with_reducible refine Calls.mono (awake_c _) ?_; rintro e wa ⟨rfl, hb⟩; have hc := hb.ccell; have hf := hb.frz; have hs := hb.sz; (try simp at hs); (try have t0 := hs (w.heap.size) (by first | assumption | omega)); (try have t1 := hs (w.heap.size) (by first | assumption | omega)); (try have t2 := hs (w.heap.size) (by first | assumption | omega)); (try have t3 := hs (w.heap.size) (by first | assumption | omega)); (try have t4 := hs (w.heap.size) (by first | assumption | omega)); (try have t5 := hs (w.heap.size) (by first | assumption | omega))) | (go_at_call 56; with_reducible refine Calls.mono (HV.out _) ?_; rintro e w' ⟨rfl, rfl⟩))
    go_ret
    exact ⟨rfl, by (repeat (first | with_reducible exact Ext.rfl' _ | with_reducible assumption | with_reducible refine Ext.al ?_ _ | with_reducible refine Ext.dr ?_ | with_reducible refine Ext.st ?_ (by simp) _ | with_reducible refine Ext.tr ?_ (by assumption)))⟩
  rw [hv] at HV
  cases hu : withinB u 0 100000000000000
  · rw [hu] at HU
    clear hv hu
    go_enter Try.func12, Try.ntmps12
    go_wp2_with (first | (go_at_call 14; with_reducible refine Calls.mono (awake_c _) ?_; rintro e wa ⟨rfl, hb⟩; have hc := hb.ccell; have hf := hb.frz; have hs := hb.sz; (try simp at hs); (try have t0 := hs (w.heap.size) (by first | assumption | omega)); (try have t1 := hs (w.heap.size) (by first | assumption | omega)); (try have t2 := hs (w.heap.size) (by first | assumption | omega)); (try have t3 := hs (w.heap.size) (by first | assumption | omega)); (try have t4 := hs (w.heap.size) (by first | assumption | omega)); (try have t5 := hs (w.heap.size) (by first | assumption | omega))) | (go_at_call 56; with_reducible refine Calls.mono (HV.out _) ?_; rintro e w' ⟨rfl, rfl⟩) | (go_at_call 56; with_reducible refine Calls.mono (HU.out _) ?_; rintro e w' ⟨rfl, rfl⟩))
    go_ret
    exact ⟨rfl, by (repeat (first | with_reducible exact Ext.rfl' _ | with_reducible assumption | with_reducible refine Ext.al ?_ _ | with_reducible refine Ext.dr ?_ | with_reducible refine Ext.st ?_ (by simp) _ | with_reducible refine Ext.tr ?_ (by assumption)))⟩
  rw [hu] at HU
  simp only [withinB, Bool.and_eq_true, decide_eq_true_eq] at hv hu
  have hvu : wrap64 (v + u) = v + u := by unfold wrap64; omega
  by_cases h0 : chkSoils [s] = 0
  case neg =>
    have HB := Lib.hid (fun x y w' => by have h := bulked_c s x y w'; rw [amV_err h0] at h; exact h)
    have h0' : (chkSoils [s] != 0) = true := by simp [h0]
    clear h0 hv hu
    generalize chkSoils [s] = E at *
    go_enter Try.func12, Try.ntmps12
    go_wp2_with (first | (go_at_call 14; with_reducible refine Calls.mono (awake_c _) ?_; rintro e wa ⟨rfl, hb⟩; have hc := hb.ccell; have hf := hb.frz; have hs := hb.sz; (try simp at hs); (try have t0 := hs (w.heap.size) (by first | assumption | omega)); (try have t1 := hs (w.heap.size) (by first | assumption | omega)); (try have t2 := hs (w.heap.size) (by first | assumption | omega)); (try have t3 := hs (w.heap.size) (by first | assumption | omega)); (try have t4 := hs (w.heap.size) (by first | assumption | omega)); (try have t5 := hs (w.heap.size) (by first | assumption | omega))) | (go_at_call 56; with_reducible refine Calls.mono (HV.out _) ?_; rintro e w' ⟨rfl, rfl⟩) | (go_at_call 56; with_reducible refine Calls.mono (HU.out _) ?_; rintro e w' ⟨rfl, rfl⟩) | (go_at_call 53; with_reducible refine Calls.mono (HB.out _ _ _) ?_; rintro e wb ⟨rfl, hb⟩; have hc := hb.ccell; have hf := hb.frz; have hs := hb.sz; (try simp at hs); (try have t0 := hs (w.heap.size) (by first | assumption | omega)); (try have t1 := hs (w.heap.size) (by first | assumption | omega)); (try have t2 := hs (w.heap.size) (by first | assumption | omega)); (try have t3 := hs (w.heap.size) (by first | assumption | omega)); (try have t4 := hs (w.heap.size) (by first | assumption | omega)); (try have t5 := hs (w.heap.size) (by first | assumption | omega))))
    go_ret
    exact ⟨rfl, by (repeat (first | with_reducible exact Ext.rfl' _ | with_reducible assumption | with_reducible refine Ext.al ?_ _ | with_reducible refine Ext.dr ?_ | with_reducible refine Ext.st ?_ (by simp) _ | with_reducible refine Ext.tr ?_ (by assumption)))⟩
  have hnum := chk1_num h0
  obtain ⟨q1, m1, q2, m2, q3, b1, b2, b3, b4, b5⟩ := am_carry (n := s.num) (d := s.dn) h0 hv hu (by omega) (by omega)
  obtain ⟨p1, k1, p2, k2, p3, c1, c2, c3, c4, c5⟩ := am_carry (n := s.den) (d := 1000000) h0 hv hu (by omega) (by omega)
  have H1 := Lib.hid (fun w' => by have h := bulked_c s v 0 w'; rw [b1] at h; exact h)
  have H2 := Lib.hid (fun w' => by have h := bulked_c s u m1 w'; rw [b2] at h; exact h)
  have H3 := Lib.hid (fun w' => by have h := bulked_c s (v + u) 0 w'; rw [b3] at h; exact h)
  have M1 := Lib.hid (fun w' => by have h := mass_c s v 0 w'; rw [c1] at h; exact h)
  have M2 := Lib.hid (fun w' => by have h := mass_c s u k1 w'; rw [c2] at h; exact h)
  have M3 := Lib.hid (fun w' => by have h := mass_c s (v + u) 0 w'; rw [c3] at h; exact h)
  clear h0 hv hu hnum b1 b2 b3 b4 c1 c2 c3 c4 hs
  go_enter Try.func12, Try.ntmps12
  go_wp2_with (first | (go_at_call 14; with_reducible refine Calls.mono (awake_c _) ?_; rintro e wa ⟨rfl, hb⟩; have hc := hb.ccell; have hf := hb.frz; have hs := hb.sz; (try simp at hs); (try have t0 := hs (w.heap.size) (by first | assumption | omega)); (try have t1 := hs (w.heap.size) (by first | assumption | omega)); (try have t2 := hs (w.heap.size) (by first | assumption | omega)); (try have t3 := hs (w.heap.size) (by first | assumption | omega)); (try have t4 := hs (w.heap.size) (by first | assumption | omega)); (try have t5 := hs (w.heap.size) (by first | assumption | omega))) | (go_at_call 56; with_reducible refine Calls.mono (HV.out _) ?_; rintro e w' ⟨rfl, rfl⟩) | (go_at_call 56; with_reducible refine Calls.mono (HU.out _) ?_; rintro e w' ⟨rfl, rfl⟩) | (go_at_call 53; with_reducible refine Calls.mono (H1.out _) ?_; rintro e wb ⟨rfl, hb⟩; have hc := hb.ccell; have hf := hb.frz; have hs := hb.sz; (try simp at hs); (try have t0 := hs (w.heap.size) (by first | assumption | omega)); (try have t1 := hs (w.heap.size) (by first | assumption | omega)); (try have t2 := hs (w.heap.size) (by first | assumption | omega)); (try have t3 := hs (w.heap.size) (by first | assumption | omega)); (try have t4 := hs (w.heap.size) (by first | assumption | omega)); (try have t5 := hs (w.heap.size) (by first | assumption | omega))) | (go_at_call 53; with_reducible refine Calls.mono (H2.out _) ?_; rintro e wb2 ⟨rfl, hb⟩; have hc := hb.ccell; have hf := hb.frz; have hs := hb.sz; (try simp at hs); (try have t0 := hs (w.heap.size) (by first | assumption | omega)); (try have t1 := hs (w.heap.size) (by first | assumption | omega)); (try have t2 := hs (w.heap.size) (by first | assumption | omega)); (try have t3 := hs (w.heap.size) (by first | assumption | omega)); (try have t4 := hs (w.heap.size) (by first | assumption | omega)); (try have t5 := hs (w.heap.size) (by first | assumption | omega))) | (go_at_call 53; with_reducible refine Calls.mono (H3.out _) ?_; rintro e wb3 ⟨rfl, hb⟩; have hc := hb.ccell; have hf := hb.frz; have hs := hb.sz; (try simp at hs); (try have t0 := hs (w.heap.size) (by first | assumption | omega)); (try have t1 := hs (w.heap.size) (by first | assumption | omega)); (try have t2 := hs (w.heap.size) (by first | assumption | omega)); (try have t3 := hs (w.heap.size) (by first | assumption | omega)); (try have t4 := hs (w.heap.size) (by first | assumption | omega)); (try have t5 := hs (w.heap.size) (by first | assumption | omega))) | (go_at_call 54; with_reducible refine Calls.mono (M1.out _) ?_; rintro e wm ⟨rfl, hb⟩; have hc := hb.ccell; have hf := hb.frz; have hs := hb.sz; (try simp at hs); (try have t0 := hs (w.heap.size) (by first | assumption | omega)); (try have t1 := hs (w.heap.size) (by first | assumption | omega)); (try have t2 := hs (w.heap.size) (by first | assumption | omega)); (try have t3 := hs (w.heap.size) (by first | assumption | omega)); (try have t4 := hs (w.heap.size) (by first | assumption | omega)); (try have t5 := hs (w.heap.size) (by first | assumption | omega))) | (go_at_call 54; with_reducible refine Calls.mono (M2.out _) ?_; rintro e wm2 ⟨rfl, hb⟩; have hc := hb.ccell; have hf := hb.frz; have hs := hb.sz; (try simp at hs); (try have t0 := hs (w.heap.size) (by first | assumption | omega)); (try have t1 := hs (w.heap.size) (by first | assumption | omega)); (try have t2 := hs (w.heap.size) (by first | assumption | omega)); (try have t3 := hs (w.heap.size) (by first | assumption | omega)); (try have t4 := hs (w.heap.size) (by first | assumption | omega)); (try have t5 := hs (w.heap.size) (by first | assumption | omega))) | (go_at_call 54; with_reducible refine Calls.mono (M3.out _) ?_; rintro e wm3 ⟨rfl, hb⟩; have hc := hb.ccell; have hf := hb.frz; have hs := hb.sz; (try simp at hs); (try have t0 := hs (w.heap.size) (by first | assumption | omega)); (try have t1 := hs (w.heap.size) (by first | assumption | omega)); (try have t2 := hs (w.heap.size) (by first | assumption | omega)); (try have t3 := hs (w.heap.size) (by first | assumption | omega)); (try have t4 := hs (w.heap.size) (by first | assumption | omega)); (try have t5 := hs (w.heap.size) (by first | assumption | omega))))
  go_ret
  exact ⟨ret_bool (by simp), by (repeat (first | with_reducible exact Ext.rfl' _ | with_reducible assumption | with_reducible refine Ext.al ?_ _ | with_reducible refine Ext.dr ?_ | with_reducible refine Ext.st ?_ (by simp) _ | with_reducible refine Ext.tr ?_ (by assumption)))⟩
end Go.Proofs.Ytohdplnlbnoojaa

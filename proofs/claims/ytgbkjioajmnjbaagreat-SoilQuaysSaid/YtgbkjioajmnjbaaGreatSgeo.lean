/- Lines of geometry: the sides of a line, offsets and places along it, of the program and of the reference. -/
import Derived.Test.YtgbkjioajmnjbaaGreatPts2
import Derived.Test.YtgbkjioajmnjbaaGreatBleaf
namespace Go.Proofs.YtgbkjioajmnjbaaGreat
open Go Go.RowKit Go.IntWalk

theorem size_c (n : Int) (w : World) :
    Calls Tryz.prog 103 #[.int .i64 n] w fun e w' => e = .returned (.int .i64 (sizeW n)) ∧ w = w' := by
  unfold sizeW
  go_enter Tryz.func103, Tryz.ntmps103
  go_wp2
  all_goals (go_ret; exact ⟨ret_int (by omega), rfl⟩)
theorem cmp_c (x y : Int) (w : World) :
    Calls Tryz.prog 101 #[.int .i64 x, .int .i64 y] w fun e w' => e = .returned (.int .i64 (cmpI x y)) ∧ w = w' := by
  unfold cmpI
  go_enter Tryz.func101, Tryz.ntmps101
  by_cases h : x < y
  · go_wp2_with (first | (go_at_call 112; refine (isNaN_c _ _).mono ?_; rintro e w' ⟨rfl, rfl⟩))
    go_ret; exact ⟨ret_int (by simp), rfl⟩
  · by_cases h2 : y < x
    · go_wp2_with (first | (go_at_call 112; refine (isNaN_c _ _).mono ?_; rintro e w' ⟨rfl, rfl⟩))
      go_ret; exact ⟨ret_int (by simp), rfl⟩
    · go_wp2_with (first | (go_at_call 112; refine (isNaN_c _ _).mono ?_; rintro e w' ⟨rfl, rfl⟩))
      go_ret; exact ⟨ret_int (by simp), rfl⟩
theorem sign_c (n : Int) (w : World) :
    Calls Tryz.prog 83 #[.int .i64 n] w fun e w' => e = .returned (.int .i64 (cmpI n 0)) ∧ w = w' := by
  go_enter Tryz.func83, Tryz.ntmps83
  go_wp2_with (first | (go_at_call 101; refine (cmp_c _ _ _).mono ?_; rintro e w' ⟨rfl, rfl⟩))
  go_ret; exact ⟨rfl, rfl⟩
theorem rsign_c (n : Int) (w : World) :
    Calls Tryz.prog 70 #[.int .i64 n] w fun e w' => e = .returned (.int .i64 (cmpI n 0)) ∧ w = w' := by
  unfold cmpI
  go_enter Tryz.func70, Tryz.ntmps70
  by_cases h : n < 0
  · go_wp2; go_ret; exact ⟨ret_int (by simp), rfl⟩
  · by_cases h2 : 0 < n
    · go_wp2; go_ret; exact ⟨ret_int (by simp), rfl⟩
    · go_wp2; go_ret; exact ⟨ret_int (by simp), rfl⟩
theorem geoDown_c (n m : Int) (w : World) (h0 : 0 < m) (h1 : m ≤ 4000000000000000000) (h2 : -4000000000000000000 ≤ n / m) (h3 : n / m ≤ 4000000000000000000) :
    Calls Tryz.prog 86 #[.int .i64 n, .int .i64 m] w fun e w' => e = .returned (.int .i64 (n / m)) ∧ w = w' := by
  obtain ⟨t1, t2, t3, t4⟩ := tmod_form n m h0
  have H := Lib.hid (And.intro t1 t2); clear t1 t2
  have H2 := Lib.hid (And.intro h2 h3); clear h2 h3
  go_enter Tryz.func86, Tryz.ntmps86
  go_wp2
  · go_ret; have h := H2.out; rw [(H.out.1 (by assumption)).2] at h; exact ⟨ret_int (by rw [(H.out.1 (by assumption)).2]; unfold wrap64; omega), rfl⟩
  · go_ret; have h := H2.out; rw [(H.out.2 (by assumption)).2] at h; exact ⟨ret_int (by rw [(H.out.2 (by assumption)).2]; unfold wrap64; omega), rfl⟩
theorem floor_c (n m : Int) (w : World) (h0 : 0 < m) (h1 : m ≤ 4000000000000000000) (h2 : -4000000000000000000 ≤ n) (h3 : n ≤ 4000000000000000000) :
    Calls Tryz.prog 72 #[.int .i64 n, .int .i64 m] w fun e w' => e = .returned (.int .i64 (n / m)) ∧ w = w' := by
  have p1 := Int.emod_nonneg n (show m ≠ 0 by omega)
  have p2 := Int.emod_lt_of_pos n h0
  have e2 := Lib.hid (Int.mul_ediv_add_emod n m)
  go_enter Tryz.func72, Tryz.ntmps72
  go_wp2_with (first | (go_at_call 92; refine (mod_c _ _ _ h0 h1).mono ?_; rintro e w' ⟨rfl, rfl⟩))
  go_ret
  refine ⟨ret_int ?_, rfl⟩
  have e := e2.out
  show (n - n % m).tdiv m = n / m
  rw [show n - n % m = m * (n / m) by omega]
  exact Int.mul_tdiv_cancel_left _ (by omega)
theorem rootUp_c (n : Int) (w : World) :
    Calls Tryz.prog 89 #[.int .i64 n] w fun e w' => e = .returned (.int .i64 (rootW 3000000 n)) ∧ w = w' := by
  go_enter Tryz.func89, Tryz.ntmps89
  go_wp2
  go_loop [3, 4, 5] (fun l h _ => ∃ (low high : Int), l = .int .i64 low ∧ h = .int .i64 high ∧ 0 ≤ low ∧ low ≤ high ∧ high ≤ 3000000 ∧ Hid ((low = 0 ∨ (low - 1) * (low - 1) < n) ∧ (high = 3000000 ∨ n ≤ high * high))) (fun l h _ => (intOf h - intOf l).toNat)
  case atStart => exact ⟨0, 3000000, rfl, rfl, by omega, by omega, by omega, .inl rfl, .inl rfl⟩
  case round =>
    obtain ⟨low, high, rfl, rfl, h0, h1, h2, h3⟩ := hrel
    by_cases hlt : low < high
    · have hsq := Lib.hid (sq_cap (m := (low + high) / 2) (by omega) (by omega))
      go_wp2
      · refine ⟨⟨_, _, rfl, rfl, by omega, by omega, by omega, .inr ?_, h3.out.2⟩, by simp [intOf]; omega⟩
        rw [show (low + high) / 2 + 1 - 1 = (low + high) / 2 by omega, ← hsq.out]; assumption
      · refine ⟨⟨_, _, rfl, rfl, by omega, by omega, by omega, h3.out.1, .inr ?_⟩, by simp [intOf]; omega⟩
        rw [← hsq.out]; assumption
    · go_wp2
      go_ret
      refine ⟨ret_int (rootW_eq (by omega) (by omega) ⟨h0, by omega, h3.out.1, ?_⟩), rfl⟩
      obtain rfl : high = low := by omega
      exact h3.out.2
theorem rcross_c (ax ay bx by_ cx cy : Int) (w : World) :
    Calls Tryz.prog 71 #[.agg #[.int .i64 ax, .int .i64 ay], .agg #[.int .i64 bx, .int .i64 by_], .agg #[.int .i64 cx, .int .i64 cy]] w
      fun e w' => e = .returned (.int .i64 (crossW ⟨ax, ay⟩ ⟨bx, by_⟩ ⟨cx, cy⟩)) ∧ Ext w w' := by
  go_enter Tryz.func71, Tryz.ntmps71
  go_wp2; go_ret
  exact ⟨rfl, (((Ext.rfl' w).al _).al _).al _⟩
theorem cross_c (ax ay bx by_ cx cy : Int) (w : World) :
    Calls Tryz.prog 102 #[.agg #[.int .i64 ax, .int .i64 ay], .agg #[.int .i64 bx, .int .i64 by_], .agg #[.int .i64 cx, .int .i64 cy]] w
      fun e w' => e = .returned (.int .i64 (crossW ⟨ax, ay⟩ ⟨bx, by_⟩ ⟨cx, cy⟩)) ∧ Ext w w' := by
  go_enter Tryz.func102, Tryz.ntmps102
  go_wp2; go_ret
  exact ⟨rfl, (((Ext.rfl' w).al _).al _).al _⟩
theorem rorient_c (ax ay bx by_ cx cy : Int) (w : World) :
    Calls Tryz.prog 49 #[.agg #[.int .i64 ax, .int .i64 ay], .agg #[.int .i64 bx, .int .i64 by_], .agg #[.int .i64 cx, .int .i64 cy]] w
      fun e w' => e = .returned (.int .i64 (cmpI (crossW ⟨ax, ay⟩ ⟨bx, by_⟩ ⟨cx, cy⟩) 0)) ∧ Ext w w' := by
  go_enter Tryz.func49, Tryz.ntmps49
  go_wp2_with (first | (go_at_call 71; refine Calls.mono (rcross_c _ _ _ _ _ _ _) ?_; rintro e w1 ⟨rfl, hb⟩; have hc := hb.ccell; have hf := hb.frz; have hs := hb.sz; (try simp at hs); (try have hs0 := hs w.heap.size (by omega)); (try have hs1 := hs (w.heap.size + 1) (by omega)); (try have hs2 := hs (w.heap.size + 1 + 1) (by omega)); (try have hs3 := hs (w.heap.size + 1 + 1 + 1) (by omega))) | (go_at_call 70; refine Calls.mono (rsign_c _ _) ?_; rintro e w' ⟨rfl, rfl⟩))
  go_ret
  exact ⟨rfl, ((((Ext.rfl' w).al _).al _).al _).tr hb⟩
theorem gcross_c (ax ay bx by_ cx cy : Int) (w : World) :
    Calls Tryz.prog 84 #[.agg #[.int .i64 ax, .int .i64 ay], .agg #[.int .i64 bx, .int .i64 by_], .agg #[.int .i64 cx, .int .i64 cy]] w
      fun e w' => e = .returned (.int .i64 (if allGood [⟨ax, ay⟩, ⟨bx, by_⟩, ⟨cx, cy⟩] then crossW ⟨ax, ay⟩ ⟨bx, by_⟩ ⟨cx, cy⟩ else 0)) ∧ Ext w w' := by
  cases h : allGood [⟨ax, ay⟩, ⟨bx, by_⟩, ⟨cx, cy⟩]
  all_goals
    go_enter Tryz.func84, Tryz.ntmps84
    go_wp2_with (first | (go_at_call 69; refine Calls.mono (inRange3_c _ _ _ _ _ _ _ _ _ _ ?_) ?_; (focus simp); rintro e w1 ⟨rfl, hb⟩; have hc := hb.ccell; have hf := hb.frz; have hs := hb.sz; (try simp at hs); (try have hs0 := hs w.heap.size (by omega)); (try have hs1 := hs (w.heap.size + 1) (by omega)); (try have hs2 := hs (w.heap.size + 1 + 1) (by omega)); (try have hs3 := hs (w.heap.size + 1 + 1 + 1) (by omega))) | (go_at_call 102; refine Calls.mono (cross_c _ _ _ _ _ _ _) ?_; rintro e w1 ⟨rfl, hb⟩; have hc := hb.ccell; have hf := hb.frz; have hs := hb.sz; (try simp at hs); (try have hs0 := hs w.heap.size (by omega)); (try have hs1 := hs (w.heap.size + 1) (by omega)); (try have hs2 := hs (w.heap.size + 1 + 1) (by omega)); (try have hs3 := hs (w.heap.size + 1 + 1 + 1) (by omega))))
    go_ret
    exact ⟨by simp, by (repeat (first | with_reducible exact Ext.rfl' _ | with_reducible assumption | with_reducible refine Ext.al ?_ _ | with_reducible refine Ext.dr ?_ | with_reducible refine Ext.st ?_ (by simp) _ | with_reducible refine Ext.tr ?_ (by assumption)))⟩
theorem gorient_c (ax ay bx by_ cx cy : Int) (w : World) :
    Calls Tryz.prog 65 #[.agg #[.int .i64 ax, .int .i64 ay], .agg #[.int .i64 bx, .int .i64 by_], .agg #[.int .i64 cx, .int .i64 cy]] w
      fun e w' => e = .returned (.int .i64 (cmpI (if allGood [⟨ax, ay⟩, ⟨bx, by_⟩, ⟨cx, cy⟩] then crossW ⟨ax, ay⟩ ⟨bx, by_⟩ ⟨cx, cy⟩ else 0) 0)) ∧ Ext w w' := by
  go_enter Tryz.func65, Tryz.ntmps65
  generalize hr : (if allGood [⟨ax, ay⟩, ⟨bx, by_⟩, ⟨cx, cy⟩] then crossW ⟨ax, ay⟩ ⟨bx, by_⟩ ⟨cx, cy⟩ else 0) = r
  have hr' := Lib.hid hr; clear hr
  go_wp2_with (first | (go_at_call 84; refine Calls.mono ((hr'.out ▸ gcross_c _ _ _ _ _ _ _)) ?_; rintro e w1 ⟨rfl, hb⟩; have hc := hb.ccell; have hf := hb.frz; have hs := hb.sz; (try simp at hs); (try have hs0 := hs w.heap.size (by omega)); (try have hs1 := hs (w.heap.size + 1) (by omega)); (try have hs2 := hs (w.heap.size + 1 + 1) (by omega)); (try have hs3 := hs (w.heap.size + 1 + 1 + 1) (by omega))) | (go_at_call 83; refine Calls.mono (sign_c _ _) ?_; rintro e w' ⟨rfl, rfl⟩))
  go_ret
  exact ⟨rfl, by (repeat (first | with_reducible exact Ext.rfl' _ | with_reducible assumption | with_reducible refine Ext.al ?_ _ | with_reducible refine Ext.dr ?_ | with_reducible refine Ext.st ?_ (by simp) _ | with_reducible refine Ext.tr ?_ (by assumption)))⟩

def spanG (a b : Pt) : Int := rootW 3000000 (if allGood [a, b] then dotW a b b else 0)
def spanR (a b : Pt) : Int := rootW 4000000 (dotW a b b)

theorem gspan_c (ax ay bx by_ : Int) (w : World) :
    Calls Tryz.prog 68 #[.agg #[.int .i64 ax, .int .i64 ay], .agg #[.int .i64 bx, .int .i64 by_]] w
      fun e w' => e = .returned (.int .i64 (spanG ⟨ax, ay⟩ ⟨bx, by_⟩)) ∧ Ext w w' := by
  unfold spanG
  generalize hr : (if allGood [⟨ax, ay⟩, ⟨bx, by_⟩] then dotW ⟨ax, ay⟩ ⟨bx, by_⟩ ⟨bx, by_⟩ else 0) = r
  have hr' := Lib.hid hr; clear hr
  go_enter Tryz.func68, Tryz.ntmps68
  go_wp2_with (first | (go_at_call 90; refine Calls.mono ((hr'.out ▸ gsquare_c _ _ _ _ _)) ?_; rintro e w1 ⟨rfl, hb⟩; have hc := hb.ccell; have hf := hb.frz; have hs := hb.sz; (try simp at hs); (try have hs0 := hs w.heap.size (by omega)); (try have hs1 := hs (w.heap.size + 1) (by omega)); (try have hs2 := hs (w.heap.size + 1 + 1) (by omega)); (try have hs3 := hs (w.heap.size + 1 + 1 + 1) (by omega))) | (go_at_call 89; refine Calls.mono (rootUp_c _ _) ?_; rintro e w' ⟨rfl, rfl⟩))
  go_ret
  exact ⟨rfl, by (repeat (first | with_reducible exact Ext.rfl' _ | with_reducible assumption | with_reducible refine Ext.al ?_ _ | with_reducible refine Ext.dr ?_ | with_reducible refine Ext.st ?_ (by simp) _ | with_reducible refine Ext.tr ?_ (by assumption)))⟩

theorem rspan_c (ax ay bx by_ : Int) (w : World) :
    Calls Tryz.prog 51 #[.agg #[.int .i64 ax, .int .i64 ay], .agg #[.int .i64 bx, .int .i64 by_]] w
      fun e w' => e = .returned (.int .i64 (spanR ⟨ax, ay⟩ ⟨bx, by_⟩)) ∧ Ext w w' := by
  unfold spanR
  generalize hn : dotW ⟨ax, ay⟩ ⟨bx, by_⟩ ⟨bx, by_⟩ = n
  have HN := Lib.hid hn; clear hn
  go_enter Tryz.func51, Tryz.ntmps51
  go_wp2
  refine wp_name (fun W hW => ?_)
  have hE : Ext w W := by rw [hW]; (repeat (first | with_reducible exact Ext.rfl' _ | with_reducible assumption | with_reducible refine Ext.al ?_ _ | with_reducible refine Ext.dr ?_ | with_reducible refine Ext.st ?_ (by simp) _ | with_reducible refine Ext.tr ?_ (by assumption)))
  have HW := Lib.hid hW
  clear hW
  go_loopw [5, 6, 7] (fun l h _ wr => Ext W wr ∧ ∃ (low high : Int), l = .int .i64 low ∧ h = .int .i64 high ∧ 0 ≤ low ∧ low ≤ high ∧ high ≤ 4000000 ∧ Hid ((low = 0 ∨ (low - 1) * (low - 1) < n) ∧ (high = 4000000 ∨ n ≤ high * high))) (fun l h _ _ => (intOf h - intOf l).toNat)
  case atStart => exact ⟨Ext.rfl' _, 0, 4000000, rfl, rfl, by omega, by omega, by omega, .inl rfl, .inl rfl⟩
  case round =>
    obtain ⟨hr, low, high, rfl, rfl, h0, h1, h2, h3⟩ := hrel
    have hc := hr.ccell
    have hf := hr.frz
    have hs := hr.sz
    rw [HW.out] at hc hf hs
    (try simp at hs); (try have hs0 := hs w.heap.size (by omega)); (try have hs1 := hs (w.heap.size + 1) (by omega)); (try have hs2 := hs (w.heap.size + 1 + 1) (by omega)); (try have hs3 := hs (w.heap.size + 1 + 1 + 1) (by omega))
    by_cases hlt : low < high
    · have hsq := Lib.hid (sq_cap (m := (low + high) / 2) (by omega) (by omega))
      go_wp2_with (first | (go_at_call 74; refine Calls.mono ((HN.out ▸ rsquare_c _ _ _ _ _)) ?_; rintro e w1 ⟨rfl, hb⟩; have hc := hb.ccell; have hf := hb.frz; have hs := hb.sz; (try simp at hs); (try have hs0 := hs w.heap.size (by omega)); (try have hs1 := hs (w.heap.size + 1) (by omega)); (try have hs2 := hs (w.heap.size + 1 + 1) (by omega)); (try have hs3 := hs (w.heap.size + 1 + 1 + 1) (by omega))))
      · refine ⟨⟨by (repeat (first | with_reducible exact Ext.rfl' _ | with_reducible assumption | with_reducible refine Ext.al ?_ _ | with_reducible refine Ext.dr ?_ | with_reducible refine Ext.st ?_ (by simp) _ | with_reducible refine Ext.tr ?_ (by assumption))), _, _, rfl, rfl, by omega, by omega, by omega, h3.out.1, .inr ?_⟩, by simp [intOf]; omega⟩
        rw [← hsq.out]; assumption
      · refine ⟨⟨by (repeat (first | with_reducible exact Ext.rfl' _ | with_reducible assumption | with_reducible refine Ext.al ?_ _ | with_reducible refine Ext.dr ?_ | with_reducible refine Ext.st ?_ (by simp) _ | with_reducible refine Ext.tr ?_ (by assumption))), _, _, rfl, rfl, by omega, by omega, by omega, .inr ?_, h3.out.2⟩, by simp [intOf]; omega⟩
        rw [show (low + high) / 2 + 1 - 1 = (low + high) / 2 by omega, ← hsq.out]; assumption
    · go_wp2
      go_ret
      refine ⟨ret_int (rootW_eq (by omega) (by omega) ⟨h0, by omega, h3.out.1, ?_⟩), hE.tr hr⟩
      obtain rfl : high = low := by omega
      exact h3.out.2

theorem offset_c (ax ay bx by_ cx cy : Int) (w : World) (hs : spanG ⟨ax, ay⟩ ⟨bx, by_⟩ ≠ 0) :
    Calls Tryz.prog 88 #[.agg #[.int .i64 ax, .int .i64 ay], .agg #[.int .i64 bx, .int .i64 by_], .agg #[.int .i64 cx, .int .i64 cy]] w
      fun e w' => e = .returned (.int .i64 (wrap64 ((sizeW (crossW ⟨ax, ay⟩ ⟨bx, by_⟩ ⟨cx, cy⟩)).tdiv (spanG ⟨ax, ay⟩ ⟨bx, by_⟩)))) ∧ Ext w w' := by
  go_enter Tryz.func88, Tryz.ntmps88
  go_wp2_with fail
  refine region_grow (by kernel_rfl) (by kernel_rfl) ?_
  repeat (first | go_big_quiet_step (first | (go_at_call 102; exact callsGrow (cross_c _ _ _ _ _ _ _)) | (go_at_call 68; exact callsGrow (gspan_c _ _ _ _ _)) | (go_at_call 103; exact callsStay (size_c _ _)) | fail) | quiet_step (first | (go_at_call 102; exact callsGrow (cross_c _ _ _ _ _ _ _)) | (go_at_call 68; exact callsGrow (gspan_c _ _ _ _ _)) | (go_at_call 103; exact callsStay (size_c _ _)) | fail))
  refine wpQuiet_nil ?_
  intro w1 hb
  have hc := hb.ccell
  have hf := hb.frz
  have hs := hb.sz
  (try simp at hs); (try have hs0 := hs w.heap.size (by omega)); (try have hs1 := hs (w.heap.size + 1) (by omega)); (try have hs2 := hs (w.heap.size + 1 + 1) (by omega)); (try have hs3 := hs (w.heap.size + 1 + 1 + 1) (by omega))
  (try simp only [IntWalk.i64_left])
  go_wp2
  go_ret
  exact ⟨rfl, by (repeat (first | with_reducible exact Ext.rfl' _ | with_reducible assumption | with_reducible refine Ext.al ?_ _ | with_reducible refine Ext.dr ?_ | with_reducible refine Ext.st ?_ (by simp) _ | with_reducible refine Ext.tr ?_ (by assumption)))⟩
theorem allGood_two (a b : Pt) : allGood [a, b] = (good a && good b) := by simp [allGood]
theorem spanG_eq (a b : Pt) (ha : good a = true) (hb : good b = true) : spanG a b = spanR a b := by
  unfold spanG spanR
  rw [allGood_two, ha, hb]
  simp only [Bool.and_self, if_true]
  refine rootW_cap ?_
  rw [dotW_good ha hb hb]
  exact (dotZ_bound ha hb hb).2

def lineE (a b p : Pt) : Int := if !allGood [a, b, p] then 2 else if decide (a = b) then 11 else 0
theorem lineE_bad {a b p : Pt} (h : allGood [a, b, p] = false) : lineE a b p = 2 := by simp [lineE, h]
theorem lineE_one {a p : Pt} (h : allGood [a, a, p] = true) : lineE a a p = 11 := by simp [lineE, h]
theorem lineE_ok {a b p : Pt} (h : allGood [a, b, p] = true) (hne : a ≠ b) : lineE a b p = 0 := by simp [lineE, h, hne]

theorem checkLine_c (ax ay bx by_ cx cy : Int) (w : World) :
    Calls Tryz.prog 85 #[.agg #[.int .i64 ax, .int .i64 ay], .agg #[.int .i64 bx, .int .i64 by_], .agg #[.int .i64 cx, .int .i64 cy]] w
      fun e w' => e = .returned (.int .i64 (lineE ⟨ax, ay⟩ ⟨bx, by_⟩ ⟨cx, cy⟩)) ∧ Ext w w' := by
  cases h1 : allGood [⟨ax, ay⟩, ⟨bx, by_⟩, ⟨cx, cy⟩]
  · rw [lineE_bad h1]
    go_enter Tryz.func85, Tryz.ntmps85
    go_wp2_with (first | (go_at_call 69; refine Calls.mono (inRange3_c _ _ _ _ _ _ _ _ _ _ ?_) ?_; (focus simp); rintro e w1 ⟨rfl, hb⟩; have hc := hb.ccell; have hf := hb.frz; have hs := hb.sz; (try simp at hs); (try have hs0 := hs w.heap.size (by omega)); (try have hs1 := hs (w.heap.size + 1) (by omega)); (try have hs2 := hs (w.heap.size + 1 + 1) (by omega)); (try have hs3 := hs (w.heap.size + 1 + 1 + 1) (by omega))))
    go_ret
    exact ⟨rfl, by (repeat (first | with_reducible exact Ext.rfl' _ | with_reducible assumption | with_reducible refine Ext.al ?_ _ | with_reducible refine Ext.dr ?_ | with_reducible refine Ext.st ?_ (by simp) _ | with_reducible refine Ext.tr ?_ (by assumption)))⟩
  by_cases hx : ax = bx
  · subst hx
    by_cases hy : ay = by_
    · subst hy
      rw [lineE_one h1]
      go_enter Tryz.func85, Tryz.ntmps85
      go_wp2_with (first | (go_at_call 69; refine Calls.mono (inRange3_c _ _ _ _ _ _ _ _ _ _ ?_) ?_; (focus simp); rintro e w1 ⟨rfl, hb⟩; have hc := hb.ccell; have hf := hb.frz; have hs := hb.sz; (try simp at hs); (try have hs0 := hs w.heap.size (by omega)); (try have hs1 := hs (w.heap.size + 1) (by omega)); (try have hs2 := hs (w.heap.size + 1 + 1) (by omega)); (try have hs3 := hs (w.heap.size + 1 + 1 + 1) (by omega))))
      go_ret
      exact ⟨rfl, by (repeat (first | with_reducible exact Ext.rfl' _ | with_reducible assumption | with_reducible refine Ext.al ?_ _ | with_reducible refine Ext.dr ?_ | with_reducible refine Ext.st ?_ (by simp) _ | with_reducible refine Ext.tr ?_ (by assumption)))⟩
    · rw [lineE_ok h1 (by simpa using hy)]
      go_enter Tryz.func85, Tryz.ntmps85
      go_wp2_with (first | (go_at_call 69; refine Calls.mono (inRange3_c _ _ _ _ _ _ _ _ _ _ ?_) ?_; (focus simp); rintro e w1 ⟨rfl, hb⟩; have hc := hb.ccell; have hf := hb.frz; have hs := hb.sz; (try simp at hs); (try have hs0 := hs w.heap.size (by omega)); (try have hs1 := hs (w.heap.size + 1) (by omega)); (try have hs2 := hs (w.heap.size + 1 + 1) (by omega)); (try have hs3 := hs (w.heap.size + 1 + 1 + 1) (by omega))))
      go_ret
      exact ⟨rfl, by (repeat (first | with_reducible exact Ext.rfl' _ | with_reducible assumption | with_reducible refine Ext.al ?_ _ | with_reducible refine Ext.dr ?_ | with_reducible refine Ext.st ?_ (by simp) _ | with_reducible refine Ext.tr ?_ (by assumption)))⟩
  · rw [lineE_ok h1 (by simp [hx])]
    go_enter Tryz.func85, Tryz.ntmps85
    go_wp2_with (first | (go_at_call 69; refine Calls.mono (inRange3_c _ _ _ _ _ _ _ _ _ _ ?_) ?_; (focus simp); rintro e w1 ⟨rfl, hb⟩; have hc := hb.ccell; have hf := hb.frz; have hs := hb.sz; (try simp at hs); (try have hs0 := hs w.heap.size (by omega)); (try have hs1 := hs (w.heap.size + 1) (by omega)); (try have hs2 := hs (w.heap.size + 1 + 1) (by omega)); (try have hs3 := hs (w.heap.size + 1 + 1 + 1) (by omega))))
    go_ret
    exact ⟨rfl, by (repeat (first | with_reducible exact Ext.rfl' _ | with_reducible assumption | with_reducible refine Ext.al ?_ _ | with_reducible refine Ext.dr ?_ | with_reducible refine Ext.st ?_ (by simp) _ | with_reducible refine Ext.tr ?_ (by assumption)))⟩

def offV (a b p : Pt) : Int := if lineE a b p = 0 then wrap64 ((sizeW (crossW a b p)).tdiv (spanG a b)) else 0
def alongV (a b p : Pt) : Int := if lineE a b p = 0 then dotW a b p / spanG a b else 0

/-- The span of two different points in range. -/
theorem spanG_pos {a b : Pt} (ha : good a = true) (hb : good b = true) (hne : a ≠ b) : 0 < spanG a b ∧ spanG a b ≤ 3000000 := by
  unfold spanG
  rw [show allGood [a, b] = true by simp [allGood, ha, hb], if_pos rfl, dotW_good ha hb hb]
  obtain ⟨r0, r1, r2, r3⟩ := rootW_spec (cap := 3000000) (dotZ a b b) (by omega) (by omega)
  refine ⟨?_, r1⟩
  rcases Int.lt_or_le 0 (rootW 3000000 (dotZ a b b)) with h | h
  · exact h
  · exfalso
    have h0 : rootW 3000000 (dotZ a b b) = 0 := by omega
    rw [h0] at r3
    have hz : dotZ a b b ≤ 0 := by omega
    unfold dotZ at hz
    have s1 := sq_nonneg (b.x - a.x)
    have s2 := sq_nonneg (b.y - a.y)
    have e1 : (b.x - a.x) * (b.x - a.x) = 0 := by omega
    have e2 : (b.y - a.y) * (b.y - a.y) = 0 := by omega
    rw [Int.mul_eq_zero, or_self] at e1 e2
    apply hne
    cases a; cases b
    simp at e1 e2
    simp; omega
theorem quot_bound {n m : Int} (h0 : 0 < m) (h1 : -8000000000000 ≤ n) (h2 : n ≤ 8000000000000) : -8000000000000 ≤ n / m ∧ n / m ≤ 8000000000000 := by
  constructor
  · exact Int.le_ediv_of_mul_le h0 (by omega)
  · have := Int.ediv_lt_of_lt_mul (a := n) (b := 8000000000001) h0 (by omega)
    omega

theorem goffset_c (ax ay bx by_ cx cy : Int) (w : World) :
    Calls Tryz.prog 67 #[.agg #[.int .i64 ax, .int .i64 ay], .agg #[.int .i64 bx, .int .i64 by_], .agg #[.int .i64 cx, .int .i64 cy]] w
      fun e w' => e = .returned (.tuple #[.int .i64 (offV ⟨ax, ay⟩ ⟨bx, by_⟩ ⟨cx, cy⟩), .int .i64 (lineE ⟨ax, ay⟩ ⟨bx, by_⟩ ⟨cx, cy⟩)]) ∧ Ext w w' := by
  have hL := fun w => checkLine_c ax ay bx by_ cx cy w
  have HL := Lib.hid hL
  clear hL
  by_cases h : lineE ⟨ax, ay⟩ ⟨bx, by_⟩ ⟨cx, cy⟩ = 0
  · have hs : spanG ⟨ax, ay⟩ ⟨bx, by_⟩ ≠ 0 := by
      cases hG : allGood [⟨ax, ay⟩, ⟨bx, by_⟩, ⟨cx, cy⟩]
      · rw [lineE_bad hG] at h; omega
      · by_cases hne : (⟨ax, ay⟩ : Pt) = ⟨bx, by_⟩
        · rw [← hne] at h hG; rw [lineE_one hG] at h; omega
        · simp [allGood] at hG
          have := spanG_pos hG.1 hG.2.1 hne
          omega
    rw [h] at HL
    have HO := Lib.hid (fun w => offset_c ax ay bx by_ cx cy w hs)
    unfold offV
    rw [if_pos h, h]
    generalize wrap64 ((sizeW (crossW ⟨ax, ay⟩ ⟨bx, by_⟩ ⟨cx, cy⟩)).tdiv (spanG ⟨ax, ay⟩ ⟨bx, by_⟩)) = r at HO ⊢
    clear h hs
    go_enter Tryz.func67, Tryz.ntmps67
    go_wp2_with (first | (go_at_call 85; refine Calls.mono (HL.out _) ?_; rintro e w1 ⟨rfl, hb⟩; have hc := hb.ccell; have hf := hb.frz; have hs := hb.sz; (try simp at hs); (try have hs0 := hs w.heap.size (by omega)); (try have hs1 := hs (w.heap.size + 1) (by omega)); (try have hs2 := hs (w.heap.size + 1 + 1) (by omega)); (try have hs3 := hs (w.heap.size + 1 + 1 + 1) (by omega))) | (go_at_call 88; refine Calls.mono (HO.out _) ?_; rintro e w1 ⟨rfl, hb⟩; have hc := hb.ccell; have hf := hb.frz; have hs := hb.sz; (try simp at hs); (try have hs0 := hs w.heap.size (by omega)); (try have hs1 := hs (w.heap.size + 1) (by omega)); (try have hs2 := hs (w.heap.size + 1 + 1) (by omega)); (try have hs3 := hs (w.heap.size + 1 + 1 + 1) (by omega))))
    go_ret2
    exact ⟨rfl, by (repeat (first | with_reducible exact Ext.rfl' _ | with_reducible assumption | with_reducible refine Ext.al ?_ _ | with_reducible refine Ext.dr ?_ | with_reducible refine Ext.st ?_ (by simp) _ | with_reducible refine Ext.tr ?_ (by assumption)))⟩
  · unfold offV
    rw [if_neg h]
    generalize lineE ⟨ax, ay⟩ ⟨bx, by_⟩ ⟨cx, cy⟩ = r at HL h ⊢
    have h' : (r == 0) = false := by simp [h]
    go_enter Tryz.func67, Tryz.ntmps67
    go_wp2_with (first | (go_at_call 85; refine Calls.mono (HL.out _) ?_; rintro e w1 ⟨rfl, hb⟩; have hc := hb.ccell; have hf := hb.frz; have hs := hb.sz; (try simp at hs); (try have hs0 := hs w.heap.size (by omega)); (try have hs1 := hs (w.heap.size + 1) (by omega)); (try have hs2 := hs (w.heap.size + 1 + 1) (by omega)); (try have hs3 := hs (w.heap.size + 1 + 1 + 1) (by omega))))
    go_ret2
    exact ⟨rfl, by (repeat (first | with_reducible exact Ext.rfl' _ | with_reducible assumption | with_reducible refine Ext.al ?_ _ | with_reducible refine Ext.dr ?_ | with_reducible refine Ext.st ?_ (by simp) _ | with_reducible refine Ext.tr ?_ (by assumption)))⟩

theorem galong_c (ax ay bx by_ cx cy : Int) (w : World) :
    Calls Tryz.prog 66 #[.agg #[.int .i64 ax, .int .i64 ay], .agg #[.int .i64 bx, .int .i64 by_], .agg #[.int .i64 cx, .int .i64 cy]] w
      fun e w' => e = .returned (.tuple #[.int .i64 (alongV ⟨ax, ay⟩ ⟨bx, by_⟩ ⟨cx, cy⟩), .int .i64 (lineE ⟨ax, ay⟩ ⟨bx, by_⟩ ⟨cx, cy⟩)]) ∧ Ext w w' := by
  have hL := fun w => checkLine_c ax ay bx by_ cx cy w
  have HL := Lib.hid hL
  clear hL
  by_cases h : lineE ⟨ax, ay⟩ ⟨bx, by_⟩ ⟨cx, cy⟩ = 0
  · have hs : 0 < spanG ⟨ax, ay⟩ ⟨bx, by_⟩ ∧ spanG ⟨ax, ay⟩ ⟨bx, by_⟩ ≤ 3000000 ∧ -8000000000000 ≤ dotW ⟨ax, ay⟩ ⟨bx, by_⟩ ⟨cx, cy⟩ ∧ dotW ⟨ax, ay⟩ ⟨bx, by_⟩ ⟨cx, cy⟩ ≤ 8000000000000 := by
      cases hG : allGood [⟨ax, ay⟩, ⟨bx, by_⟩, ⟨cx, cy⟩]
      · rw [lineE_bad hG] at h; omega
      · by_cases hne : (⟨ax, ay⟩ : Pt) = ⟨bx, by_⟩
        · rw [← hne] at h hG; rw [lineE_one hG] at h; omega
        · simp [allGood] at hG
          obtain ⟨g1, g2, g3⟩ := hG
          have := spanG_pos g1 g2 hne
          rw [dotW_good g1 g2 g3]
          exact ⟨this.1, this.2, dotZ_bound g1 g2 g3⟩
    obtain ⟨s1, s2, s3, s4⟩ := hs
    obtain ⟨q1, q2⟩ := quot_bound s1 s3 s4
    rw [h] at HL
    have HD := Lib.hid (fun w => dot_c ax ay bx by_ cx cy w)
    have HS := Lib.hid (fun w => gspan_c ax ay bx by_ w)
    unfold alongV
    rw [if_pos h, h]
    generalize dotW ⟨ax, ay⟩ ⟨bx, by_⟩ ⟨cx, cy⟩ = n at *
    generalize spanG ⟨ax, ay⟩ ⟨bx, by_⟩ = m at *
    have HV := Lib.hid (fun w => geoDown_c n m w s1 (by omega) (by omega) (by omega))
    clear h s1 s2 s3 s4 q1 q2
    generalize n / m = r at *
    go_enter Tryz.func66, Tryz.ntmps66
    go_wp2_with (first | (go_at_call 85; refine Calls.mono (HL.out _) ?_; rintro e w1 ⟨rfl, hb⟩; have hc := hb.ccell; have hf := hb.frz; have hs := hb.sz; (try simp at hs); (try have hs0 := hs w.heap.size (by omega)); (try have hs1 := hs (w.heap.size + 1) (by omega)); (try have hs2 := hs (w.heap.size + 1 + 1) (by omega)); (try have hs3 := hs (w.heap.size + 1 + 1 + 1) (by omega))))
    refine region_grow (by kernel_rfl) (by kernel_rfl) ?_
    repeat (first | go_big_quiet_step (first | (go_at_call 87; exact callsGrow (HD.out _)) | (go_at_call 68; exact callsGrow (HS.out _)) | (go_at_call 86; exact callsStay (HV.out _)) | fail) | quiet_step (first | (go_at_call 87; exact callsGrow (HD.out _)) | (go_at_call 68; exact callsGrow (HS.out _)) | (go_at_call 86; exact callsStay (HV.out _)) | fail))
    refine wpQuiet_nil ?_
    intro w1 hb
    have hc := hb.ccell
    have hf := hb.frz
    have hs := hb.sz
    (try simp at hs); (try have hs0 := hs w.heap.size (by omega)); (try have hs1 := hs (w.heap.size + 1) (by omega)); (try have hs2 := hs (w.heap.size + 1 + 1) (by omega)); (try have hs3 := hs (w.heap.size + 1 + 1 + 1) (by omega))
    (try simp only [IntWalk.i64_left])
    go_wp2
    go_ret2
    exact ⟨rfl, by (repeat (first | with_reducible exact Ext.rfl' _ | with_reducible assumption | with_reducible refine Ext.al ?_ _ | with_reducible refine Ext.dr ?_ | with_reducible refine Ext.st ?_ (by simp) _ | with_reducible refine Ext.tr ?_ (by assumption)))⟩
  · unfold alongV
    rw [if_neg h]
    generalize lineE ⟨ax, ay⟩ ⟨bx, by_⟩ ⟨cx, cy⟩ = r at HL h ⊢
    have h' : (r == 0) = false := by simp [h]
    go_enter Tryz.func66, Tryz.ntmps66
    go_wp2_with (first | (go_at_call 85; refine Calls.mono (HL.out _) ?_; rintro e w1 ⟨rfl, hb⟩; have hc := hb.ccell; have hf := hb.frz; have hs := hb.sz; (try simp at hs); (try have hs0 := hs w.heap.size (by omega)); (try have hs1 := hs (w.heap.size + 1) (by omega)); (try have hs2 := hs (w.heap.size + 1 + 1) (by omega)); (try have hs3 := hs (w.heap.size + 1 + 1 + 1) (by omega))))
    go_ret2
    exact ⟨rfl, by (repeat (first | with_reducible exact Ext.rfl' _ | with_reducible assumption | with_reducible refine Ext.al ?_ _ | with_reducible refine Ext.dr ?_ | with_reducible refine Ext.st ?_ (by simp) _ | with_reducible refine Ext.tr ?_ (by assumption)))⟩

theorem roffset_c (ax ay bx by_ cx cy : Int) (w : World) (hs : spanR ⟨ax, ay⟩ ⟨bx, by_⟩ ≠ 0) :
    Calls Tryz.prog 52 #[.agg #[.int .i64 ax, .int .i64 ay], .agg #[.int .i64 bx, .int .i64 by_], .agg #[.int .i64 cx, .int .i64 cy]] w
      fun e w' => e = .returned (.int .i64 (wrap64 ((absW (crossW ⟨ax, ay⟩ ⟨bx, by_⟩ ⟨cx, cy⟩)).tdiv (spanR ⟨ax, ay⟩ ⟨bx, by_⟩)))) ∧ Ext w w' := by
  go_enter Tryz.func52, Tryz.ntmps52
  go_wp2_with fail
  refine region_grow (by kernel_rfl) (by kernel_rfl) ?_
  repeat (first | go_big_quiet_step (first | (go_at_call 71; exact callsGrow (rcross_c _ _ _ _ _ _ _)) | (go_at_call 51; exact callsGrow (rspan_c _ _ _ _ _)) | (go_at_call 75; exact callsStay (q_abs_c _ _)) | fail) | quiet_step (first | (go_at_call 71; exact callsGrow (rcross_c _ _ _ _ _ _ _)) | (go_at_call 51; exact callsGrow (rspan_c _ _ _ _ _)) | (go_at_call 75; exact callsStay (q_abs_c _ _)) | fail))
  refine wpQuiet_nil ?_
  intro w1 hb
  have hc := hb.ccell
  have hf := hb.frz
  have hs := hb.sz
  (try simp at hs); (try have hs0 := hs w.heap.size (by omega)); (try have hs1 := hs (w.heap.size + 1) (by omega)); (try have hs2 := hs (w.heap.size + 1 + 1) (by omega)); (try have hs3 := hs (w.heap.size + 1 + 1 + 1) (by omega))
  (try simp only [IntWalk.i64_left])
  go_wp2
  go_ret
  exact ⟨rfl, by (repeat (first | with_reducible exact Ext.rfl' _ | with_reducible assumption | with_reducible refine Ext.al ?_ _ | with_reducible refine Ext.dr ?_ | with_reducible refine Ext.st ?_ (by simp) _ | with_reducible refine Ext.tr ?_ (by assumption)))⟩

theorem ralong_c (ax ay bx by_ cx cy : Int) (w : World) (h0 : 0 < spanR ⟨ax, ay⟩ ⟨bx, by_⟩) (h1 : spanR ⟨ax, ay⟩ ⟨bx, by_⟩ ≤ 4000000000000000000) (h2 : -4000000000000000000 ≤ dotW ⟨ax, ay⟩ ⟨bx, by_⟩ ⟨cx, cy⟩) (h3 : dotW ⟨ax, ay⟩ ⟨bx, by_⟩ ⟨cx, cy⟩ ≤ 4000000000000000000) :
    Calls Tryz.prog 50 #[.agg #[.int .i64 ax, .int .i64 ay], .agg #[.int .i64 bx, .int .i64 by_], .agg #[.int .i64 cx, .int .i64 cy]] w
      fun e w' => e = .returned (.int .i64 (dotW ⟨ax, ay⟩ ⟨bx, by_⟩ ⟨cx, cy⟩ / spanR ⟨ax, ay⟩ ⟨bx, by_⟩)) ∧ Ext w w' := by
  have HD := Lib.hid (fun w => rdot_c ax ay bx by_ cx cy w)
  have HS := Lib.hid (fun w => rspan_c ax ay bx by_ w)
  generalize dotW ⟨ax, ay⟩ ⟨bx, by_⟩ ⟨cx, cy⟩ = n at *
  generalize spanR ⟨ax, ay⟩ ⟨bx, by_⟩ = m at *
  have HV := Lib.hid (fun w => floor_c n m w h0 h1 h2 h3)
  generalize n / m = r at *
  clear h0 h1 h2 h3
  go_enter Tryz.func50, Tryz.ntmps50
  go_wp2_with fail
  refine region_grow (by kernel_rfl) (by kernel_rfl) ?_
  repeat (first | go_big_quiet_step (first | (go_at_call 73; exact callsGrow (HD.out _)) | (go_at_call 51; exact callsGrow (HS.out _)) | (go_at_call 72; exact callsStay (HV.out _)) | fail) | quiet_step (first | (go_at_call 73; exact callsGrow (HD.out _)) | (go_at_call 51; exact callsGrow (HS.out _)) | (go_at_call 72; exact callsStay (HV.out _)) | fail))
  refine wpQuiet_nil ?_
  intro w1 hb
  have hc := hb.ccell
  have hf := hb.frz
  have hs := hb.sz
  (try simp at hs); (try have hs0 := hs w.heap.size (by omega)); (try have hs1 := hs (w.heap.size + 1) (by omega)); (try have hs2 := hs (w.heap.size + 1 + 1) (by omega)); (try have hs3 := hs (w.heap.size + 1 + 1 + 1) (by omega))
  (try simp only [IntWalk.i64_left])
  go_wp2
  go_ret
  exact ⟨rfl, by (repeat (first | with_reducible exact Ext.rfl' _ | with_reducible assumption | with_reducible refine Ext.al ?_ _ | with_reducible refine Ext.dr ?_ | with_reducible refine Ext.st ?_ (by simp) _ | with_reducible refine Ext.tr ?_ (by assumption)))⟩
theorem off_same (a b p : Pt) (ha : good a = true) (hb : good b = true) (hp : good p = true) : wrap64 ((absW (crossW a b p)).tdiv (spanR a b)) = wrap64 ((sizeW (crossW a b p)).tdiv (spanG a b)) := by
  rw [spanG_eq a b ha hb, crossW_good ha hb hp]
  have h := crossZ_bound ha hb hp
  have e : absW (crossZ a b p) = sizeW (crossZ a b p) := by
    unfold absW sizeW
    rw [wrap64_in _ (by omega)]
    split <;> omega
  rw [e]
theorem good_of_c (x y : Int) (b : Bool) (h : good ⟨x, y⟩ = b) (w : World) :
    Calls Tryz.prog 29 #[.agg #[.int .i64 x, .int .i64 y]] w fun e w' => e = .returned (.bool b) ∧ Ext w w' := by
  rw [← h]; exact rgood_c x y w
end Go.Proofs.YtgbkjioajmnjbaaGreat

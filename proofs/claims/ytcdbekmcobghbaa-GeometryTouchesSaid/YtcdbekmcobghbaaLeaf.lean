/- Contracts of the functions that only compute with numbers. -/
import Derived.Test.YtcdbekmcobghbaaBase
import Derived.Test.YtcdbekmcobghbaaPure
namespace Go.Proofs.Ytcdbekmcobghbaa
open Go Go.RowKit

theorem within3_c (n lo hi : Int) (w : World) :
    Calls Try.prog 66 #[.int .i64 n, .int .i64 lo, .int .i64 hi] w fun e w' => e = .returned (.bool (withinB n lo hi)) ∧ w = w' := by
  unfold withinB
  go_enter Try.func66, Try.ntmps66
  by_cases h : lo ≤ n
  · go_wp2; go_ret; exact ⟨ret_bool (by first | (simp [h]; done) | (simp [h]; omega)), rfl⟩
  · go_wp2; go_ret; exact ⟨ret_bool (by first | (simp; done) | (simp; omega)), rfl⟩

theorem within2_c (n m : Int) (w : World) (h0 : 0 ≤ m) (h1 : m ≤ 9000000000000000000) :
    Calls Try.prog 108 #[.int .i64 n, .int .i64 m] w fun e w' => e = .returned (.bool (withinB n (-m) m)) ∧ w = w' := by
  unfold withinB
  go_enter Try.func108, Try.ntmps108
  by_cases h : -m ≤ n
  · go_wp2; go_ret; exact ⟨ret_bool (by first | (simp [h]; done) | (simp [h]; omega)), rfl⟩
  · go_wp2; go_ret; exact ⟨ret_bool (by first | (simp; done) | (simp; omega)), rfl⟩

theorem abs_c (n : Int) (w : World) :
    Calls Try.prog 71 #[.int .i64 n] w fun e w' => e = .returned (.int .i64 (absW n)) ∧ w = w' := by
  unfold absW
  go_enter Try.func71, Try.ntmps71
  by_cases h : n < 0
  · go_wp2; go_ret; exact ⟨ret_int (by simp), rfl⟩
  · go_wp2; go_ret; exact ⟨ret_int (by simp), rfl⟩

theorem size_c (n : Int) (w : World) :
    Calls Try.prog 90 #[.int .i64 n] w fun e w' => e = .returned (.int .i64 (sizeW n)) ∧ w = w' := by
  unfold sizeW
  go_enter Try.func90, Try.ntmps90
  go_wp2
  all_goals (go_ret; exact ⟨ret_int (by omega), rfl⟩)

theorem isNaN_c (n : Int) (w : World) :
    Calls Try.prog 129 #[.int .i64 n] w fun e w' => e = .returned (.bool false) ∧ w = w' := by
  go_enter Try.func129, Try.ntmps129
  go_wp2; go_ret; exact ⟨ret_bool (by simp), rfl⟩

theorem cmp_c (x y : Int) (w : World) :
    Calls Try.prog 111 #[.int .i64 x, .int .i64 y] w fun e w' => e = .returned (.int .i64 (cmpI x y)) ∧ w = w' := by
  unfold cmpI
  go_enter Try.func111, Try.ntmps111
  by_cases h : x < y
  · go_wp2_with (first | (go_at_call 129; refine (isNaN_c _ _).mono ?_; rintro e w' ⟨rfl, rfl⟩))
    go_ret; exact ⟨ret_int (by simp), rfl⟩
  · by_cases h2 : y < x
    · go_wp2_with (first | (go_at_call 129; refine (isNaN_c _ _).mono ?_; rintro e w' ⟨rfl, rfl⟩))
      go_ret; exact ⟨ret_int (by simp), rfl⟩
    · go_wp2_with (first | (go_at_call 129; refine (isNaN_c _ _).mono ?_; rintro e w' ⟨rfl, rfl⟩))
      go_ret; exact ⟨ret_int (by simp), rfl⟩

theorem sign_c (n : Int) (w : World) :
    Calls Try.prog 75 #[.int .i64 n] w fun e w' => e = .returned (.int .i64 (cmpI n 0)) ∧ w = w' := by
  go_enter Try.func75, Try.ntmps75
  go_wp2_with (first | (go_at_call 111; refine (cmp_c _ _ _).mono ?_; rintro e w' ⟨rfl, rfl⟩))
  go_ret; exact ⟨rfl, rfl⟩

theorem rsign_c (n : Int) (w : World) :
    Calls Try.prog 79 #[.int .i64 n] w fun e w' => e = .returned (.int .i64 (cmpI n 0)) ∧ w = w' := by
  unfold cmpI
  go_enter Try.func79, Try.ntmps79
  by_cases h : n < 0
  · go_wp2; go_ret; exact ⟨ret_int (by simp), rfl⟩
  · by_cases h2 : 0 < n
    · go_wp2; go_ret; exact ⟨ret_int (by simp), rfl⟩
    · go_wp2; go_ret; exact ⟨ret_int (by simp), rfl⟩

theorem mod_c (n m : Int) (w : World) (h0 : 0 < m) (h1 : m ≤ 4000000000000000000) :
    Calls Try.prog 70 #[.int .i64 n, .int .i64 m] w fun e w' => e = .returned (.int .i64 (n % m)) ∧ w = w' := by
  obtain ⟨t1, t2, t3, t4⟩ := tmod_form n m h0
  have H := Lib.hid (And.intro t1 t2); clear t1 t2
  go_enter Try.func70, Try.ntmps70
  go_wp2
  · go_ret; exact ⟨ret_int (by rw [(H.out.1 (by assumption)).1]), rfl⟩
  · go_ret; exact ⟨ret_int (by rw [(H.out.2 (by assumption)).1]), rfl⟩

theorem divideDown_c (n m : Int) (w : World) (h0 : 0 < m) (h1 : m ≤ 4000000000000000000) (h2 : -4000000000000000000 ≤ n / m) (h3 : n / m ≤ 4000000000000000000) :
    Calls Try.prog 82 #[.int .i64 n, .int .i64 m] w fun e w' => e = .returned (.int .i64 (n / m)) ∧ w = w' := by
  obtain ⟨t1, t2, t3, t4⟩ := tmod_form n m h0
  have H := Lib.hid (And.intro t1 t2); clear t1 t2
  have H2 := Lib.hid (And.intro h2 h3); clear h2 h3
  go_enter Try.func82, Try.ntmps82
  go_wp2
  · go_ret; have h := H2.out; rw [(H.out.1 (by assumption)).2] at h; exact ⟨ret_int (by rw [(H.out.1 (by assumption)).2]; unfold wrap64; omega), rfl⟩
  · go_ret; have h := H2.out; rw [(H.out.2 (by assumption)).2] at h; exact ⟨ret_int (by rw [(H.out.2 (by assumption)).2]; unfold wrap64; omega), rfl⟩

theorem floor_c (n m : Int) (w : World) (h0 : 0 < m) (h1 : m ≤ 4000000000000000000) (h2 : -4000000000000000000 ≤ n) (h3 : n ≤ 4000000000000000000) :
    Calls Try.prog 84 #[.int .i64 n, .int .i64 m] w fun e w' => e = .returned (.int .i64 (n / m)) ∧ w = w' := by
  have p1 := Int.emod_nonneg n (show m ≠ 0 by omega)
  have p2 := Int.emod_lt_of_pos n h0
  have e2 := Lib.hid (Int.mul_ediv_add_emod n m)
  go_enter Try.func84, Try.ntmps84
  go_wp2_with (first | (go_at_call 70; refine (mod_c _ _ _ h0 h1).mono ?_; rintro e w' ⟨rfl, rfl⟩))
  go_ret
  refine ⟨ret_int ?_, rfl⟩
  have e := e2.out
  show (n - n % m).tdiv m = n / m
  rw [show n - n % m = m * (n / m) by omega]
  exact Int.mul_tdiv_cancel_left _ (by omega)

theorem rootUp_c (n : Int) (w : World) :
    Calls Try.prog 77 #[.int .i64 n] w fun e w' => e = .returned (.int .i64 (rootW 3000000 n)) ∧ w = w' := by
  go_enter Try.func77, Try.ntmps77
  go_wp2
  go_loop [3, 4, 5] (fun l h _ => ∃ (low high : Int), l = .int .i64 low ∧ h = .int .i64 high ∧ 0 ≤ low ∧ low ≤ high ∧ high ≤ 3000000 ∧ Hid ((low = 0 ∨ (low - 1) * (low - 1) < n) ∧ (high = 3000000 ∨ n ≤ high * high))) (fun l h _ => (intOf h - intOf l).toNat)
  case atStart => exact ⟨0, 3000000, rfl, rfl, by omega, by omega, by omega, .inl rfl, .inl rfl⟩
  case round =>
    obtain ⟨low, high, rfl, rfl, h0, h1, h2, h3⟩ := hrel
    by_cases hlt : low < high
    · have hsq := Lib.hid (sq_cap (m := (low + high) / 2) (by omega) (by omega))
      go_wp2
      · refine ⟨⟨_, _, rfl, rfl, by omega, by omega, by omega, .inr ?_, h3.out.2⟩, by simp [intOf]; omega⟩
        rw [show (low + high) / 2 + 1 - 1 = (low + high) / 2 by omega, ← hsq.out]; assumption
      · refine ⟨⟨_, _, rfl, rfl, by omega, by omega, by omega, h3.out.1, .inr ?_⟩, by simp [intOf]; omega⟩
        rw [← hsq.out]; assumption
    · go_wp2
      go_ret
      refine ⟨ret_int (rootW_eq (by omega) (by omega) ⟨h0, by omega, h3.out.1, ?_⟩), rfl⟩
      obtain rfl : high = low := by omega
      exact h3.out.2
end Go.Proofs.Ytcdbekmcobghbaa

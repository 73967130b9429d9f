/- Contracts of the functions that only compute with numbers. -/
import Derived.Test.YtgnakeemcccfjaaGreatBase
import Derived.Test.YtgnakeemcccfjaaGreatPure
namespace Go.Proofs.YtgnakeemcccfjaaGreat
open Go Go.RowKit

theorem within3_c (n lo hi : Int) (w : World) :
    Calls Tryz.prog 37 #[.int .i64 n, .int .i64 lo, .int .i64 hi] w fun e w' => e = .returned (.bool (withinB n lo hi)) ∧ w = w' := by
  unfold withinB
  go_enter Tryz.func37, Tryz.ntmps37
  by_cases h : lo ≤ n
  · go_wp2; go_ret; exact ⟨ret_bool (by first | (simp [h]; done) | (simp [h]; omega)), rfl⟩
  · go_wp2; go_ret; exact ⟨ret_bool (by first | (simp; done) | (simp; omega)), rfl⟩

theorem within2_c (n m : Int) (w : World) (h0 : 0 ≤ m) (h1 : m ≤ 9000000000000000000) :
    Calls Tryz.prog 103 #[.int .i64 n, .int .i64 m] w fun e w' => e = .returned (.bool (withinB n (-m) m)) ∧ w = w' := by
  unfold withinB
  go_enter Tryz.func103, Tryz.ntmps103
  by_cases h : -m ≤ n
  · go_wp2; go_ret; exact ⟨ret_bool (by first | (simp [h]; done) | (simp [h]; omega)), rfl⟩
  · go_wp2; go_ret; exact ⟨ret_bool (by first | (simp; done) | (simp; omega)), rfl⟩

theorem q_abs_c (n : Int) (w : World) :
    Calls Tryz.prog 58 #[.int .i64 n] w fun e w' => e = .returned (.int .i64 (absW n)) ∧ w = w' := by
  unfold absW
  go_enter Tryz.func58, Tryz.ntmps58
  by_cases h : n < 0
  · go_wp2; go_ret; exact ⟨ret_int (by simp), rfl⟩
  · go_wp2; go_ret; exact ⟨ret_int (by simp), rfl⟩

theorem isNaN_c (n : Int) (w : World) :
    Calls Tryz.prog 153 #[.int .i64 n] w fun e w' => e = .returned (.bool false) ∧ w = w' := by
  go_enter Tryz.func153, Tryz.ntmps153
  go_wp2; go_ret; exact ⟨ret_bool (by simp), rfl⟩

theorem cmp_c (x y : Int) (w : World) :
    Calls Tryz.prog 146 #[.int .i64 x, .int .i64 y] w fun e w' => e = .returned (.int .i64 (cmpI x y)) ∧ w = w' := by
  unfold cmpI
  go_enter Tryz.func146, Tryz.ntmps146
  by_cases h : x < y
  · go_wp2_with (first | (go_at_call 153; refine (isNaN_c _ _).mono ?_; rintro e w' ⟨rfl, rfl⟩))
    go_ret; exact ⟨ret_int (by simp), rfl⟩
  · by_cases h2 : y < x
    · go_wp2_with (first | (go_at_call 153; refine (isNaN_c _ _).mono ?_; rintro e w' ⟨rfl, rfl⟩))
      go_ret; exact ⟨ret_int (by simp), rfl⟩
    · go_wp2_with (first | (go_at_call 153; refine (isNaN_c _ _).mono ?_; rintro e w' ⟨rfl, rfl⟩))
      go_ret; exact ⟨ret_int (by simp), rfl⟩

theorem sign_c (n : Int) (w : World) :
    Calls Tryz.prog 130 #[.int .i64 n] w fun e w' => e = .returned (.int .i64 (cmpI n 0)) ∧ w = w' := by
  go_enter Tryz.func130, Tryz.ntmps130
  go_wp2_with (first | (go_at_call 146; refine (cmp_c _ _ _).mono ?_; rintro e w' ⟨rfl, rfl⟩))
  go_ret; exact ⟨rfl, rfl⟩

theorem rsign_c (n : Int) (w : World) :
    Calls Tryz.prog 81 #[.int .i64 n] w fun e w' => e = .returned (.int .i64 (cmpI n 0)) ∧ w = w' := by
  unfold cmpI
  go_enter Tryz.func81, Tryz.ntmps81
  by_cases h : n < 0
  · go_wp2; go_ret; exact ⟨ret_int (by simp), rfl⟩
  · by_cases h2 : 0 < n
    · go_wp2; go_ret; exact ⟨ret_int (by simp), rfl⟩
    · go_wp2; go_ret; exact ⟨ret_int (by simp), rfl⟩

end Go.Proofs.YtgnakeemcccfjaaGreat

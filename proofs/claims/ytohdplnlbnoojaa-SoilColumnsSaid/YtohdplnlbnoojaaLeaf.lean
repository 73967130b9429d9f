/- Contracts of the functions that only compute with numbers. -/
import Derived.Test.YtohdplnlbnoojaaBase
import Derived.Test.YtohdplnlbnoojaaPure
namespace Go.Proofs.Ytohdplnlbnoojaa
open Go Go.RowKit

theorem within3_c (n lo hi : Int) (w : World) :
    Calls Try.prog 56 #[.int .i64 n, .int .i64 lo, .int .i64 hi] w fun e w' => e = .returned (.bool (withinB n lo hi)) ∧ w = w' := by
  unfold withinB
  go_enter Try.func56, Try.ntmps56
  by_cases h : lo ≤ n
  · go_wp2; go_ret; exact ⟨ret_bool (by first | (simp [h]; done) | (simp [h]; omega)), rfl⟩
  · go_wp2; go_ret; exact ⟨ret_bool (by first | (simp; done) | (simp; omega)), rfl⟩

theorem within2_c (n m : Int) (w : World) (h0 : 0 ≤ m) (h1 : m ≤ 9000000000000000000) :
    Calls Try.prog 168 #[.int .i64 n, .int .i64 m] w fun e w' => e = .returned (.bool (withinB n (-m) m)) ∧ w = w' := by
  unfold withinB
  go_enter Try.func168, Try.ntmps168
  by_cases h : -m ≤ n
  · go_wp2; go_ret; exact ⟨ret_bool (by first | (simp [h]; done) | (simp [h]; omega)), rfl⟩
  · go_wp2; go_ret; exact ⟨ret_bool (by first | (simp; done) | (simp; omega)), rfl⟩

theorem q_abs_c (n : Int) (w : World) :
    Calls Try.prog 85 #[.int .i64 n] w fun e w' => e = .returned (.int .i64 (absW n)) ∧ w = w' := by
  unfold absW
  go_enter Try.func85, Try.ntmps85
  by_cases h : n < 0
  · go_wp2; go_ret; exact ⟨ret_int (by simp), rfl⟩
  · go_wp2; go_ret; exact ⟨ret_int (by simp), rfl⟩

theorem isNaN_c (n : Int) (w : World) :
    Calls Try.prog 164 #[.int .i64 n] w fun e w' => e = .returned (.bool false) ∧ w = w' := by
  go_enter Try.func164, Try.ntmps164
  go_wp2; go_ret; exact ⟨ret_bool (by simp), rfl⟩

theorem q_mod_c (n m : Int) (w : World) (h0 : 0 < m) (h1 : m ≤ 4000000000000000000) :
    Calls Try.prog 29 #[.int .i64 n, .int .i64 m] w fun e w' => e = .returned (.int .i64 (n % m)) ∧ w = w' := by
  obtain ⟨t1, t2, t3, t4⟩ := tmod_form n m h0
  have H := Lib.hid (And.intro t1 t2); clear t1 t2
  go_enter Try.func29, Try.ntmps29
  go_wp2
  · go_ret; exact ⟨ret_int (by rw [(H.out.1 (by assumption)).1]), rfl⟩
  · go_ret; exact ⟨ret_int (by rw [(H.out.2 (by assumption)).1]), rfl⟩

end Go.Proofs.Ytohdplnlbnoojaa

/- Contracts of the functions of package bed, of its reference and of its statements that only compute, and of the tests of a grid. -/
import Derived.Test.YtgnakeemcccfjaaBase
import Derived.Test.YtgnakeemcccfjaaBpure
namespace Go.Proofs.Ytgnakeemcccfjaa
open Go Go.RowKit Go.IntWalk

def encZ (n : Int) : List Value := [.int .i64 n]
theorem encZ_len (n : Int) : (encZ n).length = 1 := rfl
theorem Row.p1 {w : World} {A : Option Addr} {l : List Int} (h : Row 1 encZ w A l) {k : Nat} (hk : k < l.length) :
    ∃ b off, A = some ⟨b, off, none⟩ ∧ b < w.heap.size ∧ ∀ w', Ext w w' → w'.cell? ⟨b, off + k, none⟩ = some (.int .i64 l[k]) := by
  obtain ⟨b, off, h1, h2, h3⟩ := h.addr (by omega)
  exact ⟨b, off, h1, h2, fun w' hw => by have := h3 w' hw k hk 0 _ rfl; simpa using this⟩

theorem bwithin_c (n lo hi : Int) (w : World) :
    Calls Try.prog 73 #[.int .i64 n, .int .i64 lo, .int .i64 hi] w fun e w' => e = .returned (.bool (withinB n lo hi)) ∧ w = w' := by
  unfold withinB
  go_enter Try.func73, Try.ntmps73
  by_cases h : lo ≤ n
  · go_wp2; go_ret; exact ⟨ret_bool (by first | (simp [h]; done) | (simp [h]; omega)), rfl⟩
  · go_wp2; go_ret; exact ⟨ret_bool (by first | (simp; done) | (simp; omega)), rfl⟩
theorem within_c (n lo hi : Int) (w : World) :
    Calls Try.prog 71 #[.int .i64 n, .int .i64 lo, .int .i64 hi] w fun e w' => e = .returned (.bool (withinB n lo hi)) ∧ w = w' := by
  unfold withinB
  go_enter Try.func71, Try.ntmps71
  by_cases h : lo ≤ n
  · go_wp2; go_ret; exact ⟨ret_bool (by first | (simp [h]; done) | (simp [h]; omega)), rfl⟩
  · go_wp2; go_ret; exact ⟨ret_bool (by first | (simp; done) | (simp; omega)), rfl⟩
theorem isLevel_c (n : Int) (w : World) :
    Calls Try.prog 74 #[.int .i64 n] w fun e w' => e = .returned (.bool (lvB n)) ∧ w = w' := by
  unfold lvB
  go_enter Try.func74, Try.ntmps74
  go_wp2_with (first | (go_at_call 73; refine Calls.mono (bwithin_c _ _ _ _) ?_; rintro e w' ⟨rfl, rfl⟩))
  go_ret; exact ⟨rfl, rfl⟩
theorem leveled_c (n : Int) (w : World) :
    Calls Try.prog 52 #[.int .i64 n] w fun e w' => e = .returned (.bool (lvB n)) ∧ w = w' := by
  unfold lvB
  go_enter Try.func52, Try.ntmps52
  go_wp2_with (first | (go_at_call 71; refine Calls.mono (within_c _ _ _ _) ?_; rintro e w' ⟨rfl, rfl⟩))
  go_ret; exact ⟨rfl, rfl⟩
theorem checkLevel_c (n : Int) (w : World) :
    Calls Try.prog 93 #[.int .i64 n] w fun e w' => e = .returned (.int .i64 (if lvB n = false then 2 else 0)) ∧ w = w' := by
  have H := Lib.hid (fun w => isLevel_c n w)
  cases h : lvB n
  all_goals
    rw [h] at H
    clear h
    go_enter Try.func93, Try.ntmps93
    go_wp2_with (first | (go_at_call 74; refine Calls.mono (H.out _) ?_; rintro e w' ⟨rfl, rfl⟩))
    go_ret; exact ⟨rfl, rfl⟩
theorem isPlace_c (x y : Int) (w : World) :
    Calls Try.prog 72 #[.int .i64 x, .int .i64 y] w fun e w' => e = .returned (.bool (plB x y)) ∧ w = w' := by
  unfold plB
  have H := Lib.hid (fun w => bwithin_c x (-1000000) 1000000 w)
  cases h : withinB x (-1000000) 1000000
  all_goals
    rw [h] at H
    clear h
    go_enter Try.func72, Try.ntmps72
    go_wp2_with (first | (go_at_call 73; (first | (with_reducible refine Calls.mono (H.out _) ?_) | (with_reducible refine Calls.mono (bwithin_c _ _ _ _) ?_)); rintro e w' ⟨rfl, rfl⟩))
    go_ret; exact ⟨ret_bool (by simp), rfl⟩
theorem abs_c (n : Int) (w : World) (h0 : -9000000000000000000 ≤ n) (h1 : n ≤ 9000000000000000000) :
    Calls Try.prog 123 #[.int .i64 n] w fun e w' => e = .returned (.int .i64 n.natAbs) ∧ w = w' := by
  go_enter Try.func123, Try.ntmps123
  go_wp2
  · go_ret; exact ⟨ret_int (by omega), rfl⟩
  · go_ret; exact ⟨ret_int (by omega), rfl⟩
theorem mod_c (n m : Int) (w : World) (h0 : 0 < m) (h1 : m ≤ 4000000000000000000) :
    Calls Try.prog 125 #[.int .i64 n, .int .i64 m] w fun e w' => e = .returned (.int .i64 (n % m)) ∧ w = w' := by
  obtain ⟨t1, t2, t3, t4⟩ := tmod_form n m h0
  have H := Lib.hid (And.intro t1 t2); clear t1 t2
  go_enter Try.func125, Try.ntmps125
  go_wp2
  · go_ret; exact ⟨ret_int (by first | (rw [(H.out.1 (by assumption)).1]; done) | (rw [(H.out.1 (by assumption)).1]; unfold wrap64; omega)), rfl⟩
  · go_ret; exact ⟨ret_int (by rw [(H.out.2 (by omega)).1]), rfl⟩
theorem floor_c (n m : Int) (w : World) (h0 : 0 < m) (h1 : m ≤ 4000000000000000000) (h2 : -4000000000000000000 ≤ n) (h3 : n ≤ 4000000000000000000) :
    Calls Try.prog 83 #[.int .i64 n, .int .i64 m] w fun e w' => e = .returned (.int .i64 (n / m)) ∧ w = w' := by
  have HM := Lib.hid (fun w => mod_c n m w h0 h1)
  have e1 := Int.mul_ediv_add_emod n m
  have e2 := Int.emod_nonneg n (show m ≠ 0 by omega)
  have e3 := Int.emod_lt_of_pos n h0
  have e4 : (n - n % m).tdiv m = n / m := by
    rw [show n - n % m = m * (n / m) by omega, Int.mul_tdiv_cancel_left _ (by omega)]
  generalize n % m = r at *
  generalize n / m = q at *
  have H4 := Lib.hid e4
  clear e1 e4
  go_enter Try.func83, Try.ntmps83
  go_wp2_with (first | (go_at_call 125; refine Calls.mono (HM.out _) ?_; rintro e w' ⟨rfl, rfl⟩))
  go_ret
  exact ⟨ret_int (by rw [← H4.out]), rfl⟩
theorem divideDown_c (n m : Int) (w : World) (h0 : 0 < m) (h1 : m ≤ 4000000000000000000) (h2 : -4000000000000000000 ≤ n) (h3 : n ≤ 4000000000000000000) :
    Calls Try.prog 124 #[.int .i64 n, .int .i64 m] w fun e w' => e = .returned (.int .i64 (n / m)) ∧ w = w' := by
  obtain ⟨t1, t2, t3, t4⟩ := tmod_form n m h0
  have q1 : -4000000000000000000 ≤ n / m := by
    rw [Int.le_ediv_iff_mul_le h0]
    have : (4000000000000000000 : Int) * 1 ≤ 4000000000000000000 * m := by omega
    omega
  have q2 : n / m ≤ 4000000000000000000 := by
    apply Int.ediv_le_of_le_mul h0
    have : (4000000000000000000 : Int) * 1 ≤ 4000000000000000000 * m := by omega
    omega
  have H := Lib.hid (And.intro t1 t2); clear t1 t2
  have H2 := Lib.hid (And.intro q1 q2); clear q1 q2
  go_enter Try.func124, Try.ntmps124
  go_wp2
  · go_ret; have h := H2.out; rw [(H.out.1 (by assumption)).2] at h; exact ⟨ret_int (by rw [(H.out.1 (by assumption)).2]; unfold wrap64; omega), rfl⟩
  · go_ret; have h := H2.out; rw [(H.out.2 (by omega)).2] at h; exact ⟨ret_int (by rw [(H.out.2 (by omega)).2]; try (unfold wrap64; omega)), rfl⟩
end Go.Proofs.Ytgnakeemcccfjaa

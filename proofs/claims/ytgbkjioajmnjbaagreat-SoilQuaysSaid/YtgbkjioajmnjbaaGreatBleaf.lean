/- Contracts of the functions of package bed, of its reference and of its statements that only compute, and of the tests of a grid. -/
import Derived.Test.YtgbkjioajmnjbaaGreatTtail
import Derived.Test.YtgbkjioajmnjbaaGreatBpure
namespace Go.Proofs.YtgbkjioajmnjbaaGreat
open Go Go.RowKit Go.IntWalk

def encZ (n : Int) : List Value := [.int .i64 n]
theorem encZ_len (n : Int) : (encZ n).length = 1 := rfl
theorem Row.p1 {w : World} {A : Option Addr} {l : List Int} (h : Row 1 encZ w A l) {k : Nat} (hk : k < l.length) :
    ∃ b off, A = some ⟨b, off, none⟩ ∧ b < w.heap.size ∧ ∀ w', Ext w w' → w'.cell? ⟨b, off + k, none⟩ = some (.int .i64 l[k]) := by
  obtain ⟨b, off, h1, h2, h3⟩ := h.addr (by omega)
  exact ⟨b, off, h1, h2, fun w' hw => by have := h3 w' hw k hk 0 _ rfl; simpa using this⟩

theorem bwithin_c (n lo hi : Int) (w : World) :
    Calls Tryz.prog 62 #[.int .i64 n, .int .i64 lo, .int .i64 hi] w fun e w' => e = .returned (.bool (withinB n lo hi)) ∧ w = w' := by
  unfold withinB
  go_enter Tryz.func62, Tryz.ntmps62
  by_cases h : lo ≤ n
  · go_wp2; go_ret; exact ⟨ret_bool (by first | (simp [h]; done) | (simp [h]; omega)), rfl⟩
  · go_wp2; go_ret; exact ⟨ret_bool (by first | (simp; done) | (simp; omega)), rfl⟩
theorem within_c (n lo hi : Int) (w : World) :
    Calls Tryz.prog 31 #[.int .i64 n, .int .i64 lo, .int .i64 hi] w fun e w' => e = .returned (.bool (withinB n lo hi)) ∧ w = w' := by
  unfold withinB
  go_enter Tryz.func31, Tryz.ntmps31
  by_cases h : lo ≤ n
  · go_wp2; go_ret; exact ⟨ret_bool (by first | (simp [h]; done) | (simp [h]; omega)), rfl⟩
  · go_wp2; go_ret; exact ⟨ret_bool (by first | (simp; done) | (simp; omega)), rfl⟩
theorem isLevel_c (n : Int) (w : World) :
    Calls Tryz.prog 63 #[.int .i64 n] w fun e w' => e = .returned (.bool (lvB n)) ∧ w = w' := by
  unfold lvB
  go_enter Tryz.func63, Tryz.ntmps63
  go_wp2_with (first | (go_at_call 62; refine Calls.mono (bwithin_c _ _ _ _) ?_; rintro e w' ⟨rfl, rfl⟩))
  go_ret; exact ⟨rfl, rfl⟩
theorem leveled_c (n : Int) (w : World) :
    Calls Tryz.prog 30 #[.int .i64 n] w fun e w' => e = .returned (.bool (lvB n)) ∧ w = w' := by
  unfold lvB
  go_enter Tryz.func30, Tryz.ntmps30
  go_wp2_with (first | (go_at_call 31; refine Calls.mono (within_c _ _ _ _) ?_; rintro e w' ⟨rfl, rfl⟩))
  go_ret; exact ⟨rfl, rfl⟩
theorem isPlace_c (x y : Int) (w : World) :
    Calls Tryz.prog 61 #[.int .i64 x, .int .i64 y] w fun e w' => e = .returned (.bool (plB x y)) ∧ w = w' := by
  unfold plB
  have H := Lib.hid (fun w => bwithin_c x (-1000000) 1000000 w)
  cases h : withinB x (-1000000) 1000000
  all_goals
    rw [h] at H
    clear h
    go_enter Tryz.func61, Tryz.ntmps61
    go_wp2_with (first | (go_at_call 62; (first | (with_reducible refine Calls.mono (H.out _) ?_) | (with_reducible refine Calls.mono (bwithin_c _ _ _ _) ?_)); rintro e w' ⟨rfl, rfl⟩))
    go_ret; exact ⟨ret_bool (by simp), rfl⟩
theorem abs_c (n : Int) (w : World) (h0 : -9000000000000000000 ≤ n) (h1 : n ≤ 9000000000000000000) :
    Calls Tryz.prog 75 #[.int .i64 n] w fun e w' => e = .returned (.int .i64 n.natAbs) ∧ w = w' := by
  go_enter Tryz.func75, Tryz.ntmps75
  go_wp2
  · go_ret; exact ⟨ret_int (by omega), rfl⟩
  · go_ret; exact ⟨ret_int (by omega), rfl⟩
theorem mod_c (n m : Int) (w : World) (h0 : 0 < m) (h1 : m ≤ 4000000000000000000) :
    Calls Tryz.prog 92 #[.int .i64 n, .int .i64 m] w fun e w' => e = .returned (.int .i64 (n % m)) ∧ w = w' := by
  obtain ⟨t1, t2, t3, t4⟩ := tmod_form n m h0
  have H := Lib.hid (And.intro t1 t2); clear t1 t2
  go_enter Tryz.func92, Tryz.ntmps92
  go_wp2
  · go_ret; exact ⟨ret_int (by first | (rw [(H.out.1 (by assumption)).1]; done) | (rw [(H.out.1 (by assumption)).1]; unfold wrap64; omega)), rfl⟩
  · go_ret; exact ⟨ret_int (by rw [(H.out.2 (by omega)).1]), rfl⟩
end Go.Proofs.YtgbkjioajmnjbaaGreat

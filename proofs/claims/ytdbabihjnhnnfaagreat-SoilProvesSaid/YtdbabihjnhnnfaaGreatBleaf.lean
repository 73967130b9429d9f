/- Contracts of the functions of package bed, of its reference and of its statements that only compute, and of the tests of a grid. -/
import Derived.Test.YtdbabihjnhnnfaaGreatTtail
import Derived.Test.YtdbabihjnhnnfaaGreatBpure
namespace Go.Proofs.YtdbabihjnhnnfaaGreat
open Go Go.RowKit Go.IntWalk

def encZ (n : Int) : List Value := [.int .i64 n]
theorem encZ_len (n : Int) : (encZ n).length = 1 := rfl
theorem Row.p1 {w : World} {A : Option Addr} {l : List Int} (h : Row 1 encZ w A l) {k : Nat} (hk : k < l.length) :
    ∃ b off, A = some ⟨b, off, none⟩ ∧ b < w.heap.size ∧ ∀ w', Ext w w' → w'.cell? ⟨b, off + k, none⟩ = some (.int .i64 l[k]) := by
  obtain ⟨b, off, h1, h2, h3⟩ := h.addr (by omega)
  exact ⟨b, off, h1, h2, fun w' hw => by have := h3 w' hw k hk 0 _ rfl; simpa using this⟩

theorem bwithin_c (n lo hi : Int) (w : World) :
    Calls Tryz.prog 73 #[.int .i64 n, .int .i64 lo, .int .i64 hi] w fun e w' => e = .returned (.bool (withinB n lo hi)) ∧ w = w' := by
  unfold withinB
  go_enter Tryz.func73, Tryz.ntmps73
  by_cases h : lo ≤ n
  · go_wp2; go_ret; exact ⟨ret_bool (by first | (simp [h]; done) | (simp [h]; omega)), rfl⟩
  · go_wp2; go_ret; exact ⟨ret_bool (by first | (simp; done) | (simp; omega)), rfl⟩
theorem within_c (n lo hi : Int) (w : World) :
    Calls Tryz.prog 26 #[.int .i64 n, .int .i64 lo, .int .i64 hi] w fun e w' => e = .returned (.bool (withinB n lo hi)) ∧ w = w' := by
  unfold withinB
  go_enter Tryz.func26, Tryz.ntmps26
  by_cases h : lo ≤ n
  · go_wp2; go_ret; exact ⟨ret_bool (by first | (simp [h]; done) | (simp [h]; omega)), rfl⟩
  · go_wp2; go_ret; exact ⟨ret_bool (by first | (simp; done) | (simp; omega)), rfl⟩
theorem isLevel_c (n : Int) (w : World) :
    Calls Tryz.prog 74 #[.int .i64 n] w fun e w' => e = .returned (.bool (lvB n)) ∧ w = w' := by
  unfold lvB
  go_enter Tryz.func74, Tryz.ntmps74
  go_wp2_with (first | (go_at_call 73; refine Calls.mono (bwithin_c _ _ _ _) ?_; rintro e w' ⟨rfl, rfl⟩))
  go_ret; exact ⟨rfl, rfl⟩
theorem leveled_c (n : Int) (w : World) :
    Calls Tryz.prog 27 #[.int .i64 n] w fun e w' => e = .returned (.bool (lvB n)) ∧ w = w' := by
  unfold lvB
  go_enter Tryz.func27, Tryz.ntmps27
  go_wp2_with (first | (go_at_call 26; refine Calls.mono (within_c _ _ _ _) ?_; rintro e w' ⟨rfl, rfl⟩))
  go_ret; exact ⟨rfl, rfl⟩
theorem isPlace_c (x y : Int) (w : World) :
    Calls Tryz.prog 72 #[.int .i64 x, .int .i64 y] w fun e w' => e = .returned (.bool (plB x y)) ∧ w = w' := by
  unfold plB
  have H := Lib.hid (fun w => bwithin_c x (-1000000) 1000000 w)
  cases h : withinB x (-1000000) 1000000
  all_goals
    rw [h] at H
    clear h
    go_enter Tryz.func72, Tryz.ntmps72
    go_wp2_with (first | (go_at_call 73; (first | (with_reducible refine Calls.mono (H.out _) ?_) | (with_reducible refine Calls.mono (bwithin_c _ _ _ _) ?_)); rintro e w' ⟨rfl, rfl⟩))
    go_ret; exact ⟨ret_bool (by simp), rfl⟩
theorem abs_c (n : Int) (w : World) (h0 : -9000000000000000000 ≤ n) (h1 : n ≤ 9000000000000000000) :
    Calls Tryz.prog 59 #[.int .i64 n] w fun e w' => e = .returned (.int .i64 n.natAbs) ∧ w = w' := by
  go_enter Tryz.func59, Tryz.ntmps59
  go_wp2
  · go_ret; exact ⟨ret_int (by omega), rfl⟩
  · go_ret; exact ⟨ret_int (by omega), rfl⟩
end Go.Proofs.YtdbabihjnhnnfaaGreat

/- Contracts of the functions on points, with the range. -/
import Derived.Test.YtohdplnlbnoojaaPts
namespace Go.Proofs.Ytohdplnlbnoojaa
open Go Go.RowKit

theorem inRange2_c (ax ay bx by_ : Int) (w : World) (c n : Nat) (t : TypeId) (hn : n = w.heap.size) :
    Calls Try.prog 151 #[.slice (some ⟨n, 0, none⟩) 2 c] (w.alloc (.cells #[.int .i64 ax, .int .i64 ay, .int .i64 bx, .int .i64 by_] t))
      fun e w' => e = .returned (.bool (allGood [⟨ax, ay⟩, ⟨bx, by_⟩])) ∧ Ext (w.alloc (.cells #[.int .i64 ax, .int .i64 ay, .int .i64 bx, .int .i64 by_] t)) w' :=
  inRange_c [⟨ax, ay⟩, ⟨bx, by_⟩] _ _ c (small_len (by simp)) (Row.new' encP_len _ _ _ _ _ hn rfl)
theorem inRange3_c (ax ay bx by_ cx cy : Int) (w : World) (c n : Nat) (t : TypeId) (hn : n = w.heap.size) :
    Calls Try.prog 151 #[.slice (some ⟨n, 0, none⟩) 3 c] (w.alloc (.cells #[.int .i64 ax, .int .i64 ay, .int .i64 bx, .int .i64 by_, .int .i64 cx, .int .i64 cy] t))
      fun e w' => e = .returned (.bool (allGood [⟨ax, ay⟩, ⟨bx, by_⟩, ⟨cx, cy⟩])) ∧ Ext (w.alloc (.cells #[.int .i64 ax, .int .i64 ay, .int .i64 bx, .int .i64 by_, .int .i64 cx, .int .i64 cy] t)) w' :=
  inRange_c [⟨ax, ay⟩, ⟨bx, by_⟩, ⟨cx, cy⟩] _ _ c (small_len (by simp)) (Row.new' encP_len _ _ _ _ _ hn rfl)
theorem inRange4_c (ax ay bx by_ cx cy dx dy : Int) (w : World) (c n : Nat) (t : TypeId) (hn : n = w.heap.size) :
    Calls Try.prog 151 #[.slice (some ⟨n, 0, none⟩) 4 c] (w.alloc (.cells #[.int .i64 ax, .int .i64 ay, .int .i64 bx, .int .i64 by_, .int .i64 cx, .int .i64 cy, .int .i64 dx, .int .i64 dy] t))
      fun e w' => e = .returned (.bool (allGood [⟨ax, ay⟩, ⟨bx, by_⟩, ⟨cx, cy⟩, ⟨dx, dy⟩])) ∧ Ext (w.alloc (.cells #[.int .i64 ax, .int .i64 ay, .int .i64 bx, .int .i64 by_, .int .i64 cx, .int .i64 cy, .int .i64 dx, .int .i64 dy] t)) w' :=
  inRange_c [⟨ax, ay⟩, ⟨bx, by_⟩, ⟨cx, cy⟩, ⟨dx, dy⟩] _ _ c (small_len (by simp)) (Row.new' encP_len _ _ _ _ _ hn rfl)

theorem gsquare_c (ax ay bx by_ : Int) (w : World) :
    Calls Try.prog 124 #[.agg #[.int .i64 ax, .int .i64 ay], .agg #[.int .i64 bx, .int .i64 by_]] w
      fun e w' => e = .returned (.int .i64 (if allGood [⟨ax, ay⟩, ⟨bx, by_⟩] then dotW ⟨ax, ay⟩ ⟨bx, by_⟩ ⟨bx, by_⟩ else 0)) ∧ Ext w w' := by
  cases h : allGood [⟨ax, ay⟩, ⟨bx, by_⟩]
  all_goals
    go_enter Try.func124, Try.ntmps124
    go_wp2_with (first | (go_at_call 151; refine Calls.mono (inRange2_c _ _ _ _ _ _ _ _ ?_) ?_; (focus simp); rintro e w1 ⟨rfl, hb⟩; have hc := hb.ccell; have hf := hb.frz; have hs := hb.sz; (try simp at hs); (try have hs0 := hs w.heap.size (by omega)); (try have hs1 := hs (w.heap.size + 1) (by omega)); (try have hs2 := hs (w.heap.size + 1 + 1) (by omega)); (try have hs3 := hs (w.heap.size + 1 + 1 + 1) (by omega))) | (go_at_call 152; refine Calls.mono (square_c _ _ _ _ _) ?_; rintro e w1 ⟨rfl, hb⟩; have hc := hb.ccell; have hf := hb.frz; have hs := hb.sz; (try simp at hs); (try have hs0 := hs w.heap.size (by omega)); (try have hs1 := hs (w.heap.size + 1) (by omega)); (try have hs2 := hs (w.heap.size + 1 + 1) (by omega)); (try have hs3 := hs (w.heap.size + 1 + 1 + 1) (by omega))))
    go_ret
    exact ⟨by simp, by (repeat (first | with_reducible exact Ext.rfl' _ | with_reducible assumption | with_reducible refine Ext.al ?_ _ | with_reducible refine Ext.dr ?_ | with_reducible refine Ext.st ?_ (by simp) _ | with_reducible refine Ext.tr ?_ (by assumption)))⟩
end Go.Proofs.Ytohdplnlbnoojaa

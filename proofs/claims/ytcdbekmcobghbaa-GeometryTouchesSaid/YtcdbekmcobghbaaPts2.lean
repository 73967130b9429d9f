/- Contracts of the functions on points, with the range. -/
import Derived.Test.YtcdbekmcobghbaaPts
namespace Go.Proofs.Ytcdbekmcobghbaa
open Go Go.RowKit

theorem quarter_c (x y : Int) (w : World) (_hx : -4000000000000000000 ≤ x ∧ x ≤ 4000000000000000000) (hy : -4000000000000000000 ≤ y ∧ y ≤ 4000000000000000000) :
    Calls Try.prog 69 #[.agg #[.int .i64 x, .int .i64 y]] w fun e w' => e = .returned (.agg #[.int .i64 (-y), .int .i64 x]) ∧ Ext w w' := by
  go_enter Try.func69, Try.ntmps69
  go_wp2_with (first | (go_at_call 72; refine Calls.mono (at_c _ _ _) ?_; rintro e w1 ⟨rfl, hb⟩; have hc := hb.ccell; have hf := hb.frz; have hs := hb.sz; (try simp at hs); (try have hs0 := hs w.heap.size (by omega)); (try have hs1 := hs (w.heap.size + 1) (by omega)); (try have hs2 := hs (w.heap.size + 1 + 1) (by omega)); (try have hs3 := hs (w.heap.size + 1 + 1 + 1) (by omega))))
  refine bodyPost_ret (v := .agg #[.int .i64 (-y), .int .i64 x]) (by simp [results, Try.results69, go_sem, hc]) rfl ⟨rfl, ?_⟩
  exact Ext.st (Ext.st (by (repeat (first | with_reducible exact Ext.rfl' _ | with_reducible assumption | with_reducible refine Ext.al ?_ _ | with_reducible refine Ext.dr ?_ | with_reducible refine Ext.st ?_ (by simp) _ | with_reducible refine Ext.tr ?_ (by assumption)))) (by simp) _) (by simp) _

theorem inRange2_c (ax ay bx by_ : Int) (w : World) (c n : Nat) (t : TypeId) (hn : n = w.heap.size) :
    Calls Try.prog 73 #[.slice (some ⟨n, 0, none⟩) 2 c] (w.alloc (.cells #[.int .i64 ax, .int .i64 ay, .int .i64 bx, .int .i64 by_] t))
      fun e w' => e = .returned (.bool (allGood [⟨ax, ay⟩, ⟨bx, by_⟩])) ∧ Ext (w.alloc (.cells #[.int .i64 ax, .int .i64 ay, .int .i64 bx, .int .i64 by_] t)) w' :=
  inRange_c [⟨ax, ay⟩, ⟨bx, by_⟩] _ _ c (small_len (by simp)) (Row.new' encP_len _ _ _ _ _ hn rfl)
theorem inRange3_c (ax ay bx by_ cx cy : Int) (w : World) (c n : Nat) (t : TypeId) (hn : n = w.heap.size) :
    Calls Try.prog 73 #[.slice (some ⟨n, 0, none⟩) 3 c] (w.alloc (.cells #[.int .i64 ax, .int .i64 ay, .int .i64 bx, .int .i64 by_, .int .i64 cx, .int .i64 cy] t))
      fun e w' => e = .returned (.bool (allGood [⟨ax, ay⟩, ⟨bx, by_⟩, ⟨cx, cy⟩])) ∧ Ext (w.alloc (.cells #[.int .i64 ax, .int .i64 ay, .int .i64 bx, .int .i64 by_, .int .i64 cx, .int .i64 cy] t)) w' :=
  inRange_c [⟨ax, ay⟩, ⟨bx, by_⟩, ⟨cx, cy⟩] _ _ c (small_len (by simp)) (Row.new' encP_len _ _ _ _ _ hn rfl)
theorem inRange4_c (ax ay bx by_ cx cy dx dy : Int) (w : World) (c n : Nat) (t : TypeId) (hn : n = w.heap.size) :
    Calls Try.prog 73 #[.slice (some ⟨n, 0, none⟩) 4 c] (w.alloc (.cells #[.int .i64 ax, .int .i64 ay, .int .i64 bx, .int .i64 by_, .int .i64 cx, .int .i64 cy, .int .i64 dx, .int .i64 dy] t))
      fun e w' => e = .returned (.bool (allGood [⟨ax, ay⟩, ⟨bx, by_⟩, ⟨cx, cy⟩, ⟨dx, dy⟩])) ∧ Ext (w.alloc (.cells #[.int .i64 ax, .int .i64 ay, .int .i64 bx, .int .i64 by_, .int .i64 cx, .int .i64 cy, .int .i64 dx, .int .i64 dy] t)) w' :=
  inRange_c [⟨ax, ay⟩, ⟨bx, by_⟩, ⟨cx, cy⟩, ⟨dx, dy⟩] _ _ c (small_len (by simp)) (Row.new' encP_len _ _ _ _ _ hn rfl)

theorem gcross_c (ax ay bx by_ cx cy : Int) (w : World) :
    Calls Try.prog 20 #[.agg #[.int .i64 ax, .int .i64 ay], .agg #[.int .i64 bx, .int .i64 by_], .agg #[.int .i64 cx, .int .i64 cy]] w
      fun e w' => e = .returned (.int .i64 (if allGood [⟨ax, ay⟩, ⟨bx, by_⟩, ⟨cx, cy⟩] then crossW ⟨ax, ay⟩ ⟨bx, by_⟩ ⟨cx, cy⟩ else 0)) ∧ Ext w w' := by
  cases h : allGood [⟨ax, ay⟩, ⟨bx, by_⟩, ⟨cx, cy⟩]
  all_goals
    go_enter Try.func20, Try.ntmps20
    go_wp2_with (first | (go_at_call 73; refine Calls.mono (inRange3_c _ _ _ _ _ _ _ _ _ _ ?_) ?_; (focus simp); rintro e w1 ⟨rfl, hb⟩; have hc := hb.ccell; have hf := hb.frz; have hs := hb.sz; (try simp at hs); (try have hs0 := hs w.heap.size (by omega)); (try have hs1 := hs (w.heap.size + 1) (by omega)); (try have hs2 := hs (w.heap.size + 1 + 1) (by omega)); (try have hs3 := hs (w.heap.size + 1 + 1 + 1) (by omega))) | (go_at_call 74; refine Calls.mono (cross_c _ _ _ _ _ _ _) ?_; rintro e w1 ⟨rfl, hb⟩; have hc := hb.ccell; have hf := hb.frz; have hs := hb.sz; (try simp at hs); (try have hs0 := hs w.heap.size (by omega)); (try have hs1 := hs (w.heap.size + 1) (by omega)); (try have hs2 := hs (w.heap.size + 1 + 1) (by omega)); (try have hs3 := hs (w.heap.size + 1 + 1 + 1) (by omega))))
    go_ret
    exact ⟨by simp, by (repeat (first | with_reducible exact Ext.rfl' _ | with_reducible assumption | with_reducible refine Ext.al ?_ _ | with_reducible refine Ext.dr ?_ | with_reducible refine Ext.st ?_ (by simp) _ | with_reducible refine Ext.tr ?_ (by assumption)))⟩

theorem gorient_c (ax ay bx by_ cx cy : Int) (w : World) :
    Calls Try.prog 21 #[.agg #[.int .i64 ax, .int .i64 ay], .agg #[.int .i64 bx, .int .i64 by_], .agg #[.int .i64 cx, .int .i64 cy]] w
      fun e w' => e = .returned (.int .i64 (cmpI (if allGood [⟨ax, ay⟩, ⟨bx, by_⟩, ⟨cx, cy⟩] then crossW ⟨ax, ay⟩ ⟨bx, by_⟩ ⟨cx, cy⟩ else 0) 0)) ∧ Ext w w' := by
  go_enter Try.func21, Try.ntmps21
  generalize hr : (if allGood [⟨ax, ay⟩, ⟨bx, by_⟩, ⟨cx, cy⟩] then crossW ⟨ax, ay⟩ ⟨bx, by_⟩ ⟨cx, cy⟩ else 0) = r
  have hr' := Lib.hid hr; clear hr
  go_wp2_with (first | (go_at_call 20; refine Calls.mono ((hr'.out ▸ gcross_c _ _ _ _ _ _ _)) ?_; rintro e w1 ⟨rfl, hb⟩; have hc := hb.ccell; have hf := hb.frz; have hs := hb.sz; (try simp at hs); (try have hs0 := hs w.heap.size (by omega)); (try have hs1 := hs (w.heap.size + 1) (by omega)); (try have hs2 := hs (w.heap.size + 1 + 1) (by omega)); (try have hs3 := hs (w.heap.size + 1 + 1 + 1) (by omega))) | (go_at_call 75; refine Calls.mono (sign_c _ _) ?_; rintro e w' ⟨rfl, rfl⟩))
  go_ret
  exact ⟨rfl, by (repeat (first | with_reducible exact Ext.rfl' _ | with_reducible assumption | with_reducible refine Ext.al ?_ _ | with_reducible refine Ext.dr ?_ | with_reducible refine Ext.st ?_ (by simp) _ | with_reducible refine Ext.tr ?_ (by assumption)))⟩

theorem gsquare_c (ax ay bx by_ : Int) (w : World) :
    Calls Try.prog 22 #[.agg #[.int .i64 ax, .int .i64 ay], .agg #[.int .i64 bx, .int .i64 by_]] w
      fun e w' => e = .returned (.int .i64 (if allGood [⟨ax, ay⟩, ⟨bx, by_⟩] then dotW ⟨ax, ay⟩ ⟨bx, by_⟩ ⟨bx, by_⟩ else 0)) ∧ Ext w w' := by
  cases h : allGood [⟨ax, ay⟩, ⟨bx, by_⟩]
  all_goals
    go_enter Try.func22, Try.ntmps22
    go_wp2_with (first | (go_at_call 73; refine Calls.mono (inRange2_c _ _ _ _ _ _ _ _ ?_) ?_; (focus simp); rintro e w1 ⟨rfl, hb⟩; have hc := hb.ccell; have hf := hb.frz; have hs := hb.sz; (try simp at hs); (try have hs0 := hs w.heap.size (by omega)); (try have hs1 := hs (w.heap.size + 1) (by omega)); (try have hs2 := hs (w.heap.size + 1 + 1) (by omega)); (try have hs3 := hs (w.heap.size + 1 + 1 + 1) (by omega))) | (go_at_call 76; refine Calls.mono (square_c _ _ _ _ _) ?_; rintro e w1 ⟨rfl, hb⟩; have hc := hb.ccell; have hf := hb.frz; have hs := hb.sz; (try simp at hs); (try have hs0 := hs w.heap.size (by omega)); (try have hs1 := hs (w.heap.size + 1) (by omega)); (try have hs2 := hs (w.heap.size + 1 + 1) (by omega)); (try have hs3 := hs (w.heap.size + 1 + 1 + 1) (by omega))))
    go_ret
    exact ⟨by simp, by (repeat (first | with_reducible exact Ext.rfl' _ | with_reducible assumption | with_reducible refine Ext.al ?_ _ | with_reducible refine Ext.dr ?_ | with_reducible refine Ext.st ?_ (by simp) _ | with_reducible refine Ext.tr ?_ (by assumption)))⟩
end Go.Proofs.Ytcdbekmcobghbaa

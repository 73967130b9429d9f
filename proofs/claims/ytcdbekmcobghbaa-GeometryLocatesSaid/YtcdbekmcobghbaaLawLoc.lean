/- The triangle to which a point belongs is as specified: the law returns true for every input. Conditions: none. -/
import Derived.Test.YtcdbekmcobghbaaLoc3
namespace Go.Proofs.Ytcdbekmcobghbaa
open Go Go.RowKit Go.IntWalk

set_option maxHeartbeats 1000000 in
theorem locs_walk (l : List Pt) (ts : List I3) (px py : Int) (w : World) (A B : Option Addr) (cA cB : Nat) (hl : l.length ≤ maxLen) (ht : ts.length ≤ maxLen) (hA : Row 2 encP w A l) (hB : Row 3 encI w B ts) :
    Calls Try.prog 14 #[.slice A l.length cA, .slice B ts.length cB, .agg #[.int .i64 px, .int .i64 py]] w
      fun e w' => e = .returned (.bool true) ∧ Ext w w' := by
  have HG := Lib.hid (fun w' (hw : Ext w w') => glocate_c l ts px py w' A B cA cB hl ht (hA.ext hw) (hB.ext hw))
  have HR := Lib.hid (fun w' (hw : Ext w w') => rlocate_c l ts px py w' A B cA cB hl ht (hA.ext hw) (hB.ext hw))
  generalize (locV l ts ⟨px, py⟩).1 = v at HG HR
  generalize (locV l ts ⟨px, py⟩).2 = e at HG HR
  unfold maxLen at hl ht
  by_cases h1 : 70 < l.length
  · have h1' : (70 : Int) < (l.length : Int) := by omega
    go_enter Try.func14, Try.ntmps14
    go_wp2_with (first | (go_at_call 19; refine Calls.mono (awake_c _) ?_; rintro e w1 ⟨rfl, hb⟩; have hc := hb.ccell; have hf := hb.frz; have hs := hb.sz; (try simp at hs); (try have hs0 := hs w.heap.size (by omega)); (try have hs1 := hs (w.heap.size + 1) (by omega)); (try have hs2 := hs (w.heap.size + 1 + 1) (by omega)); (try have hs3 := hs (w.heap.size + 1 + 1 + 1) (by omega))))
    go_ret
    exact ⟨rfl, by (repeat (first | with_reducible exact Ext.rfl' _ | with_reducible assumption | with_reducible refine Ext.al ?_ _ | with_reducible refine Ext.dr ?_ | with_reducible refine Ext.st ?_ (by simp) _ | with_reducible refine Ext.tr ?_ (by assumption)))⟩
  have h1' : (l.length : Int) ≤ 70 := by omega
  by_cases h2 : 130 < ts.length
  · have h2' : (130 : Int) < (ts.length : Int) := by omega
    go_enter Try.func14, Try.ntmps14
    go_wp2_with (first | (go_at_call 19; refine Calls.mono (awake_c _) ?_; rintro e w1 ⟨rfl, hb⟩; have hc := hb.ccell; have hf := hb.frz; have hs := hb.sz; (try simp at hs); (try have hs0 := hs w.heap.size (by omega)); (try have hs1 := hs (w.heap.size + 1) (by omega)); (try have hs2 := hs (w.heap.size + 1 + 1) (by omega)); (try have hs3 := hs (w.heap.size + 1 + 1 + 1) (by omega))))
    go_ret
    exact ⟨rfl, by (repeat (first | with_reducible exact Ext.rfl' _ | with_reducible assumption | with_reducible refine Ext.al ?_ _ | with_reducible refine Ext.dr ?_ | with_reducible refine Ext.st ?_ (by simp) _ | with_reducible refine Ext.tr ?_ (by assumption)))⟩
  · have h2' : (ts.length : Int) ≤ 130 := by omega
    go_enter Try.func14, Try.ntmps14
    go_wp2_with (first | (go_at_call 19; refine Calls.mono (awake_c _) ?_; rintro e w1 ⟨rfl, hb⟩; have hc := hb.ccell; have hf := hb.frz; have hs := hb.sz; (try simp at hs); (try have hs0 := hs w.heap.size (by omega)); (try have hs1 := hs (w.heap.size + 1) (by omega)); (try have hs2 := hs (w.heap.size + 1 + 1) (by omega)); (try have hs3 := hs (w.heap.size + 1 + 1 + 1) (by omega))) | (go_at_call 61; with_reducible refine Calls.mono (HG.out _ (by (repeat (first | with_reducible exact Ext.rfl' _ | with_reducible assumption | with_reducible refine Ext.al ?_ _ | with_reducible refine Ext.dr ?_ | with_reducible refine Ext.st ?_ (by simp) _ | with_reducible refine Ext.tr ?_ (by assumption))))) ?_; rintro e w1 ⟨rfl, hb⟩; have hc := hb.ccell; have hf := hb.frz; have hs := hb.sz; (try simp at hs); (try have hs0 := hs w.heap.size (by omega)); (try have hs1 := hs (w.heap.size + 1) (by omega)); (try have hs2 := hs (w.heap.size + 1 + 1) (by omega)); (try have hs3 := hs (w.heap.size + 1 + 1 + 1) (by omega))) | (go_at_call 62; with_reducible refine Calls.mono (HR.out _ (by (repeat (first | with_reducible exact Ext.rfl' _ | with_reducible assumption | with_reducible refine Ext.al ?_ _ | with_reducible refine Ext.dr ?_ | with_reducible refine Ext.st ?_ (by simp) _ | with_reducible refine Ext.tr ?_ (by assumption))))) ?_; rintro e w1 ⟨rfl, hb⟩; have hc := hb.ccell; have hf := hb.frz; have hs := hb.sz; (try simp at hs); (try have hs0 := hs w.heap.size (by omega)); (try have hs1 := hs (w.heap.size + 1) (by omega)); (try have hs2 := hs (w.heap.size + 1 + 1) (by omega)); (try have hs3 := hs (w.heap.size + 1 + 1 + 1) (by omega))))
    go_ret
    exact ⟨by simp, by (repeat (first | with_reducible exact Ext.rfl' _ | with_reducible assumption | with_reducible refine Ext.al ?_ _ | with_reducible refine Ext.dr ?_ | with_reducible refine Ext.st ?_ (by simp) _ | with_reducible refine Ext.tr ?_ (by assumption)))⟩
end Go.Proofs.Ytcdbekmcobghbaa

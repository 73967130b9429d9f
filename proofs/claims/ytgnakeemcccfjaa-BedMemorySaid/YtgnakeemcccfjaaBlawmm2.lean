/- BedMemory: the law. Conditions: none. -/
import Derived.Test.YtgnakeemcccfjaaBlawmm
namespace Go.Proofs.Ytgnakeemcccfjaa
open Go Go.RowKit Go.IntWalk

set_option maxHeartbeats 4000000 in
theorem mm_walk (g h : Gr) (w : World) (A B : Option Addr) (c d : Nat) (hl : g.L.length ≤ maxLen) (hm : h.L.length ≤ maxLen) (hA : Row 1 encZ w A g.L) (hB : Row 1 encZ w B h.L) :
    Calls Try.prog 15 #[.agg #[.int .i64 g.X, .int .i64 g.Y, .int .i64 g.S, .int .i64 g.C, .int .i64 g.R, .slice A g.L.length c], .agg #[.int .i64 h.X, .int .i64 h.Y, .int .i64 h.S, .int .i64 h.C, .int .i64 h.R, .slice B h.L.length d]] w fun e w' => e = .returned (.bool true) ∧ Ext w w' := by
  have HF := Lib.hid (fun w' (hw : Ext w w') => few_c g w' A c hl (hA.ext hw))
  have HG := Lib.hid (fun w' (hw : Ext w w') => few_c h w' B d hm (hB.ext hw))
  cases hf : fewB g
  · rw [hf] at HF
    clear hf
    go_enter Try.func15, Try.ntmps15
    go_wp2_with (first | (go_at_call 16; with_reducible refine Calls.mono (awake_c _) ?_; rintro e wa ⟨rfl, hb⟩; have hc := hb.ccell; have hf := hb.frz; have hs := hb.sz; (try simp at hs); (try have t0 := hs (w.heap.size) (by first | assumption | omega)); (try have t1 := hs (w.heap.size + 1) (by first | assumption | omega)); (try have t2 := hs (w.heap.size) (by first | assumption | omega)); (try have t3 := hs (w.heap.size) (by first | assumption | omega)); (try have t4 := hs (w.heap.size) (by first | assumption | omega)); (try have t5 := hs (w.heap.size) (by first | assumption | omega))) | (go_at_call 17; with_reducible refine Calls.mono (HF.out _ (by (repeat (first | with_reducible exact Ext.rfl' _ | with_reducible assumption | with_reducible refine Ext.al ?_ _ | with_reducible refine Ext.dr ?_ | with_reducible refine Ext.st ?_ (by simp) _ | with_reducible refine Ext.tr ?_ (by assumption))))) ?_; rintro e wf ⟨rfl, hb⟩; have hc := hb.ccell; have hf := hb.frz; have hs := hb.sz; (try simp at hs); (try have t0 := hs (w.heap.size) (by first | assumption | omega)); (try have t1 := hs (w.heap.size + 1) (by first | assumption | omega)); (try have t2 := hs (w.heap.size) (by first | assumption | omega)); (try have t3 := hs (w.heap.size) (by first | assumption | omega)); (try have t4 := hs (w.heap.size) (by first | assumption | omega)); (try have t5 := hs (w.heap.size) (by first | assumption | omega))))
    go_ret
    exact ⟨rfl, by (repeat (first | with_reducible exact Ext.rfl' _ | with_reducible assumption | with_reducible refine Ext.al ?_ _ | with_reducible refine Ext.dr ?_ | with_reducible refine Ext.st ?_ (by simp) _ | with_reducible refine Ext.tr ?_ (by assumption)))⟩
  cases hf2 : fewB h
  · rw [hf] at HF
    rw [hf2] at HG
    clear hf hf2
    go_enter Try.func15, Try.ntmps15
    go_wp2_with (first | (go_at_call 16; with_reducible refine Calls.mono (awake_c _) ?_; rintro e wa ⟨rfl, hb⟩; have hc := hb.ccell; have hf := hb.frz; have hs := hb.sz; (try simp at hs); (try have t0 := hs (w.heap.size) (by first | assumption | omega)); (try have t1 := hs (w.heap.size + 1) (by first | assumption | omega)); (try have t2 := hs (w.heap.size) (by first | assumption | omega)); (try have t3 := hs (w.heap.size) (by first | assumption | omega)); (try have t4 := hs (w.heap.size) (by first | assumption | omega)); (try have t5 := hs (w.heap.size) (by first | assumption | omega))) | (go_at_call 17; with_reducible refine Calls.mono (HF.out _ (by (repeat (first | with_reducible exact Ext.rfl' _ | with_reducible assumption | with_reducible refine Ext.al ?_ _ | with_reducible refine Ext.dr ?_ | with_reducible refine Ext.st ?_ (by simp) _ | with_reducible refine Ext.tr ?_ (by assumption))))) ?_; rintro e wf ⟨rfl, hb⟩; have hc := hb.ccell; have hf := hb.frz; have hs := hb.sz; (try simp at hs); (try have t0 := hs (w.heap.size) (by first | assumption | omega)); (try have t1 := hs (w.heap.size + 1) (by first | assumption | omega)); (try have t2 := hs (w.heap.size) (by first | assumption | omega)); (try have t3 := hs (w.heap.size) (by first | assumption | omega)); (try have t4 := hs (w.heap.size) (by first | assumption | omega)); (try have t5 := hs (w.heap.size) (by first | assumption | omega))) | (go_at_call 17; with_reducible refine Calls.mono (HG.out _ (by (repeat (first | with_reducible exact Ext.rfl' _ | with_reducible assumption | with_reducible refine Ext.al ?_ _ | with_reducible refine Ext.dr ?_ | with_reducible refine Ext.st ?_ (by simp) _ | with_reducible refine Ext.tr ?_ (by assumption))))) ?_; rintro e wg ⟨rfl, hb⟩; have hc := hb.ccell; have hf := hb.frz; have hs := hb.sz; (try simp at hs); (try have t0 := hs (w.heap.size) (by first | assumption | omega)); (try have t1 := hs (w.heap.size + 1) (by first | assumption | omega)); (try have t2 := hs (w.heap.size) (by first | assumption | omega)); (try have t3 := hs (w.heap.size) (by first | assumption | omega)); (try have t4 := hs (w.heap.size) (by first | assumption | omega)); (try have t5 := hs (w.heap.size) (by first | assumption | omega))))
    go_ret
    exact ⟨rfl, by (repeat (first | with_reducible exact Ext.rfl' _ | with_reducible assumption | with_reducible refine Ext.al ?_ _ | with_reducible refine Ext.dr ?_ | with_reducible refine Ext.st ?_ (by simp) _ | with_reducible refine Ext.tr ?_ (by assumption)))⟩
  exact mm_ok g h w A B c d hl hm hA hB hf hf2
end Go.Proofs.Ytgnakeemcccfjaa

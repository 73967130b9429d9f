/- SoilGrounds: the law returns true for every input. Conditions: none. -/
import Derived.Test.YtohdplnlbnoojaaSrefg
import Derived.Test.YtohdplnlbnoojaaSslight
import Derived.Test.YtohdplnlbnoojaaSawake
namespace Go.Proofs.Ytohdplnlbnoojaa
open Go Go.RowKit Go.IntWalk

set_option maxHeartbeats 16000000 in
set_option maxRecDepth 100000 in
theorem gr_walk (soils : List So) (bos : List Bo) (w : World) (AS AB : Option Addr) (cS cB : Nat) (g : GrAny w soils AS bos AB) :
    Calls Try.prog 3 #[.agg #[.slice AS soils.length cS, .slice AB bos.length cB]] w fun e w' => e = .returned (.bool true) ∧ Ext w w' := by
  have HL := Lib.hid (fun w' (hw : Ext w w') => slight_c soils bos w' AS AB cS cB (g.ext hw))
  cases hB : slB soils bos
  · rw [hB] at HL
    clear hB g
    go_enter Try.func3, Try.ntmps3
    go_upto_region 3 with (first | (go_at_call 14; with_reducible refine Calls.mono (awake_c _) ?_; rintro e wa ⟨rfl, hb⟩; have hc := hb.ccell; have hf := hb.frz; have hs := hb.sz; (try simp at hs); (try have t0 := hs (w.heap.size) (by first | assumption | omega)); (try have t1 := hs (w.heap.size) (by first | assumption | omega)); (try have t2 := hs (w.heap.size) (by first | assumption | omega)); (try have t3 := hs (w.heap.size) (by first | assumption | omega)); (try have t4 := hs (w.heap.size) (by first | assumption | omega)); (try have t5 := hs (w.heap.size) (by first | assumption | omega))))
    refine wp_name (fun W hW => ?_)
    have hEW : Ext w W := by rw [hW]; (repeat (first | with_reducible exact Ext.rfl' _ | with_reducible assumption | with_reducible refine Ext.al ?_ _ | with_reducible refine Ext.dr ?_ | with_reducible refine Ext.st ?_ (by simp) _ | with_reducible refine Ext.tr ?_ (by assumption)))
    refine region_grow (by kernel_rfl) (by kernel_rfl) ?_
    repeat (first | go_big_quiet_step (first | (go_at_call 15; with_reducible exact callsGrow (HL.out _ (hEW.tr (Grow.ok _)))) | fail) | quiet_step (first | (go_at_call 15; with_reducible exact callsGrow (HL.out _ (hEW.tr (Grow.ok _)))) | fail))
    refine wpQuiet_nil ?_
    intro w1 hb
    have hc := hb.ccell
    have hf := hb.frz
    have hs := hb.sz
    (try simp at hs); (try have hs0 := hs w.heap.size (by omega)); (try have hs1 := hs (w.heap.size + 1) (by omega)); (try have hs2 := hs (w.heap.size + 1 + 1) (by omega)); (try have hs3 := hs (w.heap.size + 1 + 1 + 1) (by omega))
    (try simp only [IntWalk.i64_left])
    have hE1 : Ext W w1 := by assumption
    go_wp2
    go_ret
    exact ⟨rfl, hEW.tr hE1⟩
  · rw [hB] at HL
    have gw := g.small (slB_small hB)
    have HS := Lib.hid (fun w' (hw : Ext w w') => checkSoils_c soils w' AS cS gw.ls (gw.so.ext hw))
    have HR := Lib.hid (fun w' (hw : Ext w w') => rcheckSoils_c soils w' AS cS gw.ls (gw.so.ext hw))
    have HG := Lib.hid (fun w' (hw : Ext w w') => checkGround_c soils bos w' AS AB cS cB (gw.ext hw))
    have HQ := Lib.hid (fun w' (hw : Ext w w') => rcheckGround_c soils bos w' AS AB cS cB (gw.ext hw))
    generalize chkSoils soils = E1 at *
    generalize chkGr soils bos = E2 at *
    clear hB g gw
    go_enter Try.func3, Try.ntmps3
    go_upto_region 3 with (first | (go_at_call 14; with_reducible refine Calls.mono (awake_c _) ?_; rintro e wa ⟨rfl, hb⟩; have hc := hb.ccell; have hf := hb.frz; have hs := hb.sz; (try simp at hs); (try have t0 := hs (w.heap.size) (by first | assumption | omega)); (try have t1 := hs (w.heap.size) (by first | assumption | omega)); (try have t2 := hs (w.heap.size) (by first | assumption | omega)); (try have t3 := hs (w.heap.size) (by first | assumption | omega)); (try have t4 := hs (w.heap.size) (by first | assumption | omega)); (try have t5 := hs (w.heap.size) (by first | assumption | omega))))
    refine wp_name (fun W hW => ?_)
    have hEW : Ext w W := by rw [hW]; (repeat (first | with_reducible exact Ext.rfl' _ | with_reducible assumption | with_reducible refine Ext.al ?_ _ | with_reducible refine Ext.dr ?_ | with_reducible refine Ext.st ?_ (by simp) _ | with_reducible refine Ext.tr ?_ (by assumption)))
    refine region_grow (by kernel_rfl) (by kernel_rfl) ?_
    repeat (first | go_big_quiet_step (first | (go_at_call 15; with_reducible exact callsGrow (HL.out _ (hEW.tr (Grow.ok _)))) | (go_at_call 16; with_reducible exact callsGrow (HS.out _ (hEW.tr (Grow.ok _)))) | (go_at_call 17; with_reducible exact callsGrow (HR.out _ (hEW.tr (Grow.ok _)))) | (go_at_call 18; with_reducible exact callsGrow (HG.out _ (hEW.tr (Grow.ok _)))) | (go_at_call 19; with_reducible exact callsGrow (HQ.out _ (hEW.tr (Grow.ok _)))) | fail) | quiet_step (first | (go_at_call 15; with_reducible exact callsGrow (HL.out _ (hEW.tr (Grow.ok _)))) | (go_at_call 16; with_reducible exact callsGrow (HS.out _ (hEW.tr (Grow.ok _)))) | (go_at_call 17; with_reducible exact callsGrow (HR.out _ (hEW.tr (Grow.ok _)))) | (go_at_call 18; with_reducible exact callsGrow (HG.out _ (hEW.tr (Grow.ok _)))) | (go_at_call 19; with_reducible exact callsGrow (HQ.out _ (hEW.tr (Grow.ok _)))) | fail))
    refine wpQuiet_nil ?_
    intro w1 hb
    have hc := hb.ccell
    have hf := hb.frz
    have hs := hb.sz
    (try simp at hs); (try have hs0 := hs w.heap.size (by omega)); (try have hs1 := hs (w.heap.size + 1) (by omega)); (try have hs2 := hs (w.heap.size + 1 + 1) (by omega)); (try have hs3 := hs (w.heap.size + 1 + 1 + 1) (by omega))
    (try simp only [IntWalk.i64_left])
    have hE1 : Ext W w1 := by assumption
    go_wp2
    go_ret
    exact ⟨rfl, hEW.tr hE1⟩
end Go.Proofs.Ytohdplnlbnoojaa

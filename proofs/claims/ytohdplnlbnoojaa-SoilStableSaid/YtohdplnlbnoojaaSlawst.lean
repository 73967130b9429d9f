/- SoilStable: the law returns true for every input. Conditions: none. -/
import Derived.Test.YtohdplnlbnoojaaSstc
namespace Go.Proofs.Ytohdplnlbnoojaa
open Go Go.RowKit Go.IntWalk

set_option maxHeartbeats 64000000 in
set_option maxRecDepth 100000 in
theorem st_walk (soils : List So) (bos : List Bo) (g h : Gr) (w : World) (AS AB : Option Addr) (cS cB : Nat) (gg : GrAny w soils AS bos AB) (A : Option Addr) (c : Nat) (hl : g.L.length ≤ maxLen) (hA : Row 1 encZ w A g.L) (B : Option Addr) (d : Nat) (hlB : h.L.length ≤ maxLen) (hB : Row 1 encZ w B h.L) :
    Calls Try.prog 9 #[.agg #[.slice AS soils.length cS, .slice AB bos.length cB], .agg #[.int .i64 g.X, .int .i64 g.Y, .int .i64 g.S, .int .i64 g.C, .int .i64 g.R, .slice A g.L.length c], .agg #[.int .i64 h.X, .int .i64 h.Y, .int .i64 h.S, .int .i64 h.C, .int .i64 h.R, .slice B h.L.length d]] w fun e w' => e = .returned (.bool true) ∧ Ext w w' := by
  have HL := Lib.hid (fun w' (hw : Ext w w') => slight_c soils bos w' AS AB cS cB (gg.ext hw))
  have hl1 := hl
  have hl2 := hlB
  unfold maxLen at hl1 hl2
  cases hBB : slB soils bos
  · rw [hBB] at HL
    clear hBB gg hl hA hlB hB
    go_enter Try.func9, Try.ntmps9
    go_wp2_with (first | (go_at_call 14; with_reducible refine Calls.mono (awake_c _) ?_; rintro e wa ⟨rfl, hb⟩; have hc := hb.ccell; have hf := hb.frz; have hs := hb.sz; (try simp at hs); (try have t0 := hs (w.heap.size) (by first | assumption | omega)); (try have t1 := hs (w.heap.size + 1) (by first | assumption | omega)); (try have t2 := hs (w.heap.size + 1 + 1) (by first | assumption | omega)); (try have t3 := hs (w.heap.size) (by first | assumption | omega)); (try have t4 := hs (w.heap.size) (by first | assumption | omega)); (try have t5 := hs (w.heap.size) (by first | assumption | omega))) | (go_at_call 15; with_reducible refine Calls.mono (HL.out _ (by (repeat (first | with_reducible exact Ext.rfl' _ | with_reducible assumption | with_reducible refine Ext.al ?_ _ | with_reducible refine Ext.dr ?_ | with_reducible refine Ext.st ?_ (by simp) _ | with_reducible refine Ext.tr ?_ (by assumption))))) ?_; rintro e ws ⟨rfl, hb⟩; have hc := hb.ccell; have hf := hb.frz; have hs := hb.sz; (try simp at hs); (try have t0 := hs (w.heap.size) (by first | assumption | omega)); (try have t1 := hs (w.heap.size + 1) (by first | assumption | omega)); (try have t2 := hs (w.heap.size + 1 + 1) (by first | assumption | omega)); (try have t3 := hs (w.heap.size) (by first | assumption | omega)); (try have t4 := hs (w.heap.size) (by first | assumption | omega)); (try have t5 := hs (w.heap.size) (by first | assumption | omega))))
    go_ret
    exact ⟨rfl, by (repeat (first | with_reducible exact Ext.rfl' _ | with_reducible assumption | with_reducible refine Ext.al ?_ _ | with_reducible refine Ext.dr ?_ | with_reducible refine Ext.st ?_ (by simp) _ | with_reducible refine Ext.tr ?_ (by assumption)))⟩
  rw [hBB] at HL
  have gw := gg.small (slB_small hBB)
  clear hBB gg
  by_cases h200 : (200 : Int) < (g.L.length : Int)
  · clear hl hA hlB hB gw
    go_enter Try.func9, Try.ntmps9
    go_wp2_with (first | (go_at_call 14; with_reducible refine Calls.mono (awake_c _) ?_; rintro e wa ⟨rfl, hb⟩; have hc := hb.ccell; have hf := hb.frz; have hs := hb.sz; (try simp at hs); (try have t0 := hs (w.heap.size) (by first | assumption | omega)); (try have t1 := hs (w.heap.size + 1) (by first | assumption | omega)); (try have t2 := hs (w.heap.size + 1 + 1) (by first | assumption | omega)); (try have t3 := hs (w.heap.size) (by first | assumption | omega)); (try have t4 := hs (w.heap.size) (by first | assumption | omega)); (try have t5 := hs (w.heap.size) (by first | assumption | omega))) | (go_at_call 15; with_reducible refine Calls.mono (HL.out _ (by (repeat (first | with_reducible exact Ext.rfl' _ | with_reducible assumption | with_reducible refine Ext.al ?_ _ | with_reducible refine Ext.dr ?_ | with_reducible refine Ext.st ?_ (by simp) _ | with_reducible refine Ext.tr ?_ (by assumption))))) ?_; rintro e ws ⟨rfl, hb⟩; have hc := hb.ccell; have hf := hb.frz; have hs := hb.sz; (try simp at hs); (try have t0 := hs (w.heap.size) (by first | assumption | omega)); (try have t1 := hs (w.heap.size + 1) (by first | assumption | omega)); (try have t2 := hs (w.heap.size + 1 + 1) (by first | assumption | omega)); (try have t3 := hs (w.heap.size) (by first | assumption | omega)); (try have t4 := hs (w.heap.size) (by first | assumption | omega)); (try have t5 := hs (w.heap.size) (by first | assumption | omega))))
    go_ret
    exact ⟨rfl, by (repeat (first | with_reducible exact Ext.rfl' _ | with_reducible assumption | with_reducible refine Ext.al ?_ _ | with_reducible refine Ext.dr ?_ | with_reducible refine Ext.st ?_ (by simp) _ | with_reducible refine Ext.tr ?_ (by assumption)))⟩
  by_cases h201 : (200 : Int) < (h.L.length : Int)
  · clear hl hA hlB hB gw
    go_enter Try.func9, Try.ntmps9
    go_wp2_with (first | (go_at_call 14; with_reducible refine Calls.mono (awake_c _) ?_; rintro e wa ⟨rfl, hb⟩; have hc := hb.ccell; have hf := hb.frz; have hs := hb.sz; (try simp at hs); (try have t0 := hs (w.heap.size) (by first | assumption | omega)); (try have t1 := hs (w.heap.size + 1) (by first | assumption | omega)); (try have t2 := hs (w.heap.size + 1 + 1) (by first | assumption | omega)); (try have t3 := hs (w.heap.size) (by first | assumption | omega)); (try have t4 := hs (w.heap.size) (by first | assumption | omega)); (try have t5 := hs (w.heap.size) (by first | assumption | omega))) | (go_at_call 15; with_reducible refine Calls.mono (HL.out _ (by (repeat (first | with_reducible exact Ext.rfl' _ | with_reducible assumption | with_reducible refine Ext.al ?_ _ | with_reducible refine Ext.dr ?_ | with_reducible refine Ext.st ?_ (by simp) _ | with_reducible refine Ext.tr ?_ (by assumption))))) ?_; rintro e ws ⟨rfl, hb⟩; have hc := hb.ccell; have hf := hb.frz; have hs := hb.sz; (try simp at hs); (try have t0 := hs (w.heap.size) (by first | assumption | omega)); (try have t1 := hs (w.heap.size + 1) (by first | assumption | omega)); (try have t2 := hs (w.heap.size + 1 + 1) (by first | assumption | omega)); (try have t3 := hs (w.heap.size) (by first | assumption | omega)); (try have t4 := hs (w.heap.size) (by first | assumption | omega)); (try have t5 := hs (w.heap.size) (by first | assumption | omega))))
    go_ret
    exact ⟨rfl, by (repeat (first | with_reducible exact Ext.rfl' _ | with_reducible assumption | with_reducible refine Ext.al ?_ _ | with_reducible refine Ext.dr ?_ | with_reducible refine Ext.st ?_ (by simp) _ | with_reducible refine Ext.tr ?_ (by assumption)))⟩
  by_cases h0 : cbE soils bos g = 0
  case neg =>
    have HSL := Lib.hid (fun w' (hw : Ext w w') => gslump_err soils bos g w' AS AB A cS cB c (gw.ext hw) hl (hA.ext hw) h0)
    have h0' : (cbE soils bos g != 0) = true := by simp [h0]
    clear hl hA hlB hB gw h0
    generalize cbE soils bos g = E at *
    go_enter Try.func9, Try.ntmps9
    go_wp2_with (first | (go_at_call 14; with_reducible refine Calls.mono (awake_c _) ?_; rintro e wa ⟨rfl, hb⟩; have hc := hb.ccell; have hf := hb.frz; have hs := hb.sz; (try simp at hs); (try have t0 := hs (w.heap.size) (by first | assumption | omega)); (try have t1 := hs (w.heap.size + 1) (by first | assumption | omega)); (try have t2 := hs (w.heap.size + 1 + 1) (by first | assumption | omega)); (try have t3 := hs (w.heap.size) (by first | assumption | omega)); (try have t4 := hs (w.heap.size) (by first | assumption | omega)); (try have t5 := hs (w.heap.size) (by first | assumption | omega))) | (go_at_call 15; with_reducible refine Calls.mono (HL.out _ (by (repeat (first | with_reducible exact Ext.rfl' _ | with_reducible assumption | with_reducible refine Ext.al ?_ _ | with_reducible refine Ext.dr ?_ | with_reducible refine Ext.st ?_ (by simp) _ | with_reducible refine Ext.tr ?_ (by assumption))))) ?_; rintro e ws ⟨rfl, hb⟩; have hc := hb.ccell; have hf := hb.frz; have hs := hb.sz; (try simp at hs); (try have t0 := hs (w.heap.size) (by first | assumption | omega)); (try have t1 := hs (w.heap.size + 1) (by first | assumption | omega)); (try have t2 := hs (w.heap.size + 1 + 1) (by first | assumption | omega)); (try have t3 := hs (w.heap.size) (by first | assumption | omega)); (try have t4 := hs (w.heap.size) (by first | assumption | omega)); (try have t5 := hs (w.heap.size) (by first | assumption | omega))) | (go_at_call 43; with_reducible refine Calls.mono (HSL.out _ (by (repeat (first | with_reducible exact Ext.rfl' _ | with_reducible assumption | with_reducible refine Ext.al ?_ _ | with_reducible refine Ext.dr ?_ | with_reducible refine Ext.st ?_ (by simp) _ | with_reducible refine Ext.tr ?_ (by assumption))))) ?_; rintro e w2 ⟨rfl, hb⟩; have hc := hb.ccell; have hf := hb.frz; have hs := hb.sz; (try simp at hs); (try have t0 := hs (w.heap.size) (by first | assumption | omega)); (try have t1 := hs (w.heap.size + 1) (by first | assumption | omega)); (try have t2 := hs (w.heap.size + 1 + 1) (by first | assumption | omega)); (try have t3 := hs (w.heap.size) (by first | assumption | omega)); (try have t4 := hs (w.heap.size) (by first | assumption | omega)); (try have t5 := hs (w.heap.size) (by first | assumption | omega))) | (go_at_call 45; with_reducible refine Calls.mono (nothing0_c _) ?_; rintro e w3 ⟨rfl, hb⟩; have hc := hb.ccell; have hf := hb.frz; have hs := hb.sz; (try simp at hs); (try have t0 := hs (w.heap.size) (by first | assumption | omega)); (try have t1 := hs (w.heap.size + 1) (by first | assumption | omega)); (try have t2 := hs (w.heap.size + 1 + 1) (by first | assumption | omega)); (try have t3 := hs (w.heap.size) (by first | assumption | omega)); (try have t4 := hs (w.heap.size) (by first | assumption | omega)); (try have t5 := hs (w.heap.size) (by first | assumption | omega))))
    go_ret
    exact ⟨rfl, by (repeat (first | with_reducible exact Ext.rfl' _ | with_reducible assumption | with_reducible refine Ext.al ?_ _ | with_reducible refine Ext.dr ?_ | with_reducible refine Ext.st ?_ (by simp) _ | with_reducible refine Ext.tr ?_ (by assumption)))⟩
  obtain ⟨cn, rn, e1, e2, e3, e4, e5, e6, e7, e8⟩ := (chkG_ok (cbE_ok h0).2).nat
  have HSL := Lib.hid (fun w' (hw : Ext w w') => gslump_sm soils bos g cn rn w' AS AB A cS cB c (gw.ext hw) h0 e1 e2 (hA.ext hw))
  have HS2 := Lib.hid (fun L (sm : Slm soils bos g cn L) w' A2 c2 (hw : Ext w w') hr => gslump_again soils bos g cn rn L w' AS AB A2 cS cB c2 (gw.ext hw) sm e1 e2 hr)
  have HST := Lib.hid (fun L (sm : Slm soils bos g cn L) w' A2 c2 (hw : Ext w w') hr => gsteeps_none soils bos g cn L w' AS AB A2 cS cB c2 (gw.ext hw) sm hl e1 hr)
  have HSO := Lib.hid (fun w' (hw : Ext w w') => gsteeps_any soils bos h w' AS AB B cS cB d (gw.ext hw) hlB (hB.ext hw))
  have HSG := Lib.hid (fun L (hn : L.length = g.L.length) w' A2 A3 c2 c3 hr2 hr3 => sameGrid_self g L w' A2 A3 c2 c3 hl hn hr2 hr3)
  have HAK := Lib.hid (fun w' A2 c2 => alike_self g w' A2 A c2 c g.L.length g.L.length)
  have HAO := Lib.hid (fun w' => alike_c g h w' A B c d g.L.length h.L.length)
  have HKM := Lib.hid (fun k (hk : k < g.L.length) w' (hw : Ext w w') => known_c g k w' A c hk (hA.ext hw))
  have HKS := Lib.hid (fun L (sm : Slm soils bos g cn L) k (hk : k < g.L.length) w' A2 c2 hr => by have h := known_w g L k w' A2 c2 sm.len hk hr; rw [sm.kn] at h; exact h)
  have HKO := Lib.hid (fun k (hk : k < h.L.length) w' (hw : Ext w w') => known_c h k w' B d hk (hB.ext hw))
  have HRA := Lib.hid hA
  have HRB := Lib.hid hB
  have HV := Lib.hid (chkG_ok (cbE_ok h0).2)
  have HCN := Lib.hid e1
  clear hl hA hlB hB gw h0 e1 e2 e3 e4 e5 e6 e7 e8
  go_enter Try.func9, Try.ntmps9
  go_upto_region 10 with (first | (go_at_call 14; with_reducible refine Calls.mono (awake_c _) ?_; rintro e wa ⟨rfl, hb⟩; have hc := hb.ccell; have hf := hb.frz; have hs := hb.sz; (try simp at hs); (try have t0 := hs (w.heap.size) (by first | assumption | omega)); (try have t1 := hs (w.heap.size + 1) (by first | assumption | omega)); (try have t2 := hs (w.heap.size + 1 + 1) (by first | assumption | omega)); (try have t3 := hs (w.heap.size) (by first | assumption | omega)); (try have t4 := hs (w.heap.size) (by first | assumption | omega)); (try have t5 := hs (w.heap.size) (by first | assumption | omega))) | (go_at_call 15; with_reducible refine Calls.mono (HL.out _ (by (repeat (first | with_reducible exact Ext.rfl' _ | with_reducible assumption | with_reducible refine Ext.al ?_ _ | with_reducible refine Ext.dr ?_ | with_reducible refine Ext.st ?_ (by simp) _ | with_reducible refine Ext.tr ?_ (by assumption))))) ?_; rintro e ws ⟨rfl, hb⟩; have hc := hb.ccell; have hf := hb.frz; have hs := hb.sz; (try simp at hs); (try have t0 := hs (w.heap.size) (by first | assumption | omega)); (try have t1 := hs (w.heap.size + 1) (by first | assumption | omega)); (try have t2 := hs (w.heap.size + 1 + 1) (by first | assumption | omega)); (try have t3 := hs (w.heap.size) (by first | assumption | omega)); (try have t4 := hs (w.heap.size) (by first | assumption | omega)); (try have t5 := hs (w.heap.size) (by first | assumption | omega))) | (go_at_call 43; (with_reducible refine Calls.mono (HSL.out _ (by (repeat (first | with_reducible exact Ext.rfl' _ | with_reducible assumption | with_reducible refine Ext.al ?_ _ | with_reducible refine Ext.dr ?_ | with_reducible refine Ext.st ?_ (by simp) _ | with_reducible refine Ext.tr ?_ (by assumption))))) ?_); rintro e w2 ⟨⟨L, A2, c2, v, rfl, hR2, hv, sm⟩, hb⟩; have hc := hb.ccell; have hf := hb.frz; have hs := hb.sz; (try simp at hs); (try have t0 := hs (w.heap.size) (by first | assumption | omega)); (try have t1 := hs (w.heap.size + 1) (by first | assumption | omega)); (try have t2 := hs (w.heap.size + 1 + 1) (by first | assumption | omega)); (try have t3 := hs (w.heap.size) (by first | assumption | omega)); (try have t4 := hs (w.heap.size) (by first | assumption | omega)); (try have t5 := hs (w.heap.size) (by first | assumption | omega))) | (go_at_call 38; (with_reducible refine Calls.mono (HST.out L sm _ _ _ (by (repeat (first | with_reducible exact Ext.rfl' _ | with_reducible assumption | with_reducible refine Ext.al ?_ _ | with_reducible refine Ext.dr ?_ | with_reducible refine Ext.st ?_ (by simp) _ | with_reducible refine Ext.tr ?_ (by assumption)))) (hR2.ext (by (repeat (first | with_reducible exact Ext.rfl' _ | with_reducible assumption | with_reducible refine Ext.al ?_ _ | with_reducible refine Ext.dr ?_ | with_reducible refine Ext.st ?_ (by simp) _ | with_reducible refine Ext.tr ?_ (by assumption)))))) ?_); rintro e w3 ⟨⟨A3, c3, rfl⟩, hb⟩; have hc := hb.ccell; have hf := hb.frz; have hs := hb.sz; (try simp at hs); (try have t0 := hs (w.heap.size) (by first | assumption | omega)); (try have t1 := hs (w.heap.size + 1) (by first | assumption | omega)); (try have t2 := hs (w.heap.size + 1 + 1) (by first | assumption | omega)); (try have t3 := hs (w2.heap.size) (by first | assumption | omega)); (try have t4 := hs (w.heap.size) (by first | assumption | omega)); (try have t5 := hs (w.heap.size) (by first | assumption | omega))) | (go_at_call 43; (with_reducible refine Calls.mono (HS2.out L sm _ _ _ (by (repeat (first | with_reducible exact Ext.rfl' _ | with_reducible assumption | with_reducible refine Ext.al ?_ _ | with_reducible refine Ext.dr ?_ | with_reducible refine Ext.st ?_ (by simp) _ | with_reducible refine Ext.tr ?_ (by assumption)))) (hR2.ext (by (repeat (first | with_reducible exact Ext.rfl' _ | with_reducible assumption | with_reducible refine Ext.al ?_ _ | with_reducible refine Ext.dr ?_ | with_reducible refine Ext.st ?_ (by simp) _ | with_reducible refine Ext.tr ?_ (by assumption)))))) ?_); rintro e w4 ⟨⟨A4, c4, rfl, hR4⟩, hb⟩; have hc := hb.ccell; have hf := hb.frz; have hs := hb.sz; (try simp at hs); (try have t0 := hs (w.heap.size) (by first | assumption | omega)); (try have t1 := hs (w.heap.size + 1) (by first | assumption | omega)); (try have t2 := hs (w.heap.size + 1 + 1) (by first | assumption | omega)); (try have t3 := hs (w2.heap.size) (by first | assumption | omega)); (try have t4 := hs (w.heap.size) (by first | assumption | omega)); (try have t5 := hs (w.heap.size) (by first | assumption | omega))))
  refine wp_name (fun W hW => ?_)
  have hEW : Ext w W := by rw [hW]; (repeat (first | with_reducible exact Ext.rfl' _ | with_reducible assumption | with_reducible refine Ext.al ?_ _ | with_reducible refine Ext.dr ?_ | with_reducible refine Ext.st ?_ (by simp) _ | with_reducible refine Ext.tr ?_ (by assumption)))
  have hRS := Lib.hid (show Row 1 encZ W A2 L from hR2.ext (by rw [hW]; (repeat (first | with_reducible exact Ext.rfl' _ | with_reducible assumption | with_reducible refine Ext.al ?_ _ | with_reducible refine Ext.dr ?_ | with_reducible refine Ext.st ?_ (by simp) _ | with_reducible refine Ext.tr ?_ (by assumption)))))
  have hRT := Lib.hid (show Row 1 encZ W A4 L from hR4.ext (by rw [hW]; (repeat (first | with_reducible exact Ext.rfl' _ | with_reducible assumption | with_reducible refine Ext.al ?_ _ | with_reducible refine Ext.dr ?_ | with_reducible refine Ext.st ?_ (by simp) _ | with_reducible refine Ext.tr ?_ (by assumption)))))
  have r0 : W.cell? ⟨w.heap.size, 0, none⟩ = some (.slice AS soils.length cS) := by rw [hW]; simp [*, go_sem]
  have r1 : W.cell? ⟨w.heap.size, 1, none⟩ = some (.slice AB bos.length cB) := by rw [hW]; simp [*, go_sem]
  have km : CellsAt W (w.heap.size + 1) 0 [.int .i64 g.X, .int .i64 g.Y, .int .i64 g.S, .int .i64 g.C, .int .i64 g.R, .slice A g.L.length c] := by rw [hW]; refine cells_six ⟨?_, ?_, ?_, ?_, ?_, ?_⟩ <;> simp [*, go_sem]
  have ko : CellsAt W (w.heap.size + 1 + 1) 0 [.int .i64 h.X, .int .i64 h.Y, .int .i64 h.S, .int .i64 h.C, .int .i64 h.R, .slice B h.L.length d] := by rw [hW]; refine cells_six ⟨?_, ?_, ?_, ?_, ?_, ?_⟩ <;> simp [*, go_sem]
  have ks : CellsAt W w2.heap.size 0 [.int .i64 g.X, .int .i64 g.Y, .int .i64 g.S, .int .i64 g.C, .int .i64 g.R, .slice A2 g.L.length c2] := by rw [hW]; refine cells_six ⟨?_, ?_, ?_, ?_, ?_, ?_⟩ <;> simp [*, go_sem]
  have kt : CellsAt W w4.heap.size 0 [.int .i64 g.X, .int .i64 g.Y, .int .i64 g.S, .int .i64 g.C, .int .i64 g.R, .slice A4 g.L.length c4] := by rw [hW]; refine cells_six ⟨?_, ?_, ?_, ?_, ?_, ?_⟩ <;> simp [*, go_sem]
  have zs : w2.heap.size < W.heap.size := by rw [hW]; simp; omega
  have zt : w4.heap.size < W.heap.size := by rw [hW]; simp
  have zo : w.heap.size + 1 + 1 < W.heap.size := by rw [hW]; simp; omega
  have zm : w.heap.size + 1 < W.heap.size := by omega
  have zg : w.heap.size < W.heap.size := by omega
  have SM := Lib.hid sm
  clear hW hR2 hR4 sm hb hc hf hs t0 t1 t2 t3 t4 t5
  generalize w2.heap.size = ns at *
  generalize w4.heap.size = nt at *
  obtain ⟨m0, m1, m2, m3, m4, m5⟩ := km.six
  obtain ⟨s0, s1, s2, s3, s4, s5⟩ := ks.six
  obtain ⟨q0, q1, q2, q3, q4, q5⟩ := kt.six
  go_wp2_with (first | (go_at_call 48; with_reducible refine Calls.mono (HSG.out L SM.out.len _ _ _ _ _ (hRS.out.ext (by (repeat (first | with_reducible exact Ext.rfl' _ | with_reducible assumption | with_reducible refine Ext.al ?_ _ | with_reducible refine Ext.dr ?_ | with_reducible refine Ext.st ?_ (by simp) _ | with_reducible refine Ext.tr ?_ (by assumption))))) (hRT.out.ext (by (repeat (first | with_reducible exact Ext.rfl' _ | with_reducible assumption | with_reducible refine Ext.al ?_ _ | with_reducible refine Ext.dr ?_ | with_reducible refine Ext.st ?_ (by simp) _ | with_reducible refine Ext.tr ?_ (by assumption)))))) ?_; rintro e w5 ⟨rfl, hb⟩; have hc := hb.ccell; have hf := hb.frz; have hs := hb.sz; (try simp at hs); (try have t0 := hs (w.heap.size) (by first | assumption | omega)); (try have t1 := hs (w.heap.size + 1) (by first | assumption | omega)); (try have t2 := hs (w.heap.size + 1 + 1) (by first | assumption | omega)); (try have t3 := hs (ns) (by first | assumption | omega)); (try have t4 := hs (nt) (by first | assumption | omega)); (try have t5 := hs (w.heap.size) (by first | assumption | omega))) | (go_at_call 50; with_reducible refine Calls.mono (HAK.out _ _ _) ?_; rintro e w6 ⟨rfl, hb⟩; have hc := hb.ccell; have hf := hb.frz; have hs := hb.sz; (try simp at hs); (try have t0 := hs (w.heap.size) (by first | assumption | omega)); (try have t1 := hs (w.heap.size + 1) (by first | assumption | omega)); (try have t2 := hs (w.heap.size + 1 + 1) (by first | assumption | omega)); (try have t3 := hs (ns) (by first | assumption | omega)); (try have t4 := hs (nt) (by first | assumption | omega)); (try have t5 := hs (w.heap.size) (by first | assumption | omega))))
  have hE6 : Ext W w6 := by (repeat (first | with_reducible exact Ext.rfl' _ | with_reducible assumption | with_reducible refine Ext.al ?_ _ | with_reducible refine Ext.dr ?_ | with_reducible refine Ext.st ?_ (by simp) _ | with_reducible refine Ext.tr ?_ (by assumption)))
  clear m0 m1 m2 m3 m4 m5 s0 s1 s2 s3 s4 s5 q0 q1 q2 q3 q4 q5 hb hc hf hs t0 t1 t2 t3 t4 t5 hRT kt zt HSG HAK HS2 HST HSL
  go_loopw [15] (fun i wr => Ext W wr ∧ ∃ k : Nat, k ≤ g.L.length ∧ i = .int .i64 k) (fun i _ => g.L.length - (intOf i).toNat)
  case atStart => exact ⟨hE6, 0, Nat.zero_le _, rfl⟩
  case round =>
    clear hE6
    obtain ⟨hE, k, hk, rfl⟩ := hrel
    have hEr := hEW.tr hE
    obtain ⟨m0, m1, m2, m3, m4, m5⟩ := (km.ext hE zm).six
    obtain ⟨s0, s1, s2, s3, s4, s5⟩ := (ks.ext hE zs).six
    obtain ⟨o0, o1, o2, o3, o4, o5⟩ := (ko.ext hE zo).six
    have g0 := (hE.ccell _ 0 zg).trans r0
    have g1 := (hE.ccell _ 1 zg).trans r1
    have y0 := hE.sz _ zg
    have y1 := hE.sz _ zm
    have y2 := hE.sz _ zo
    have y3 := hE.sz _ zs
    by_cases hlt : k < g.L.length
    · obtain ⟨bA, oA, rfl, hbA, hcA⟩ := HRA.out.p1 hlt
      obtain ⟨bS, oS, rfl, hbS, hcS⟩ := hRS.out.p1 (k := k) (by rw [SM.out.len]; exact hlt)
      have xa := hcA _ hEr
      have xs := hcS _ hE
      rw [← gi_lt] at xa xs
      have za := hEr.sz _ hbA
      have zb := hE.sz _ hbS
      have hle := SM.out.le k
      have hni : ¬ (gi g.L k < gi L k) := by omega
      have HK1 := Lib.hid (fun w' (hw : Ext wr w') => HKM.out k hlt w' (hEr.tr hw))
      have HK2 := Lib.hid (fun w' (hw : Ext wr w') => HKS.out L SM.out k hlt w' _ c2 (hRS.out.ext (hE.tr hw)))
      have hki : (k : Int) < (g.L.length : Int) := by omega
      clear hcA hcS hle
      generalize gi g.L k = la at *
      generalize gi L k = ls at *
      generalize knB g.L k = bb at *
      have hbb : (bb != bb) = false := by simp
      go_upto_region 15 with fail
      refine region_grow (by kernel_rfl) (by kernel_rfl) ?_
      repeat (first | go_big_quiet_step (first | (go_at_call 51; with_reducible exact callsGrow (HK1.out _ (Grow.ok _))) | (go_at_call 51; with_reducible exact callsGrow (HK2.out _ (Grow.ok _))) | fail) | quiet_step (first | (go_at_call 51; with_reducible exact callsGrow (HK1.out _ (Grow.ok _))) | (go_at_call 51; with_reducible exact callsGrow (HK2.out _ (Grow.ok _))) | fail))
      refine wpQuiet_nil ?_
      intro w1 hb
      have hc := hb.ccell
      have hf := hb.frz
      have hs := hb.sz
      (try simp at hs); (try have hs0 := hs w.heap.size (by omega)); (try have hs1 := hs (w.heap.size + 1) (by omega)); (try have hs2 := hs (w.heap.size + 1 + 1) (by omega)); (try have hs3 := hs (w.heap.size + 1 + 1 + 1) (by omega))
      (try simp only [IntWalk.i64_left])
      have hE1 : Ext wr w1 := by assumption
      go_wp2
      exact ⟨⟨hE.tr hE1, k + 1, by omega, by go_num⟩, by simp [intOf]; omega⟩
    · clear hk
      by_cases hEO : cbE soils bos h = 0
      case neg =>
        have hEO' : (cbE soils bos h != 0) = true := by simp [hEO]
        clear hEO
        generalize cbE soils bos h = E at *
        go_wp2_with (first | (go_at_call 38; (with_reducible refine Calls.mono (HSO.out _ (by (repeat (first | with_reducible exact Ext.rfl' _ | with_reducible assumption | with_reducible refine Ext.al ?_ _ | with_reducible refine Ext.dr ?_ | with_reducible refine Ext.st ?_ (by simp) _ | with_reducible refine Ext.tr ?_ (by assumption))))) ?_); rintro e w7 ⟨⟨A7, c7, rfl, hR7⟩, hb⟩; have hc := hb.ccell; have hf := hb.frz; have hs := hb.sz; (try simp at hs); (try have t0 := hs (w.heap.size) (by first | assumption | omega)); (try have t1 := hs (w.heap.size + 1) (by first | assumption | omega)); (try have t2 := hs (w.heap.size + 1 + 1) (by first | assumption | omega)); (try have t3 := hs (ns) (by first | assumption | omega)); (try have t4 := hs (w.heap.size) (by first | assumption | omega)); (try have t5 := hs (w.heap.size) (by first | assumption | omega))))
        go_ret
        exact ⟨rfl, hEr.tr (by (repeat (first | with_reducible exact Ext.rfl' _ | with_reducible assumption | with_reducible refine Ext.al ?_ _ | with_reducible refine Ext.dr ?_ | with_reducible refine Ext.st ?_ (by simp) _ | with_reducible refine Ext.tr ?_ (by assumption))))⟩
      rw [hEO] at HSO
      by_cases hst : stA soils bos h = []
      case neg =>
        have hp0 : 0 < (stA soils bos h).length := List.length_pos_iff.2 hst
        have hp1 : (0 : Int) < ((stA soils bos h).length : Int) := by omega
        clear hst
        generalize stA soils bos h = SL at *
        go_wp2_with (first | (go_at_call 38; (with_reducible refine Calls.mono (HSO.out _ (by (repeat (first | with_reducible exact Ext.rfl' _ | with_reducible assumption | with_reducible refine Ext.al ?_ _ | with_reducible refine Ext.dr ?_ | with_reducible refine Ext.st ?_ (by simp) _ | with_reducible refine Ext.tr ?_ (by assumption))))) ?_); rintro e w7 ⟨⟨A7, c7, rfl, hR7⟩, hb⟩; have hc := hb.ccell; have hf := hb.frz; have hs := hb.sz; (try simp at hs); (try have t0 := hs (w.heap.size) (by first | assumption | omega)); (try have t1 := hs (w.heap.size + 1) (by first | assumption | omega)); (try have t2 := hs (w.heap.size + 1 + 1) (by first | assumption | omega)); (try have t3 := hs (ns) (by first | assumption | omega)); (try have t4 := hs (w.heap.size) (by first | assumption | omega)); (try have t5 := hs (w.heap.size) (by first | assumption | omega))))
        go_ret
        exact ⟨rfl, hEr.tr (by (repeat (first | with_reducible exact Ext.rfl' _ | with_reducible assumption | with_reducible refine Ext.al ?_ _ | with_reducible refine Ext.dr ?_ | with_reducible refine Ext.st ?_ (by simp) _ | with_reducible refine Ext.tr ?_ (by assumption))))⟩
      rw [hst] at HSO
      cases hsg : sameB g h
      · rw [hsg] at HAO
        clear hst hsg hEO
        go_wp2_with (first | (go_at_call 38; (with_reducible refine Calls.mono (HSO.out _ (by (repeat (first | with_reducible exact Ext.rfl' _ | with_reducible assumption | with_reducible refine Ext.al ?_ _ | with_reducible refine Ext.dr ?_ | with_reducible refine Ext.st ?_ (by simp) _ | with_reducible refine Ext.tr ?_ (by assumption))))) ?_); rintro e w7 ⟨⟨A7, c7, rfl, hR7⟩, hb⟩; have hc := hb.ccell; have hf := hb.frz; have hs := hb.sz; (try simp at hs); (try have t0 := hs (w.heap.size) (by first | assumption | omega)); (try have t1 := hs (w.heap.size + 1) (by first | assumption | omega)); (try have t2 := hs (w.heap.size + 1 + 1) (by first | assumption | omega)); (try have t3 := hs (ns) (by first | assumption | omega)); (try have t4 := hs (w.heap.size) (by first | assumption | omega)); (try have t5 := hs (w.heap.size) (by first | assumption | omega))) | (go_at_call 50; with_reducible refine Calls.mono (HAO.out _) ?_; rintro e w8 ⟨rfl, hb⟩; have hc := hb.ccell; have hf := hb.frz; have hs := hb.sz; (try simp at hs); (try have t0 := hs (w.heap.size) (by first | assumption | omega)); (try have t1 := hs (w.heap.size + 1) (by first | assumption | omega)); (try have t2 := hs (w.heap.size + 1 + 1) (by first | assumption | omega)); (try have t3 := hs (ns) (by first | assumption | omega)); (try have t4 := hs (w.heap.size) (by first | assumption | omega)); (try have t5 := hs (w.heap.size) (by first | assumption | omega))))
        go_ret
        exact ⟨rfl, hEr.tr (by (repeat (first | with_reducible exact Ext.rfl' _ | with_reducible assumption | with_reducible refine Ext.al ?_ _ | with_reducible refine Ext.dr ?_ | with_reducible refine Ext.st ?_ (by simp) _ | with_reducible refine Ext.tr ?_ (by assumption))))⟩
      rw [hsg] at HAO
      have vh := chkG_ok (cbE_ok hEO).2
      have hML : h.L.length = g.L.length := by
        have h1 := vh.len
        have h2 := HV.out.len
        obtain ⟨_, _, _, h6, h7⟩ := (sameB_iff g h).1 hsg
        rw [← h6, ← h7, ← h2] at h1
        omega
      have HBA : Hid ((∀ j, j < g.L.length → knB g.L j = knB h.L j ∧ gi h.L j ≤ gi g.L j) → ∀ i, gi h.L i ≤ gi L i) := Lib.hid (fun hj i => by
        have hw9 := same_withL hsg
        have h1 : stL6 soils bos h cn = [] := by
          have h2 := hst
          unfold stA at h2
          rw [if_pos hEO] at h2
          have h3 : h.C.toNat = cn := by
            obtain ⟨_, _, _, h6, _⟩ := (sameB_iff g h).1 hsg
            have := HCN.out
            omega
          rw [h3] at h2
          exact h2
        rw [hw9] at h1
        exact below_all SM.out hML h1 hj i)
      have HML := Lib.hid hML
      clear hst hsg hEO vh hML
      obtain ⟨wq, hwq⟩ : ∃ x, x = wr := ⟨_, rfl⟩
      subst hwq
      go_wp2_with (first | (go_at_call 38; (with_reducible refine Calls.mono (HSO.out _ (by (repeat (first | with_reducible exact Ext.rfl' _ | with_reducible assumption | with_reducible refine Ext.al ?_ _ | with_reducible refine Ext.dr ?_ | with_reducible refine Ext.st ?_ (by simp) _ | with_reducible refine Ext.tr ?_ (by assumption))))) ?_); rintro e w7 ⟨⟨A7, c7, rfl, hR7⟩, hb⟩; have hc := hb.ccell; have hf := hb.frz; have hs := hb.sz; (try simp at hs); (try have t0 := hs (w.heap.size) (by first | assumption | omega)); (try have t1 := hs (w.heap.size + 1) (by first | assumption | omega)); (try have t2 := hs (w.heap.size + 1 + 1) (by first | assumption | omega)); (try have t3 := hs (ns) (by first | assumption | omega)); (try have t4 := hs (w.heap.size) (by first | assumption | omega)); (try have t5 := hs (w.heap.size) (by first | assumption | omega))) | (go_at_call 50; with_reducible refine Calls.mono (HAO.out _) ?_; rintro e w8 ⟨rfl, hb⟩; have hc := hb.ccell; have hf := hb.frz; have hs := hb.sz; (try simp at hs); (try have t0 := hs (w.heap.size) (by first | assumption | omega)); (try have t1 := hs (w.heap.size + 1) (by first | assumption | omega)); (try have t2 := hs (w.heap.size + 1 + 1) (by first | assumption | omega)); (try have t3 := hs (ns) (by first | assumption | omega)); (try have t4 := hs (w.heap.size) (by first | assumption | omega)); (try have t5 := hs (w.heap.size) (by first | assumption | omega))))
      have hE8 : Ext wq w8 := by (repeat (first | with_reducible exact Ext.rfl' _ | with_reducible assumption | with_reducible refine Ext.al ?_ _ | with_reducible refine Ext.dr ?_ | with_reducible refine Ext.st ?_ (by simp) _ | with_reducible refine Ext.tr ?_ (by assumption)))
      have hE9 := hE.tr hE8
      clear m0 m1 m2 m3 m4 m5 s0 s1 s2 s3 s4 s5 o0 o1 o2 o3 o4 o5 g0 g1 y0 y1 y2 y3 hE hEr hb hc hf hs t0 t1 t2 t3 t4 t5 hE8 hR7 HSO HAO hlt
      go_loopw [17] (fun i wr => Ext W wr ∧ ∃ k : Nat, k ≤ g.L.length ∧ i = .int .i64 k ∧ Hid (∀ j, j < k → knB g.L j = knB h.L j ∧ gi h.L j ≤ gi g.L j)) (fun i _ => g.L.length - (intOf i).toNat)
      case atStart => exact ⟨hE9, 0, Nat.zero_le _, rfl, Lib.hid (fun j hj => absurd hj (Nat.not_lt_zero _))⟩
      case round =>
        clear hE9
        obtain ⟨hE, k, hk, rfl, hJ⟩ := hrel
        have hEr := hEW.tr hE
        obtain ⟨m0, m1, m2, m3, m4, m5⟩ := (km.ext hE zm).six
        obtain ⟨s0, s1, s2, s3, s4, s5⟩ := (ks.ext hE zs).six
        obtain ⟨o0, o1, o2, o3, o4, o5⟩ := (ko.ext hE zo).six
        have y1 := hE.sz _ zm
        have y2 := hE.sz _ zo
        have y3 := hE.sz _ zs
        by_cases hlt : k < g.L.length
        · have hlh : k < h.L.length := by rw [HML.out]; exact hlt
          obtain ⟨bA, oA, rfl, hbA, hcA⟩ := HRA.out.p1 hlt
          obtain ⟨bB, oB, rfl, hbB, hcB⟩ := HRB.out.p1 hlh
          have xa := hcA _ hEr
          have xb := hcB _ hEr
          rw [← gi_lt] at xa xb
          have za := hEr.sz _ hbA
          have zb := hEr.sz _ hbB
          have HK1 := Lib.hid (fun w' (hw : Ext wr w') => HKM.out k hlt w' (hEr.tr hw))
          have HK2 := Lib.hid (fun w' (hw : Ext wr w') => HKO.out k hlh w' (hEr.tr hw))
          have hki : (k : Int) < (g.L.length : Int) := by omega
          have hki' : (k : Int) < (h.L.length : Int) := by omega
          have HJ2 : Hid (knB g.L k = knB h.L k ∧ gi h.L k ≤ gi g.L k → ∀ j, j < k + 1 → knB g.L j = knB h.L j ∧ gi h.L j ≤ gi g.L j) := Lib.hid (fun h1 j hj => by
            by_cases hjk : j = k
            · subst hjk; exact h1
            · exact hJ.out j (by omega))
          clear hcA hcB
          generalize gi g.L k = la at *
          generalize gi h.L k = lb at *
          generalize knB g.L k = b1 at *
          generalize knB h.L k = b2 at *
          by_cases hbb : b1 = b2
          · subst hbb
            have hb1 : (b1 != b1) = false := by simp
            by_cases hgt : la < lb
            · go_upto_region 23 with fail
              refine region_grow (by kernel_rfl) (by kernel_rfl) ?_
              repeat (first | go_big_quiet_step (first | (go_at_call 51; with_reducible exact callsGrow (HK1.out _ (Grow.ok _))) | (go_at_call 51; with_reducible exact callsGrow (HK2.out _ (Grow.ok _))) | fail) | quiet_step (first | (go_at_call 51; with_reducible exact callsGrow (HK1.out _ (Grow.ok _))) | (go_at_call 51; with_reducible exact callsGrow (HK2.out _ (Grow.ok _))) | fail))
              refine wpQuiet_nil ?_
              intro w1 hb
              have hc := hb.ccell
              have hf := hb.frz
              have hs := hb.sz
              (try simp at hs); (try have hs0 := hs w.heap.size (by omega)); (try have hs1 := hs (w.heap.size + 1) (by omega)); (try have hs2 := hs (w.heap.size + 1 + 1) (by omega)); (try have hs3 := hs (w.heap.size + 1 + 1 + 1) (by omega))
              (try simp only [IntWalk.i64_left])
              have hE1 : Ext wr w1 := by assumption
              go_wp2
              go_ret
              exact ⟨rfl, hEr.tr hE1⟩
            · go_upto_region 23 with fail
              refine region_grow (by kernel_rfl) (by kernel_rfl) ?_
              repeat (first | go_big_quiet_step (first | (go_at_call 51; with_reducible exact callsGrow (HK1.out _ (Grow.ok _))) | (go_at_call 51; with_reducible exact callsGrow (HK2.out _ (Grow.ok _))) | fail) | quiet_step (first | (go_at_call 51; with_reducible exact callsGrow (HK1.out _ (Grow.ok _))) | (go_at_call 51; with_reducible exact callsGrow (HK2.out _ (Grow.ok _))) | fail))
              refine wpQuiet_nil ?_
              intro w1 hb
              have hc := hb.ccell
              have hf := hb.frz
              have hs := hb.sz
              (try simp at hs); (try have hs0 := hs w.heap.size (by omega)); (try have hs1 := hs (w.heap.size + 1) (by omega)); (try have hs2 := hs (w.heap.size + 1 + 1) (by omega)); (try have hs3 := hs (w.heap.size + 1 + 1 + 1) (by omega))
              (try simp only [IntWalk.i64_left])
              have hE1 : Ext wr w1 := by assumption
              go_wp2
              exact ⟨⟨hE.tr hE1, k + 1, by omega, by go_num, Lib.hid (HJ2.out ⟨rfl, by omega⟩)⟩, by simp [intOf]; omega⟩
          · have h12 : (b1 = true ∧ b2 = false) ∨ (b1 = false ∧ b2 = true) := by cases b1 <;> cases b2 <;> simp at hbb ⊢
            clear hbb HJ2
            rcases h12 with ⟨rfl, rfl⟩ | ⟨rfl, rfl⟩
            all_goals
              go_upto_region 23 with fail
              refine region_grow (by kernel_rfl) (by kernel_rfl) ?_
              repeat (first | go_big_quiet_step (first | (go_at_call 51; with_reducible exact callsGrow (HK1.out _ (Grow.ok _))) | (go_at_call 51; with_reducible exact callsGrow (HK2.out _ (Grow.ok _))) | fail) | quiet_step (first | (go_at_call 51; with_reducible exact callsGrow (HK1.out _ (Grow.ok _))) | (go_at_call 51; with_reducible exact callsGrow (HK2.out _ (Grow.ok _))) | fail))
              refine wpQuiet_nil ?_
              intro w1 hb
              have hc := hb.ccell
              have hf := hb.frz
              have hs := hb.sz
              (try simp at hs); (try have hs0 := hs w.heap.size (by omega)); (try have hs1 := hs (w.heap.size + 1) (by omega)); (try have hs2 := hs (w.heap.size + 1 + 1) (by omega)); (try have hs3 := hs (w.heap.size + 1 + 1 + 1) (by omega))
              (try simp only [IntWalk.i64_left])
              have hE1 : Ext wr w1 := by assumption
              go_wp2
              go_ret
              exact ⟨rfl, hEr.tr hE1⟩
        · have HTP := Lib.hid (HBA.out (fun j hj => hJ.out j (by omega)))
          clear hk HBA hJ
          obtain ⟨wq2, hwq⟩ : ∃ x, x = wr := ⟨_, rfl⟩
          subst hwq
          go_wp2
          clear m0 m1 m2 m3 m4 m5 s0 s1 s2 s3 s4 s5 o0 o1 o2 o3 o4 o5 y1 y2 y3 hEr hlt
          go_loopw [18] (fun i wr => Ext W wr ∧ ∃ k : Nat, k ≤ g.L.length ∧ i = .int .i64 k) (fun i _ => g.L.length - (intOf i).toNat)
          case atStart => exact ⟨hE, 0, Nat.zero_le _, rfl⟩
          case round =>
            clear hE
            obtain ⟨hE, k, hk, rfl⟩ := hrel
            have hEr := hEW.tr hE
            obtain ⟨m0, m1, m2, m3, m4, m5⟩ := (km.ext hE zm).six
            obtain ⟨s0, s1, s2, s3, s4, s5⟩ := (ks.ext hE zs).six
            obtain ⟨o0, o1, o2, o3, o4, o5⟩ := (ko.ext hE zo).six
            have y1 := hE.sz _ zm
            have y2 := hE.sz _ zo
            have y3 := hE.sz _ zs
            by_cases hlt : k < g.L.length
            · have hlh : k < h.L.length := by rw [HML.out]; exact hlt
              obtain ⟨bS, oS, rfl, hbS, hcS⟩ := hRS.out.p1 (k := k) (by rw [SM.out.len]; exact hlt)
              obtain ⟨bB, oB, rfl, hbB, hcB⟩ := HRB.out.p1 hlh
              have xs := hcS _ hE
              have xb := hcB _ hEr
              rw [← gi_lt] at xs xb
              have za := hE.sz _ hbS
              have zb := hEr.sz _ hbB
              have hki : (k : Int) < (g.L.length : Int) := by omega
              have hki' : (k : Int) < (h.L.length : Int) := by omega
              have hle := HTP.out k
              have hni : ¬ (gi L k < gi h.L k) := by omega
              clear hcS hcB hle
              generalize gi L k = la at *
              generalize gi h.L k = lb at *
              go_upto_region 28 with fail
              refine region_grow (by kernel_rfl) (by kernel_rfl) ?_
              repeat (first | go_big_quiet_step (first  | fail) | quiet_step (first  | fail))
              refine wpQuiet_nil ?_
              intro w1 hb
              have hc := hb.ccell
              have hf := hb.frz
              have hs := hb.sz
              (try simp at hs); (try have hs0 := hs w.heap.size (by omega)); (try have hs1 := hs (w.heap.size + 1) (by omega)); (try have hs2 := hs (w.heap.size + 1 + 1) (by omega)); (try have hs3 := hs (w.heap.size + 1 + 1 + 1) (by omega))
              (try simp only [IntWalk.i64_left])
              have hE1 : Ext wr w1 := by assumption
              go_wp2
              exact ⟨⟨hE.tr hE1, k + 1, by omega, by go_num⟩, by simp [intOf]; omega⟩
            · go_wp2
              go_ret
              exact ⟨rfl, hEr⟩
end Go.Proofs.Ytohdplnlbnoojaa

/- The contracts of join, of Latest and of Shoalest. -/
import Derived.Test.YtgnakeemcccfjaaBjoin
import Derived.Test.YtgnakeemcccfjaaBwith2
import Derived.Test.YtgnakeemcccfjaaBblank
namespace Go.Proofs.Ytgnakeemcccfjaa
open Go Go.RowKit Go.IntWalk

set_option maxHeartbeats 4000000 in
theorem joinL_err_c (g h : Gr) (w : World) (A B : Option Addr) (c d : Nat) (hl : g.L.length ≤ maxLen) (hm : h.L.length ≤ maxLen) (hA : Row 1 encZ w A g.L) (hB : Row 1 encZ w B h.L) (h0 : twoE g h ≠ 0) :
    Calls Try.prog 84 #[.agg #[.int .i64 g.X, .int .i64 g.Y, .int .i64 g.S, .int .i64 g.C, .int .i64 g.R, .slice A g.L.length c], .agg #[.int .i64 h.X, .int .i64 h.Y, .int .i64 h.S, .int .i64 h.C, .int .i64 h.R, .slice B h.L.length d], (.func (.func 85) #[] #[])] w fun e w' => e = .returned (.tuple #[.agg #[.int .i64 0, .int .i64 0, .int .i64 0, .int .i64 0, .int .i64 0, .slice none 0 0], .int .i64 (twoE g h)]) ∧ Ext w w' := by
  have HC := Lib.hid (fun w' (hw : Ext w w') => checkTwo_c g h w' A B c d hl hm (hA.ext hw) (hB.ext hw))
  have h0' : (twoE g h != 0) = true := by rw [bne_iff_ne]; exact h0
  generalize twoE g h = E at *
  clear h0 hl hm hA hB
  go_enter Try.func84, Try.ntmps84
  go_wp2_with (first | (go_at_call 87; with_reducible refine Calls.mono (HC.out _ (by (repeat (first | with_reducible exact Ext.rfl' _ | with_reducible assumption | with_reducible refine Ext.al ?_ _ | with_reducible refine Ext.dr ?_ | with_reducible refine Ext.st ?_ (by simp) _ | with_reducible refine Ext.tr ?_ (by assumption))))) ?_; rintro e w1 ⟨rfl, hb⟩; have hc := hb.ccell; have hf := hb.frz; have hs := hb.sz; (try simp at hs); (try have t0 := hs (w.heap.size) (by first | assumption | omega)); (try have t1 := hs (w.heap.size + 1) (by first | assumption | omega)); (try have t2 := hs (w.heap.size + 1 + 1) (by first | assumption | omega)); (try have t3 := hs (w.heap.size + 1 + 1 + 1) (by first | assumption | omega)); (try have t4 := hs (w.heap.size) (by first | assumption | omega)); (try have t5 := hs (w.heap.size) (by first | assumption | omega))))
  have hE2 : Ext w w1 := by (repeat (first | with_reducible exact Ext.rfl' _ | with_reducible assumption | with_reducible refine Ext.al ?_ _ | with_reducible refine Ext.dr ?_ | with_reducible refine Ext.st ?_ (by simp) _ | with_reducible refine Ext.tr ?_ (by assumption)))
  have kz : CellsAt w1 (w.heap.size + 1 + 1 + 1) 0 [.int .i64 0, .int .i64 0, .int .i64 0, .int .i64 0, .int .i64 0, .slice none 0 0] := by refine cells_six ⟨?_, ?_, ?_, ?_, ?_, ?_⟩ <;> simp [*, go_sem]
  have hSL := stL_at (w.heap.size + 1 + 1 + 1) [.int .i64 0, .int .i64 0, .int .i64 0, .int .i64 0, .int .i64 0, .slice none 0 0] _ 0 _ kz rfl
  have hXL := stL_ext (w.heap.size + 1 + 1 + 1) (by first | omega | (simp; done) | (simp; omega)) [.int .i64 0, .int .i64 0, .int .i64 0, .int .i64 0, .int .i64 0, .slice none 0 0] 0 _ hE2
  show bodyPost _ _ _ _ _ (stL (w1) (w.heap.size + 1 + 1 + 1) 0 [.int .i64 0, .int .i64 0, .int .i64 0, .int .i64 0, .int .i64 0, .slice none 0 0])
  generalize stL (w1) (w.heap.size + 1 + 1 + 1) 0 [.int .i64 0, .int .i64 0, .int .i64 0, .int .i64 0, .int .i64 0, .slice none 0 0] = WL at *
  obtain ⟨s0, s1, s2, s3, s4, s5⟩ := hSL.six
  refine bodyPost_ret (v := .tuple #[.agg #[.int .i64 0, .int .i64 0, .int .i64 0, .int .i64 0, .int .i64 0, .slice none 0 0], .int .i64 E]) (by simp [results, Try.results84, go_sem, s0, s1, s2, s3, s4, s5]) rfl ⟨rfl, hXL⟩
set_option maxHeartbeats 4000000 in
theorem joinL_ok_c (g h : Gr) (w : World) (A B : Option Addr) (c d : Nat) (hA : Row 1 encZ w A g.L) (hB : Row 1 encZ w B h.L) (h0 : twoE g h = 0) :
    Calls Try.prog 84 #[.agg #[.int .i64 g.X, .int .i64 g.Y, .int .i64 g.S, .int .i64 g.C, .int .i64 g.R, .slice A g.L.length c], .agg #[.int .i64 h.X, .int .i64 h.Y, .int .i64 h.S, .int .i64 h.C, .int .i64 h.R, .slice B h.L.length d], (.func (.func 85) #[] #[])] w fun e w' => OutGE w.heap.size (reL g (joF opL g h)) e w' ∧ Ext w w' := by
  obtain ⟨v, v2, hfr, hlen⟩ := twoE_ok h0
  have hn : g.L.length ≤ 1024 := by have h1 := v.len; have h2 := v.hn; omega
  have HC := Lib.hid (fun w' (hw : Ext w w') => by have h := checkTwo_c g h w' A B c d (by unfold maxLen; omega) (by unfold maxLen; omega) (hA.ext hw) (hB.ext hw); rw [h0] at h; exact h)
  have HWL := Lib.hid (fun p q r w' (hw : Ext w w') (hp : BoxG w' p g A c) (hq : BoxG w' q h B d) (hr : w'.cell? ⟨r, 0, none⟩ = some (.func (.func 85) #[] #[])) (hrz : r < w'.heap.size) => withJoin_c g (joF opL g h) p q r w' A c (by omega) (fun k hk w'' hx => join1L_c g h k p q r w'' A B c d hk (by omega) (by omega) (by omega) (hA.ext (hw.tr hx)) (hB.ext (hw.tr hx)) (hp.ext hx) (hq.ext hx) ((hx.ccell _ _ hrz).trans hr) (hx.sz _ hrz)))
  clear v v2 h0 hlen hfr hA hB
  go_enter Try.func84, Try.ntmps84
  go_upto_region 4 with (first | (go_at_call 87; with_reducible refine Calls.mono (HC.out _ (by (repeat (first | with_reducible exact Ext.rfl' _ | with_reducible assumption | with_reducible refine Ext.al ?_ _ | with_reducible refine Ext.dr ?_ | with_reducible refine Ext.st ?_ (by simp) _ | with_reducible refine Ext.tr ?_ (by assumption))))) ?_; rintro e w1 ⟨rfl, hb⟩; have hc := hb.ccell; have hf := hb.frz; have hs := hb.sz; (try simp at hs); (try have t0 := hs (w.heap.size) (by first | assumption | omega)); (try have t1 := hs (w.heap.size + 1) (by first | assumption | omega)); (try have t2 := hs (w.heap.size + 1 + 1) (by first | assumption | omega)); (try have t3 := hs (w.heap.size + 1 + 1 + 1) (by first | assumption | omega)); (try have t4 := hs (w.heap.size) (by first | assumption | omega)); (try have t5 := hs (w.heap.size) (by first | assumption | omega))))
  have hE1 : Ext w w1 := by (repeat (first | with_reducible exact Ext.rfl' _ | with_reducible assumption | with_reducible refine Ext.al ?_ _ | with_reducible refine Ext.dr ?_ | with_reducible refine Ext.st ?_ (by simp) _ | with_reducible refine Ext.tr ?_ (by assumption)))
  have kp : BoxG w1 w.heap.size g A c := by refine ⟨by assumption, cells_six ⟨?_, ?_, ?_, ?_, ?_, ?_⟩⟩ <;> simp [*, go_sem]
  have kq : BoxG w1 (w.heap.size + 1) h B d := by refine ⟨by assumption, cells_six ⟨?_, ?_, ?_, ?_, ?_, ?_⟩⟩ <;> simp [*, go_sem]
  have kr : w1.cell? ⟨w.heap.size + 1 + 1, 0, none⟩ = some (.func (.func 85) #[] #[]) := by simp [*, go_sem]
  have HW := Lib.hid (HWL.out _ _ _ w1 hE1 kp kq kr (by assumption))
  clear HWL kp kq kr HC
  go_wp2_with (first | (go_at_call 69; (with_reducible refine Calls.mono (HW.out) ?_); rintro e w2 ⟨⟨A2, c2, rfl, hN⟩, hb⟩; have hc := hb.ccell; have hf := hb.frz; have hs := hb.sz; (try simp at hs); (try have t0 := hs (w.heap.size) (by first | assumption | omega)); (try have t1 := hs (w.heap.size + 1) (by first | assumption | omega)); (try have t2 := hs (w.heap.size + 1 + 1) (by first | assumption | omega)); (try have t3 := hs (w.heap.size + 1 + 1 + 1) (by first | assumption | omega)); (try have t4 := hs (w.heap.size) (by first | assumption | omega)); (try have t5 := hs (w.heap.size) (by first | assumption | omega))))
  have hE2 : Ext w w2 := by (repeat (first | with_reducible exact Ext.rfl' _ | with_reducible assumption | with_reducible refine Ext.al ?_ _ | with_reducible refine Ext.dr ?_ | with_reducible refine Ext.st ?_ (by simp) _ | with_reducible refine Ext.tr ?_ (by assumption)))
  have kz : CellsAt w2 (w.heap.size + 1 + 1 + 1) 0 [.int .i64 0, .int .i64 0, .int .i64 0, .int .i64 0, .int .i64 0, .slice none 0 0] := by refine cells_six ⟨?_, ?_, ?_, ?_, ?_, ?_⟩ <;> simp [*, go_sem]
  have hz1 : w.heap.size + 1 + 1 + 1 < w1.heap.size := by assumption
  have hN2 := (hN.stL (b := w.heap.size + 1 + 1 + 1) hz1 0 [.int .i64 (reL g (joF opL g h)).X, .int .i64 (reL g (joF opL g h)).Y, .int .i64 (reL g (joF opL g h)).S, .int .i64 (reL g (joF opL g h)).C, .int .i64 (reL g (joF opL g h)).R, .slice A2 (reL g (joF opL g h)).L.length c2]).mono (base' := w.heap.size) (by omega)
  clear hN hc hf hs hb
  have hSL := stL_at (w.heap.size + 1 + 1 + 1) [.int .i64 (reL g (joF opL g h)).X, .int .i64 (reL g (joF opL g h)).Y, .int .i64 (reL g (joF opL g h)).S, .int .i64 (reL g (joF opL g h)).C, .int .i64 (reL g (joF opL g h)).R, .slice A2 (reL g (joF opL g h)).L.length c2] _ 0 _ kz rfl
  have hXL := stL_ext (w.heap.size + 1 + 1 + 1) (by first | omega | (simp; done) | (simp; omega)) [.int .i64 (reL g (joF opL g h)).X, .int .i64 (reL g (joF opL g h)).Y, .int .i64 (reL g (joF opL g h)).S, .int .i64 (reL g (joF opL g h)).C, .int .i64 (reL g (joF opL g h)).R, .slice A2 (reL g (joF opL g h)).L.length c2] 0 _ hE2
  show bodyPost _ _ _ _ _ (stL (w2) (w.heap.size + 1 + 1 + 1) 0 [.int .i64 (reL g (joF opL g h)).X, .int .i64 (reL g (joF opL g h)).Y, .int .i64 (reL g (joF opL g h)).S, .int .i64 (reL g (joF opL g h)).C, .int .i64 (reL g (joF opL g h)).R, .slice A2 (reL g (joF opL g h)).L.length c2])
  generalize stL (w2) (w.heap.size + 1 + 1 + 1) 0 [.int .i64 (reL g (joF opL g h)).X, .int .i64 (reL g (joF opL g h)).Y, .int .i64 (reL g (joF opL g h)).S, .int .i64 (reL g (joF opL g h)).C, .int .i64 (reL g (joF opL g h)).R, .slice A2 (reL g (joF opL g h)).L.length c2] = WL at *
  obtain ⟨s0, s1, s2, s3, s4, s5⟩ := hSL.six
  refine bodyPost_ret (v := .tuple #[.agg #[.int .i64 (reL g (joF opL g h)).X, .int .i64 (reL g (joF opL g h)).Y, .int .i64 (reL g (joF opL g h)).S, .int .i64 (reL g (joF opL g h)).C, .int .i64 (reL g (joF opL g h)).R, .slice A2 (reL g (joF opL g h)).L.length c2], .int .i64 0]) (by simp [results, Try.results84, go_sem, s0, s1, s2, s3, s4, s5]) rfl ⟨⟨A2, c2, rfl, hN2⟩, hXL⟩
set_option maxHeartbeats 4000000 in
theorem latest_err_c (g h : Gr) (w : World) (A B : Option Addr) (c d : Nat) (hl : g.L.length ≤ maxLen) (hm : h.L.length ≤ maxLen) (hA : Row 1 encZ w A g.L) (hB : Row 1 encZ w B h.L) (h0 : twoE g h ≠ 0) :
    Calls Try.prog 36 #[.agg #[.int .i64 g.X, .int .i64 g.Y, .int .i64 g.S, .int .i64 g.C, .int .i64 g.R, .slice A g.L.length c], .agg #[.int .i64 h.X, .int .i64 h.Y, .int .i64 h.S, .int .i64 h.C, .int .i64 h.R, .slice B h.L.length d]] w fun e w' => e = .returned (.tuple #[.agg #[.int .i64 0, .int .i64 0, .int .i64 0, .int .i64 0, .int .i64 0, .slice none 0 0], .int .i64 (twoE g h)]) ∧ Ext w w' := by
  have HC := Lib.hid (fun w' (hw : Ext w w') => joinL_err_c g h w' A B c d hl hm (hA.ext hw) (hB.ext hw) h0)
  generalize twoE g h = E at *
  clear h0 hl hm hA hB
  go_enter Try.func36, Try.ntmps36
  go_wp2_with (first | (go_at_call 84; with_reducible refine Calls.mono (HC.out _ (by (repeat (first | with_reducible exact Ext.rfl' _ | with_reducible assumption | with_reducible refine Ext.al ?_ _ | with_reducible refine Ext.dr ?_ | with_reducible refine Ext.st ?_ (by simp) _ | with_reducible refine Ext.tr ?_ (by assumption))))) ?_; rintro e w1 ⟨rfl, hb⟩; have hc := hb.ccell; have hf := hb.frz; have hs := hb.sz; (try simp at hs); (try have t0 := hs (w.heap.size) (by first | assumption | omega)); (try have t1 := hs (w.heap.size + 1) (by first | assumption | omega)); (try have t2 := hs (w.heap.size + 1 + 1) (by first | assumption | omega)); (try have t3 := hs (w.heap.size + 1 + 1 + 1) (by first | assumption | omega)); (try have t4 := hs (w.heap.size) (by first | assumption | omega)); (try have t5 := hs (w.heap.size) (by first | assumption | omega))))
  have hE2 : Ext w w1 := by (repeat (first | with_reducible exact Ext.rfl' _ | with_reducible assumption | with_reducible refine Ext.al ?_ _ | with_reducible refine Ext.dr ?_ | with_reducible refine Ext.st ?_ (by simp) _ | with_reducible refine Ext.tr ?_ (by assumption)))
  have kz : CellsAt w1 (w.heap.size + 1 + 1) 0 [.int .i64 0, .int .i64 0, .int .i64 0, .int .i64 0, .int .i64 0, .slice none 0 0] := by refine cells_six ⟨?_, ?_, ?_, ?_, ?_, ?_⟩ <;> simp [*, go_sem]
  have hSL := stL_at (w.heap.size + 1 + 1) [.int .i64 0, .int .i64 0, .int .i64 0, .int .i64 0, .int .i64 0, .slice none 0 0] _ 0 _ kz rfl
  have hXL := stL_ext (w.heap.size + 1 + 1) (by first | omega | (simp; done) | (simp; omega)) [.int .i64 0, .int .i64 0, .int .i64 0, .int .i64 0, .int .i64 0, .slice none 0 0] 0 _ hE2
  show bodyPost _ _ _ _ _ (stL (w1) (w.heap.size + 1 + 1) 0 [.int .i64 0, .int .i64 0, .int .i64 0, .int .i64 0, .int .i64 0, .slice none 0 0])
  generalize stL (w1) (w.heap.size + 1 + 1) 0 [.int .i64 0, .int .i64 0, .int .i64 0, .int .i64 0, .int .i64 0, .slice none 0 0] = WL at *
  obtain ⟨s0, s1, s2, s3, s4, s5⟩ := hSL.six
  refine bodyPost_ret (v := .tuple #[.agg #[.int .i64 0, .int .i64 0, .int .i64 0, .int .i64 0, .int .i64 0, .slice none 0 0], .int .i64 E]) (by simp [results, Try.results36, go_sem, s0, s1, s2, s3, s4, s5]) rfl ⟨rfl, hXL⟩
set_option maxHeartbeats 4000000 in
theorem latest_ok_c (g h : Gr) (w : World) (A B : Option Addr) (c d : Nat) (hA : Row 1 encZ w A g.L) (hB : Row 1 encZ w B h.L) (h0 : twoE g h = 0) :
    Calls Try.prog 36 #[.agg #[.int .i64 g.X, .int .i64 g.Y, .int .i64 g.S, .int .i64 g.C, .int .i64 g.R, .slice A g.L.length c], .agg #[.int .i64 h.X, .int .i64 h.Y, .int .i64 h.S, .int .i64 h.C, .int .i64 h.R, .slice B h.L.length d]] w fun e w' => OutGE w.heap.size (reL g (joF opL g h)) e w' ∧ Ext w w' := by
  have HC := Lib.hid (fun w' (hw : Ext w w') => joinL_ok_c g h w' A B c d (hA.ext hw) (hB.ext hw) h0)
  clear h0 hA hB
  go_enter Try.func36, Try.ntmps36
  go_wp2_with (first | (go_at_call 84; (with_reducible refine Calls.mono (HC.out _ (by (repeat (first | with_reducible exact Ext.rfl' _ | with_reducible assumption | with_reducible refine Ext.al ?_ _ | with_reducible refine Ext.dr ?_ | with_reducible refine Ext.st ?_ (by simp) _ | with_reducible refine Ext.tr ?_ (by assumption))))) ?_); rintro e w2 ⟨⟨A2, c2, rfl, hN⟩, hb⟩; have hc := hb.ccell; have hf := hb.frz; have hs := hb.sz; (try simp at hs); (try have t0 := hs (w.heap.size) (by first | assumption | omega)); (try have t1 := hs (w.heap.size + 1) (by first | assumption | omega)); (try have t2 := hs (w.heap.size + 1 + 1) (by first | assumption | omega)); (try have t3 := hs (w.heap.size + 1 + 1 + 1) (by first | assumption | omega)); (try have t4 := hs (w.heap.size) (by first | assumption | omega)); (try have t5 := hs (w.heap.size) (by first | assumption | omega))))
  have hE2 : Ext w w2 := by (repeat (first | with_reducible exact Ext.rfl' _ | with_reducible assumption | with_reducible refine Ext.al ?_ _ | with_reducible refine Ext.dr ?_ | with_reducible refine Ext.st ?_ (by simp) _ | with_reducible refine Ext.tr ?_ (by assumption)))
  have kz : CellsAt w2 (w.heap.size + 1 + 1) 0 [.int .i64 0, .int .i64 0, .int .i64 0, .int .i64 0, .int .i64 0, .slice none 0 0] := by refine cells_six ⟨?_, ?_, ?_, ?_, ?_, ?_⟩ <;> simp [*, go_sem]
  have hN2 := (hN.stL (b := w.heap.size + 1 + 1) (by simp) 0 [.int .i64 (reL g (joF opL g h)).X, .int .i64 (reL g (joF opL g h)).Y, .int .i64 (reL g (joF opL g h)).S, .int .i64 (reL g (joF opL g h)).C, .int .i64 (reL g (joF opL g h)).R, .slice A2 (reL g (joF opL g h)).L.length c2]).mono (base' := w.heap.size) (by simp; omega)
  clear hN hc hf hs hb
  have hSL := stL_at (w.heap.size + 1 + 1) [.int .i64 (reL g (joF opL g h)).X, .int .i64 (reL g (joF opL g h)).Y, .int .i64 (reL g (joF opL g h)).S, .int .i64 (reL g (joF opL g h)).C, .int .i64 (reL g (joF opL g h)).R, .slice A2 (reL g (joF opL g h)).L.length c2] _ 0 _ kz rfl
  have hXL := stL_ext (w.heap.size + 1 + 1) (by first | omega | (simp; done) | (simp; omega)) [.int .i64 (reL g (joF opL g h)).X, .int .i64 (reL g (joF opL g h)).Y, .int .i64 (reL g (joF opL g h)).S, .int .i64 (reL g (joF opL g h)).C, .int .i64 (reL g (joF opL g h)).R, .slice A2 (reL g (joF opL g h)).L.length c2] 0 _ hE2
  show bodyPost _ _ _ _ _ (stL (w2) (w.heap.size + 1 + 1) 0 [.int .i64 (reL g (joF opL g h)).X, .int .i64 (reL g (joF opL g h)).Y, .int .i64 (reL g (joF opL g h)).S, .int .i64 (reL g (joF opL g h)).C, .int .i64 (reL g (joF opL g h)).R, .slice A2 (reL g (joF opL g h)).L.length c2])
  generalize stL (w2) (w.heap.size + 1 + 1) 0 [.int .i64 (reL g (joF opL g h)).X, .int .i64 (reL g (joF opL g h)).Y, .int .i64 (reL g (joF opL g h)).S, .int .i64 (reL g (joF opL g h)).C, .int .i64 (reL g (joF opL g h)).R, .slice A2 (reL g (joF opL g h)).L.length c2] = WL at *
  obtain ⟨s0, s1, s2, s3, s4, s5⟩ := hSL.six
  refine bodyPost_ret (v := .tuple #[.agg #[.int .i64 (reL g (joF opL g h)).X, .int .i64 (reL g (joF opL g h)).Y, .int .i64 (reL g (joF opL g h)).S, .int .i64 (reL g (joF opL g h)).C, .int .i64 (reL g (joF opL g h)).R, .slice A2 (reL g (joF opL g h)).L.length c2], .int .i64 0]) (by simp [results, Try.results36, go_sem, s0, s1, s2, s3, s4, s5]) rfl ⟨⟨A2, c2, rfl, hN2⟩, hXL⟩
set_option maxHeartbeats 4000000 in
theorem joinS_err_c (g h : Gr) (w : World) (A B : Option Addr) (c d : Nat) (hl : g.L.length ≤ maxLen) (hm : h.L.length ≤ maxLen) (hA : Row 1 encZ w A g.L) (hB : Row 1 encZ w B h.L) (h0 : twoE g h ≠ 0) :
    Calls Try.prog 84 #[.agg #[.int .i64 g.X, .int .i64 g.Y, .int .i64 g.S, .int .i64 g.C, .int .i64 g.R, .slice A g.L.length c], .agg #[.int .i64 h.X, .int .i64 h.Y, .int .i64 h.S, .int .i64 h.C, .int .i64 h.R, .slice B h.L.length d], (.func (.func 86) #[] #[])] w fun e w' => e = .returned (.tuple #[.agg #[.int .i64 0, .int .i64 0, .int .i64 0, .int .i64 0, .int .i64 0, .slice none 0 0], .int .i64 (twoE g h)]) ∧ Ext w w' := by
  have HC := Lib.hid (fun w' (hw : Ext w w') => checkTwo_c g h w' A B c d hl hm (hA.ext hw) (hB.ext hw))
  have h0' : (twoE g h != 0) = true := by rw [bne_iff_ne]; exact h0
  generalize twoE g h = E at *
  clear h0 hl hm hA hB
  go_enter Try.func84, Try.ntmps84
  go_wp2_with (first | (go_at_call 87; with_reducible refine Calls.mono (HC.out _ (by (repeat (first | with_reducible exact Ext.rfl' _ | with_reducible assumption | with_reducible refine Ext.al ?_ _ | with_reducible refine Ext.dr ?_ | with_reducible refine Ext.st ?_ (by simp) _ | with_reducible refine Ext.tr ?_ (by assumption))))) ?_; rintro e w1 ⟨rfl, hb⟩; have hc := hb.ccell; have hf := hb.frz; have hs := hb.sz; (try simp at hs); (try have t0 := hs (w.heap.size) (by first | assumption | omega)); (try have t1 := hs (w.heap.size + 1) (by first | assumption | omega)); (try have t2 := hs (w.heap.size + 1 + 1) (by first | assumption | omega)); (try have t3 := hs (w.heap.size + 1 + 1 + 1) (by first | assumption | omega)); (try have t4 := hs (w.heap.size) (by first | assumption | omega)); (try have t5 := hs (w.heap.size) (by first | assumption | omega))))
  have hE2 : Ext w w1 := by (repeat (first | with_reducible exact Ext.rfl' _ | with_reducible assumption | with_reducible refine Ext.al ?_ _ | with_reducible refine Ext.dr ?_ | with_reducible refine Ext.st ?_ (by simp) _ | with_reducible refine Ext.tr ?_ (by assumption)))
  have kz : CellsAt w1 (w.heap.size + 1 + 1 + 1) 0 [.int .i64 0, .int .i64 0, .int .i64 0, .int .i64 0, .int .i64 0, .slice none 0 0] := by refine cells_six ⟨?_, ?_, ?_, ?_, ?_, ?_⟩ <;> simp [*, go_sem]
  have hSL := stL_at (w.heap.size + 1 + 1 + 1) [.int .i64 0, .int .i64 0, .int .i64 0, .int .i64 0, .int .i64 0, .slice none 0 0] _ 0 _ kz rfl
  have hXL := stL_ext (w.heap.size + 1 + 1 + 1) (by first | omega | (simp; done) | (simp; omega)) [.int .i64 0, .int .i64 0, .int .i64 0, .int .i64 0, .int .i64 0, .slice none 0 0] 0 _ hE2
  show bodyPost _ _ _ _ _ (stL (w1) (w.heap.size + 1 + 1 + 1) 0 [.int .i64 0, .int .i64 0, .int .i64 0, .int .i64 0, .int .i64 0, .slice none 0 0])
  generalize stL (w1) (w.heap.size + 1 + 1 + 1) 0 [.int .i64 0, .int .i64 0, .int .i64 0, .int .i64 0, .int .i64 0, .slice none 0 0] = WL at *
  obtain ⟨s0, s1, s2, s3, s4, s5⟩ := hSL.six
  refine bodyPost_ret (v := .tuple #[.agg #[.int .i64 0, .int .i64 0, .int .i64 0, .int .i64 0, .int .i64 0, .slice none 0 0], .int .i64 E]) (by simp [results, Try.results84, go_sem, s0, s1, s2, s3, s4, s5]) rfl ⟨rfl, hXL⟩
set_option maxHeartbeats 4000000 in
theorem joinS_ok_c (g h : Gr) (w : World) (A B : Option Addr) (c d : Nat) (hA : Row 1 encZ w A g.L) (hB : Row 1 encZ w B h.L) (h0 : twoE g h = 0) :
    Calls Try.prog 84 #[.agg #[.int .i64 g.X, .int .i64 g.Y, .int .i64 g.S, .int .i64 g.C, .int .i64 g.R, .slice A g.L.length c], .agg #[.int .i64 h.X, .int .i64 h.Y, .int .i64 h.S, .int .i64 h.C, .int .i64 h.R, .slice B h.L.length d], (.func (.func 86) #[] #[])] w fun e w' => OutGE w.heap.size (reL g (joF opS g h)) e w' ∧ Ext w w' := by
  obtain ⟨v, v2, hfr, hlen⟩ := twoE_ok h0
  have hn : g.L.length ≤ 1024 := by have h1 := v.len; have h2 := v.hn; omega
  have HC := Lib.hid (fun w' (hw : Ext w w') => by have h := checkTwo_c g h w' A B c d (by unfold maxLen; omega) (by unfold maxLen; omega) (hA.ext hw) (hB.ext hw); rw [h0] at h; exact h)
  have HWL := Lib.hid (fun p q r w' (hw : Ext w w') (hp : BoxG w' p g A c) (hq : BoxG w' q h B d) (hr : w'.cell? ⟨r, 0, none⟩ = some (.func (.func 86) #[] #[])) (hrz : r < w'.heap.size) => withJoin_c g (joF opS g h) p q r w' A c (by omega) (fun k hk w'' hx => join1S_c g h k p q r w'' A B c d hk (by omega) (by omega) (by omega) (hA.ext (hw.tr hx)) (hB.ext (hw.tr hx)) (hp.ext hx) (hq.ext hx) ((hx.ccell _ _ hrz).trans hr) (hx.sz _ hrz)))
  clear v v2 h0 hlen hfr hA hB
  go_enter Try.func84, Try.ntmps84
  go_upto_region 4 with (first | (go_at_call 87; with_reducible refine Calls.mono (HC.out _ (by (repeat (first | with_reducible exact Ext.rfl' _ | with_reducible assumption | with_reducible refine Ext.al ?_ _ | with_reducible refine Ext.dr ?_ | with_reducible refine Ext.st ?_ (by simp) _ | with_reducible refine Ext.tr ?_ (by assumption))))) ?_; rintro e w1 ⟨rfl, hb⟩; have hc := hb.ccell; have hf := hb.frz; have hs := hb.sz; (try simp at hs); (try have t0 := hs (w.heap.size) (by first | assumption | omega)); (try have t1 := hs (w.heap.size + 1) (by first | assumption | omega)); (try have t2 := hs (w.heap.size + 1 + 1) (by first | assumption | omega)); (try have t3 := hs (w.heap.size + 1 + 1 + 1) (by first | assumption | omega)); (try have t4 := hs (w.heap.size) (by first | assumption | omega)); (try have t5 := hs (w.heap.size) (by first | assumption | omega))))
  have hE1 : Ext w w1 := by (repeat (first | with_reducible exact Ext.rfl' _ | with_reducible assumption | with_reducible refine Ext.al ?_ _ | with_reducible refine Ext.dr ?_ | with_reducible refine Ext.st ?_ (by simp) _ | with_reducible refine Ext.tr ?_ (by assumption)))
  have kp : BoxG w1 w.heap.size g A c := by refine ⟨by assumption, cells_six ⟨?_, ?_, ?_, ?_, ?_, ?_⟩⟩ <;> simp [*, go_sem]
  have kq : BoxG w1 (w.heap.size + 1) h B d := by refine ⟨by assumption, cells_six ⟨?_, ?_, ?_, ?_, ?_, ?_⟩⟩ <;> simp [*, go_sem]
  have kr : w1.cell? ⟨w.heap.size + 1 + 1, 0, none⟩ = some (.func (.func 86) #[] #[]) := by simp [*, go_sem]
  have HW := Lib.hid (HWL.out _ _ _ w1 hE1 kp kq kr (by assumption))
  clear HWL kp kq kr HC
  go_wp2_with (first | (go_at_call 69; (with_reducible refine Calls.mono (HW.out) ?_); rintro e w2 ⟨⟨A2, c2, rfl, hN⟩, hb⟩; have hc := hb.ccell; have hf := hb.frz; have hs := hb.sz; (try simp at hs); (try have t0 := hs (w.heap.size) (by first | assumption | omega)); (try have t1 := hs (w.heap.size + 1) (by first | assumption | omega)); (try have t2 := hs (w.heap.size + 1 + 1) (by first | assumption | omega)); (try have t3 := hs (w.heap.size + 1 + 1 + 1) (by first | assumption | omega)); (try have t4 := hs (w.heap.size) (by first | assumption | omega)); (try have t5 := hs (w.heap.size) (by first | assumption | omega))))
  have hE2 : Ext w w2 := by (repeat (first | with_reducible exact Ext.rfl' _ | with_reducible assumption | with_reducible refine Ext.al ?_ _ | with_reducible refine Ext.dr ?_ | with_reducible refine Ext.st ?_ (by simp) _ | with_reducible refine Ext.tr ?_ (by assumption)))
  have kz : CellsAt w2 (w.heap.size + 1 + 1 + 1) 0 [.int .i64 0, .int .i64 0, .int .i64 0, .int .i64 0, .int .i64 0, .slice none 0 0] := by refine cells_six ⟨?_, ?_, ?_, ?_, ?_, ?_⟩ <;> simp [*, go_sem]
  have hz1 : w.heap.size + 1 + 1 + 1 < w1.heap.size := by assumption
  have hN2 := (hN.stL (b := w.heap.size + 1 + 1 + 1) hz1 0 [.int .i64 (reL g (joF opS g h)).X, .int .i64 (reL g (joF opS g h)).Y, .int .i64 (reL g (joF opS g h)).S, .int .i64 (reL g (joF opS g h)).C, .int .i64 (reL g (joF opS g h)).R, .slice A2 (reL g (joF opS g h)).L.length c2]).mono (base' := w.heap.size) (by omega)
  clear hN hc hf hs hb
  have hSL := stL_at (w.heap.size + 1 + 1 + 1) [.int .i64 (reL g (joF opS g h)).X, .int .i64 (reL g (joF opS g h)).Y, .int .i64 (reL g (joF opS g h)).S, .int .i64 (reL g (joF opS g h)).C, .int .i64 (reL g (joF opS g h)).R, .slice A2 (reL g (joF opS g h)).L.length c2] _ 0 _ kz rfl
  have hXL := stL_ext (w.heap.size + 1 + 1 + 1) (by first | omega | (simp; done) | (simp; omega)) [.int .i64 (reL g (joF opS g h)).X, .int .i64 (reL g (joF opS g h)).Y, .int .i64 (reL g (joF opS g h)).S, .int .i64 (reL g (joF opS g h)).C, .int .i64 (reL g (joF opS g h)).R, .slice A2 (reL g (joF opS g h)).L.length c2] 0 _ hE2
  show bodyPost _ _ _ _ _ (stL (w2) (w.heap.size + 1 + 1 + 1) 0 [.int .i64 (reL g (joF opS g h)).X, .int .i64 (reL g (joF opS g h)).Y, .int .i64 (reL g (joF opS g h)).S, .int .i64 (reL g (joF opS g h)).C, .int .i64 (reL g (joF opS g h)).R, .slice A2 (reL g (joF opS g h)).L.length c2])
  generalize stL (w2) (w.heap.size + 1 + 1 + 1) 0 [.int .i64 (reL g (joF opS g h)).X, .int .i64 (reL g (joF opS g h)).Y, .int .i64 (reL g (joF opS g h)).S, .int .i64 (reL g (joF opS g h)).C, .int .i64 (reL g (joF opS g h)).R, .slice A2 (reL g (joF opS g h)).L.length c2] = WL at *
  obtain ⟨s0, s1, s2, s3, s4, s5⟩ := hSL.six
  refine bodyPost_ret (v := .tuple #[.agg #[.int .i64 (reL g (joF opS g h)).X, .int .i64 (reL g (joF opS g h)).Y, .int .i64 (reL g (joF opS g h)).S, .int .i64 (reL g (joF opS g h)).C, .int .i64 (reL g (joF opS g h)).R, .slice A2 (reL g (joF opS g h)).L.length c2], .int .i64 0]) (by simp [results, Try.results84, go_sem, s0, s1, s2, s3, s4, s5]) rfl ⟨⟨A2, c2, rfl, hN2⟩, hXL⟩
set_option maxHeartbeats 4000000 in
theorem shoalest_err_c (g h : Gr) (w : World) (A B : Option Addr) (c d : Nat) (hl : g.L.length ≤ maxLen) (hm : h.L.length ≤ maxLen) (hA : Row 1 encZ w A g.L) (hB : Row 1 encZ w B h.L) (h0 : twoE g h ≠ 0) :
    Calls Try.prog 37 #[.agg #[.int .i64 g.X, .int .i64 g.Y, .int .i64 g.S, .int .i64 g.C, .int .i64 g.R, .slice A g.L.length c], .agg #[.int .i64 h.X, .int .i64 h.Y, .int .i64 h.S, .int .i64 h.C, .int .i64 h.R, .slice B h.L.length d]] w fun e w' => e = .returned (.tuple #[.agg #[.int .i64 0, .int .i64 0, .int .i64 0, .int .i64 0, .int .i64 0, .slice none 0 0], .int .i64 (twoE g h)]) ∧ Ext w w' := by
  have HC := Lib.hid (fun w' (hw : Ext w w') => joinS_err_c g h w' A B c d hl hm (hA.ext hw) (hB.ext hw) h0)
  generalize twoE g h = E at *
  clear h0 hl hm hA hB
  go_enter Try.func37, Try.ntmps37
  go_wp2_with (first | (go_at_call 84; with_reducible refine Calls.mono (HC.out _ (by (repeat (first | with_reducible exact Ext.rfl' _ | with_reducible assumption | with_reducible refine Ext.al ?_ _ | with_reducible refine Ext.dr ?_ | with_reducible refine Ext.st ?_ (by simp) _ | with_reducible refine Ext.tr ?_ (by assumption))))) ?_; rintro e w1 ⟨rfl, hb⟩; have hc := hb.ccell; have hf := hb.frz; have hs := hb.sz; (try simp at hs); (try have t0 := hs (w.heap.size) (by first | assumption | omega)); (try have t1 := hs (w.heap.size + 1) (by first | assumption | omega)); (try have t2 := hs (w.heap.size + 1 + 1) (by first | assumption | omega)); (try have t3 := hs (w.heap.size + 1 + 1 + 1) (by first | assumption | omega)); (try have t4 := hs (w.heap.size) (by first | assumption | omega)); (try have t5 := hs (w.heap.size) (by first | assumption | omega))))
  have hE2 : Ext w w1 := by (repeat (first | with_reducible exact Ext.rfl' _ | with_reducible assumption | with_reducible refine Ext.al ?_ _ | with_reducible refine Ext.dr ?_ | with_reducible refine Ext.st ?_ (by simp) _ | with_reducible refine Ext.tr ?_ (by assumption)))
  have kz : CellsAt w1 (w.heap.size + 1 + 1) 0 [.int .i64 0, .int .i64 0, .int .i64 0, .int .i64 0, .int .i64 0, .slice none 0 0] := by refine cells_six ⟨?_, ?_, ?_, ?_, ?_, ?_⟩ <;> simp [*, go_sem]
  have hSL := stL_at (w.heap.size + 1 + 1) [.int .i64 0, .int .i64 0, .int .i64 0, .int .i64 0, .int .i64 0, .slice none 0 0] _ 0 _ kz rfl
  have hXL := stL_ext (w.heap.size + 1 + 1) (by first | omega | (simp; done) | (simp; omega)) [.int .i64 0, .int .i64 0, .int .i64 0, .int .i64 0, .int .i64 0, .slice none 0 0] 0 _ hE2
  show bodyPost _ _ _ _ _ (stL (w1) (w.heap.size + 1 + 1) 0 [.int .i64 0, .int .i64 0, .int .i64 0, .int .i64 0, .int .i64 0, .slice none 0 0])
  generalize stL (w1) (w.heap.size + 1 + 1) 0 [.int .i64 0, .int .i64 0, .int .i64 0, .int .i64 0, .int .i64 0, .slice none 0 0] = WL at *
  obtain ⟨s0, s1, s2, s3, s4, s5⟩ := hSL.six
  refine bodyPost_ret (v := .tuple #[.agg #[.int .i64 0, .int .i64 0, .int .i64 0, .int .i64 0, .int .i64 0, .slice none 0 0], .int .i64 E]) (by simp [results, Try.results37, go_sem, s0, s1, s2, s3, s4, s5]) rfl ⟨rfl, hXL⟩
set_option maxHeartbeats 4000000 in
theorem shoalest_ok_c (g h : Gr) (w : World) (A B : Option Addr) (c d : Nat) (hA : Row 1 encZ w A g.L) (hB : Row 1 encZ w B h.L) (h0 : twoE g h = 0) :
    Calls Try.prog 37 #[.agg #[.int .i64 g.X, .int .i64 g.Y, .int .i64 g.S, .int .i64 g.C, .int .i64 g.R, .slice A g.L.length c], .agg #[.int .i64 h.X, .int .i64 h.Y, .int .i64 h.S, .int .i64 h.C, .int .i64 h.R, .slice B h.L.length d]] w fun e w' => OutGE w.heap.size (reL g (joF opS g h)) e w' ∧ Ext w w' := by
  have HC := Lib.hid (fun w' (hw : Ext w w') => joinS_ok_c g h w' A B c d (hA.ext hw) (hB.ext hw) h0)
  clear h0 hA hB
  go_enter Try.func37, Try.ntmps37
  go_wp2_with (first | (go_at_call 84; (with_reducible refine Calls.mono (HC.out _ (by (repeat (first | with_reducible exact Ext.rfl' _ | with_reducible assumption | with_reducible refine Ext.al ?_ _ | with_reducible refine Ext.dr ?_ | with_reducible refine Ext.st ?_ (by simp) _ | with_reducible refine Ext.tr ?_ (by assumption))))) ?_); rintro e w2 ⟨⟨A2, c2, rfl, hN⟩, hb⟩; have hc := hb.ccell; have hf := hb.frz; have hs := hb.sz; (try simp at hs); (try have t0 := hs (w.heap.size) (by first | assumption | omega)); (try have t1 := hs (w.heap.size + 1) (by first | assumption | omega)); (try have t2 := hs (w.heap.size + 1 + 1) (by first | assumption | omega)); (try have t3 := hs (w.heap.size + 1 + 1 + 1) (by first | assumption | omega)); (try have t4 := hs (w.heap.size) (by first | assumption | omega)); (try have t5 := hs (w.heap.size) (by first | assumption | omega))))
  have hE2 : Ext w w2 := by (repeat (first | with_reducible exact Ext.rfl' _ | with_reducible assumption | with_reducible refine Ext.al ?_ _ | with_reducible refine Ext.dr ?_ | with_reducible refine Ext.st ?_ (by simp) _ | with_reducible refine Ext.tr ?_ (by assumption)))
  have kz : CellsAt w2 (w.heap.size + 1 + 1) 0 [.int .i64 0, .int .i64 0, .int .i64 0, .int .i64 0, .int .i64 0, .slice none 0 0] := by refine cells_six ⟨?_, ?_, ?_, ?_, ?_, ?_⟩ <;> simp [*, go_sem]
  have hN2 := (hN.stL (b := w.heap.size + 1 + 1) (by simp) 0 [.int .i64 (reL g (joF opS g h)).X, .int .i64 (reL g (joF opS g h)).Y, .int .i64 (reL g (joF opS g h)).S, .int .i64 (reL g (joF opS g h)).C, .int .i64 (reL g (joF opS g h)).R, .slice A2 (reL g (joF opS g h)).L.length c2]).mono (base' := w.heap.size) (by simp; omega)
  clear hN hc hf hs hb
  have hSL := stL_at (w.heap.size + 1 + 1) [.int .i64 (reL g (joF opS g h)).X, .int .i64 (reL g (joF opS g h)).Y, .int .i64 (reL g (joF opS g h)).S, .int .i64 (reL g (joF opS g h)).C, .int .i64 (reL g (joF opS g h)).R, .slice A2 (reL g (joF opS g h)).L.length c2] _ 0 _ kz rfl
  have hXL := stL_ext (w.heap.size + 1 + 1) (by first | omega | (simp; done) | (simp; omega)) [.int .i64 (reL g (joF opS g h)).X, .int .i64 (reL g (joF opS g h)).Y, .int .i64 (reL g (joF opS g h)).S, .int .i64 (reL g (joF opS g h)).C, .int .i64 (reL g (joF opS g h)).R, .slice A2 (reL g (joF opS g h)).L.length c2] 0 _ hE2
  show bodyPost _ _ _ _ _ (stL (w2) (w.heap.size + 1 + 1) 0 [.int .i64 (reL g (joF opS g h)).X, .int .i64 (reL g (joF opS g h)).Y, .int .i64 (reL g (joF opS g h)).S, .int .i64 (reL g (joF opS g h)).C, .int .i64 (reL g (joF opS g h)).R, .slice A2 (reL g (joF opS g h)).L.length c2])
  generalize stL (w2) (w.heap.size + 1 + 1) 0 [.int .i64 (reL g (joF opS g h)).X, .int .i64 (reL g (joF opS g h)).Y, .int .i64 (reL g (joF opS g h)).S, .int .i64 (reL g (joF opS g h)).C, .int .i64 (reL g (joF opS g h)).R, .slice A2 (reL g (joF opS g h)).L.length c2] = WL at *
  obtain ⟨s0, s1, s2, s3, s4, s5⟩ := hSL.six
  refine bodyPost_ret (v := .tuple #[.agg #[.int .i64 (reL g (joF opS g h)).X, .int .i64 (reL g (joF opS g h)).Y, .int .i64 (reL g (joF opS g h)).S, .int .i64 (reL g (joF opS g h)).C, .int .i64 (reL g (joF opS g h)).R, .slice A2 (reL g (joF opS g h)).L.length c2], .int .i64 0]) (by simp [results, Try.results37, go_sem, s0, s1, s2, s3, s4, s5]) rfl ⟨⟨A2, c2, rfl, hN2⟩, hXL⟩
end Go.Proofs.Ytgnakeemcccfjaa

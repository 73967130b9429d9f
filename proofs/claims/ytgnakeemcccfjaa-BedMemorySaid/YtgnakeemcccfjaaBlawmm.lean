/- BedMemory: the law returns true for every input. Conditions: none. -/
import Derived.Test.YtgnakeemcccfjaaBmem
import Derived.Test.YtgnakeemcccfjaaBawake
namespace Go.Proofs.Ytgnakeemcccfjaa
open Go Go.RowKit Go.IntWalk

set_option maxHeartbeats 16000000 in
set_option maxRecDepth 100000 in
theorem mm_ok (g h : Gr) (w : World) (A B : Option Addr) (c d : Nat) (hl : g.L.length ≤ maxLen) (hm : h.L.length ≤ maxLen) (hA : Row 1 encZ w A g.L) (hB : Row 1 encZ w B h.L) (hf : fewB g = true) (hf2 : fewB h = true) :
    Calls Try.prog 15 #[.agg #[.int .i64 g.X, .int .i64 g.Y, .int .i64 g.S, .int .i64 g.C, .int .i64 g.R, .slice A g.L.length c], .agg #[.int .i64 h.X, .int .i64 h.Y, .int .i64 h.S, .int .i64 h.C, .int .i64 h.R, .slice B h.L.length d]] w fun e w' => e = .returned (.bool true) ∧ Ext w w' := by
  have hl2 := fewB_len hf
  have hm2 := fewB_len hf2
  have HF := Lib.hid (fun w' (hw : Ext w w') => by have h := few_c g w' A c hl (hA.ext hw); rw [hf] at h; exact h)
  have HF2 := Lib.hid (fun w' (hw : Ext w w') => by have h := few_c h w' B d hm (hB.ext hw); rw [hf2] at h; exact h)
  have HC1 := Lib.hid (fun w' (hw : Ext w w') => copyGrid_c g w' A c (by omega) (hA.ext hw))
  have HC2 := Lib.hid (fun w' (hw : Ext w w') => copyGrid_c h w' B d (by omega) (hB.ext hw))
  have HLA := Lib.hid (fun w' A' B' c' d' (h1 : Row 1 encZ w' A' g.L) (h2 : Row 1 encZ w' B' h.L) => latest_any_c g h w' A' B' c' d' hl2 hm2 h1 h2)
  have HSH := Lib.hid (fun w' A' B' c' d' (h1 : Row 1 encZ w' A' g.L) (h2 : Row 1 encZ w' B' h.L) => shoalest_any_c g h w' A' B' c' d' hl2 hm2 h1 h2)
  have HBL := Lib.hid (fun w' A' c' (h1 : Row 1 encZ w' A' g.L) => blank_any_c g w' A' c' hl2 h1)
  have HCL := Lib.hid (fun w' A' B' c' d' (h1 : Row 1 encZ w' A' g.L) (h2 : Row 1 encZ w' B' [0, 1]) => clear_any_c g w' A' B' c' d' hl2 h1 h2)
  have HG1 : Hid (∀ w' A' c', Ext w w' → Row 1 encZ w' A' g.L → Calls Try.prog 39 #[.agg #[.int .i64 g.X, .int .i64 g.Y, .int .i64 g.S, .int .i64 g.C, .int .i64 g.R, .slice A' g.L.length c'], .agg #[.int .i64 g.X, .int .i64 g.Y, .int .i64 g.S, .int .i64 g.C, .int .i64 g.R, .slice A g.L.length c]] w' fun e w'' => e = .returned (.bool true) ∧ Ext w' w'') := Lib.hid fun w' A' c' hw r1 => by
    have h9 := sameGrid_c g g w' A' A c' c hl r1 (hA.ext hw)
    rw [(sameB_iff _ _).2 ⟨rfl, rfl, rfl, rfl, rfl⟩, decide_eq_true rfl] at h9
    exact h9
  have HG2 : Hid (∀ w' A' c', Ext w w' → Row 1 encZ w' A' h.L → Calls Try.prog 39 #[.agg #[.int .i64 h.X, .int .i64 h.Y, .int .i64 h.S, .int .i64 h.C, .int .i64 h.R, .slice A' h.L.length c'], .agg #[.int .i64 h.X, .int .i64 h.Y, .int .i64 h.S, .int .i64 h.C, .int .i64 h.R, .slice B h.L.length d]] w' fun e w'' => e = .returned (.bool true) ∧ Ext w' w'') := Lib.hid fun w' A' c' hw r1 => by
    have h9 := sameGrid_c h h w' A' B c' d hm r1 (hB.ext hw)
    rw [(sameB_iff _ _).2 ⟨rfl, rfl, rfl, rfl, rfl⟩, decide_eq_true rfl] at h9
    exact h9
  have HIN : Hid (∀ w' A' B' c' d', Row 1 encZ w' A' [0, 1] → Row 1 encZ w' B' [0, 1] → Calls Try.prog 31 #[.slice A' 2 c', .slice B' 2 d'] w' fun e w'' => e = .returned (.bool true) ∧ Ext w' w'') := Lib.hid fun w' A' B' c' d' r1 r2 => by
    have h9 := ints_c [0, 1] [0, 1] w' A' B' c' d' (by decide) r1 r2
    rw [decide_eq_true rfl] at h9
    exact h9
  clear hA hB hf hf2
  go_enter Try.func15, Try.ntmps15
  go_upto_region 5 with (first | (go_at_call 16; with_reducible refine Calls.mono (awake_c _) ?_; rintro e wa ⟨rfl, hb⟩; have hc := hb.ccell; have hf := hb.frz; have hs := hb.sz; (try simp at hs); (try have t0 := hs (w.heap.size) (by first | assumption | omega)); (try have t1 := hs (w.heap.size + 1) (by first | assumption | omega)); (try have t2 := hs (w.heap.size) (by first | assumption | omega)); (try have t3 := hs (w.heap.size) (by first | assumption | omega)); (try have t4 := hs (w.heap.size) (by first | assumption | omega)); (try have t5 := hs (w.heap.size) (by first | assumption | omega))) | (go_at_call 17; with_reducible refine Calls.mono (HF.out _ (by (repeat (first | with_reducible exact Ext.rfl' _ | with_reducible assumption | with_reducible refine Ext.al ?_ _ | with_reducible refine Ext.dr ?_ | with_reducible refine Ext.st ?_ (by simp) _ | with_reducible refine Ext.tr ?_ (by assumption))))) ?_; rintro e wx ⟨rfl, hb⟩; have hc := hb.ccell; have hf := hb.frz; have hs := hb.sz; (try simp at hs); (try have t0 := hs (w.heap.size) (by first | assumption | omega)); (try have t1 := hs (w.heap.size + 1) (by first | assumption | omega)); (try have t2 := hs (w.heap.size) (by first | assumption | omega)); (try have t3 := hs (w.heap.size) (by first | assumption | omega)); (try have t4 := hs (w.heap.size) (by first | assumption | omega)); (try have t5 := hs (w.heap.size) (by first | assumption | omega))) | (go_at_call 17; with_reducible refine Calls.mono (HF2.out _ (by (repeat (first | with_reducible exact Ext.rfl' _ | with_reducible assumption | with_reducible refine Ext.al ?_ _ | with_reducible refine Ext.dr ?_ | with_reducible refine Ext.st ?_ (by simp) _ | with_reducible refine Ext.tr ?_ (by assumption))))) ?_; rintro e wf ⟨rfl, hb⟩; have hc := hb.ccell; have hf := hb.frz; have hs := hb.sz; (try simp at hs); (try have t0 := hs (w.heap.size) (by first | assumption | omega)); (try have t1 := hs (w.heap.size + 1) (by first | assumption | omega)); (try have t2 := hs (w.heap.size) (by first | assumption | omega)); (try have t3 := hs (w.heap.size) (by first | assumption | omega)); (try have t4 := hs (w.heap.size) (by first | assumption | omega)); (try have t5 := hs (w.heap.size) (by first | assumption | omega))))
  have hEW : Ext w wf := by (repeat (first | with_reducible exact Ext.rfl' _ | with_reducible assumption | with_reducible refine Ext.al ?_ _ | with_reducible refine Ext.dr ?_ | with_reducible refine Ext.st ?_ (by simp) _ | with_reducible refine Ext.tr ?_ (by assumption)))
  have kg : CellsAt wf w.heap.size 0 [.int .i64 g.X, .int .i64 g.Y, .int .i64 g.S, .int .i64 g.C, .int .i64 g.R, .slice A g.L.length c] := by refine cells_six ⟨?_, ?_, ?_, ?_, ?_, ?_⟩ <;> simp [*, go_sem]
  have kh : CellsAt wf (w.heap.size + 1) 0 [.int .i64 h.X, .int .i64 h.Y, .int .i64 h.S, .int .i64 h.C, .int .i64 h.R, .slice B h.L.length d] := by refine cells_six ⟨?_, ?_, ?_, ?_, ?_, ?_⟩ <;> simp [*, go_sem]
  have zg : w.heap.size < wf.heap.size := by assumption
  have zh : w.heap.size + 1 < wf.heap.size := by assumption
  clear hb hc hf hs t0 t1 t2 t3 t4 t5 HF HF2
  generalize w.heap.size + 1 = nh at *
  go_cut [5, 6] (fun s5 s6 wx => ∃ (b5 b6 : Nat) (A2 A3 : Option Addr) (c2 c3 : Nat), s5 = .pointer (some ⟨b5, 0, none⟩) ∧ s6 = .pointer (some ⟨b6, 0, none⟩) ∧ Ext wf wx ∧ b5 < wx.heap.size ∧ b6 < wx.heap.size ∧ CellsAt wx b5 0 [.int .i64 g.X, .int .i64 g.Y, .int .i64 g.S, .int .i64 g.C, .int .i64 g.R, .slice A2 g.L.length c2] ∧ CellsAt wx b6 0 [.int .i64 h.X, .int .i64 h.Y, .int .i64 h.S, .int .i64 h.C, .int .i64 h.R, .slice A3 h.L.length c3] ∧ Row 1 encZ wx A2 g.L ∧ Row 1 encZ wx A3 h.L)
  case first =>
    clear HLA HSH HBL HCL HG1 HG2 HIN
    obtain ⟨g0, g1, g2, g3, g4, g5⟩ := kg.six
    obtain ⟨k0, k1, k2, k3, k4, k5⟩ := kh.six
    go_region_held3 (fun w' => (∀ j : Nat, w'.cell? ⟨w.heap.size, j, none⟩ = wf.cell? ⟨w.heap.size, j, none⟩) ∧ (∀ j : Nat, w'.cell? ⟨nh, j, none⟩ = wf.cell? ⟨nh, j, none⟩) ∧ Ext wf w') ((refine keepB2 ?_ zg zh; (repeat (first | with_reducible exact Ext.rfl' _ | with_reducible assumption | with_reducible refine Ext.al ?_ _ | with_reducible refine Ext.dr ?_ | with_reducible refine Ext.st ?_ (by first | (simp; done) | ((try have h9 := Below.size hb2); (try have h8 := Below.size hb3); (try have h7 := Below.size hb4); (try simp at h9); (try simp at h8); (try simp at h7); (try simp); omega)) _ | with_reducible refine Ext.tr ?_ (by with_reducible assumption) | (with_reducible exact (by with_reducible assumption : _ ∧ _ ∧ Ext wf _).2.2))))) (first | (go_at_call 19; (with_reducible refine Calls.mono (HC1.out _ (hEW.tr (by (repeat (first | with_reducible exact Ext.rfl' _ | with_reducible assumption | with_reducible refine Ext.al ?_ _ | with_reducible refine Ext.dr ?_ | with_reducible refine Ext.st ?_ (by simp) _ | with_reducible refine Ext.tr ?_ (by assumption)))))) ?_); rintro e w2 ⟨⟨A2, c2, rfl, hN2⟩, hb2⟩; have hc2 := hb2.ccell; have hf2 := hb2.frz; have hs2 := hb2.sz; (try have t2 := hs2 wf.heap.size (by first | assumption | (simp; done) | (simp; omega))); (try have t2' := hs2 w3.heap.size (by first | assumption | (simp; done) | (simp; omega)))) | (go_at_call 19; (with_reducible refine Calls.mono (HC2.out _ (hEW.tr (by (repeat (first | with_reducible exact Ext.rfl' _ | with_reducible assumption | with_reducible refine Ext.al ?_ _ | with_reducible refine Ext.dr ?_ | with_reducible refine Ext.st ?_ (by simp) _ | with_reducible refine Ext.tr ?_ (by assumption)))))) ?_); rintro e w3 ⟨⟨A3, c3, rfl, hN3⟩, hb3⟩; have hc3 := hb3.ccell; have hf3 := hb3.frz; have hs3 := hb3.sz; (try have t3 := hs3 wf.heap.size (by first | assumption | (simp; done) | (simp; omega))); (try have t3' := hs3 w2.heap.size (by first | assumption | (simp; done) | (simp; omega)))))
    all_goals
      rename_i hJ hK h1 h2 hH
      clear hH
      refine h2 _ _ (Met.intro (h1 _ _ ?_))
      (repeat apply Exists.intro)
      refine ⟨?_, rfl⟩
      refine ⟨_, _, A2, A3, c2, c3, rfl, rfl, ?_, ?_, ?_, ?_, ?_, ?_, ?_⟩
      · (repeat (first | with_reducible exact Ext.rfl' _ | with_reducible assumption | with_reducible refine Ext.al ?_ _ | with_reducible refine Ext.dr ?_ | with_reducible refine Ext.st ?_ (by first | (simp; done) | ((try have h9 := Below.size hb2); (try have h8 := Below.size hb3); (try have h7 := Below.size hb4); (try simp at h9); (try simp at h8); (try simp at h7); (try simp); omega)) _ | with_reducible refine Ext.tr ?_ (by with_reducible assumption) | (with_reducible exact (by with_reducible assumption : _ ∧ _ ∧ Ext wf _).2.2)))
      · first | (simp; done) | ((try have h9 := Below.size hb2); (try have h8 := Below.size hb3); (try have h7 := Below.size hb4); (try simp at h9); (try simp at h8); (try simp at h7); (try simp); omega)
      · first | (simp; done) | ((try have h9 := Below.size hb2); (try have h8 := Below.size hb3); (try have h7 := Below.size hb4); (try simp at h9); (try simp at h8); (try simp at h7); (try simp); omega)
      · (repeat (first | (with_reducible exact box_cells' _ _ _ _ (by first | rfl | (simp; done) | fail)) | (with_reducible refine st6_at ?_) | (with_reducible refine st6_far (by first | (simp; done) | ((try have h9 := Below.size hb2); (try have h8 := Below.size hb3); (try have h7 := Below.size hb4); (try simp at h9); (try simp at h8); (try simp at h7); (try simp); omega)) ?_) | (with_reducible refine CellsAt.al ?_ (by first | (simp; done) | ((try have h9 := Below.size hb2); (try have h8 := Below.size hb3); (try have h7 := Below.size hb4); (try simp at h9); (try simp at h8); (try simp at h7); (try simp); omega))) | (with_reducible refine CellsAt.ext ?_ hb3 (by first | (simp; done) | ((try have h9 := Below.size hb2); (try have h8 := Below.size hb3); (try have h7 := Below.size hb4); (try simp at h9); (try simp at h8); (try simp at h7); (try simp); omega))) | (with_reducible refine CellsAt.ext ?_ hb2 (by first | (simp; done) | ((try have h9 := Below.size hb2); (try have h8 := Below.size hb3); (try have h7 := Below.size hb4); (try simp at h9); (try simp at h8); (try simp at h7); (try simp); omega))) | (with_reducible refine CellsAt.dr ?_ (by first | (simp; done) | ((try have h9 := Below.size hb2); (try have h8 := Below.size hb3); (try have h7 := Below.size hb4); (try simp at h9); (try simp at h8); (try simp at h7); (try simp); omega))))); done
      · (repeat (first | (with_reducible exact box_cells' _ _ _ _ (by first | rfl | (simp; done) | fail)) | (with_reducible refine st6_at ?_) | (with_reducible refine st6_far (by first | (simp; done) | ((try have h9 := Below.size hb2); (try have h8 := Below.size hb3); (try have h7 := Below.size hb4); (try simp at h9); (try simp at h8); (try simp at h7); (try simp); omega)) ?_) | (with_reducible refine CellsAt.al ?_ (by first | (simp; done) | ((try have h9 := Below.size hb2); (try have h8 := Below.size hb3); (try have h7 := Below.size hb4); (try simp at h9); (try simp at h8); (try simp at h7); (try simp); omega))) | (with_reducible refine CellsAt.ext ?_ hb3 (by first | (simp; done) | ((try have h9 := Below.size hb2); (try have h8 := Below.size hb3); (try have h7 := Below.size hb4); (try simp at h9); (try simp at h8); (try simp at h7); (try simp); omega))) | (with_reducible refine CellsAt.ext ?_ hb2 (by first | (simp; done) | ((try have h9 := Below.size hb2); (try have h8 := Below.size hb3); (try have h7 := Below.size hb4); (try simp at h9); (try simp at h8); (try simp at h7); (try simp); omega))) | (with_reducible refine CellsAt.dr ?_ (by first | (simp; done) | ((try have h9 := Below.size hb2); (try have h8 := Below.size hb3); (try have h7 := Below.size hb4); (try simp at h9); (try simp at h8); (try simp at h7); (try simp); omega))))); done
      · (refine NbZ.like (NbZ.of hN2) ?_); (repeat (first | (with_reducible exact NbZ.of hN2) | (with_reducible refine nb6 ?_ (by first | (left; first | (simp; done) | ((try have h9 := Below.size hb2); (try have h8 := Below.size hb3); (try have h7 := Below.size hb4); (try simp at h9); (try simp at h8); (try simp at h7); (try simp); omega)) | (right; first | (simp; done) | ((try have h9 := Below.size hb2); (try have h8 := Below.size hb3); (try have h7 := Below.size hb4); (try simp at h9); (try simp at h8); (try simp at h7); (try simp); omega)))) | (with_reducible refine NbZ.al ?_) | (with_reducible refine NbZ.ext ?_ hb3) | (with_reducible refine NbZ.ext ?_ hb2) | (with_reducible refine NbZ.dr ?_))); done
      · (refine NbZ.like (NbZ.of hN3) ?_); (repeat (first | (with_reducible exact NbZ.of hN3) | (with_reducible refine nb6 ?_ (by first | (left; first | (simp; done) | ((try have h9 := Below.size hb2); (try have h8 := Below.size hb3); (try have h7 := Below.size hb4); (try simp at h9); (try simp at h8); (try simp at h7); (try simp); omega)) | (right; first | (simp; done) | ((try have h9 := Below.size hb2); (try have h8 := Below.size hb3); (try have h7 := Below.size hb4); (try simp at h9); (try simp at h8); (try simp at h7); (try simp); omega)))) | (with_reducible refine NbZ.al ?_) | (with_reducible refine NbZ.ext ?_ hb3) | (with_reducible refine NbZ.ext ?_ hb2) | (with_reducible refine NbZ.dr ?_))); done
  case rest =>
    obtain ⟨b5, b6, A2, A3, c2, c3, rfl, rfl, hx, hz5, hz6, k5, k6, hR2, hR3⟩ := hcut
    obtain ⟨w9, hw9⟩ : ∃ w9, w9 = wc := ⟨_, rfl⟩
    subst hw9
    have HM := Lib.hid (show MB w w9 g h A B A2 A3 c d c2 c3 nh b5 b6 from ⟨hEW.tr hx, kg.ext hx zg, kh.ext hx zh, k5, k6, hx.sz _ zg, hx.sz _ zh, hz5, hz6, hR2, hR3⟩)
    clear kg kh zg zh hx hEW HC1 HC2 hR2 hR3 k5 k6 hz5 hz6
    obtain ⟨x0, x1, x2, x3, x4, x5⟩ := HM.out.k5.six
    obtain ⟨y0, y1, y2, y3, y4, y5⟩ := HM.out.k6.six
    have z5 := HM.out.z5
    have z6 := HM.out.z6
    go_upto_region 7 with (first | (go_at_call 36; (with_reducible refine Calls.mono (HLA.out _ _ _ _ _ HM.out.r2 HM.out.r3) ?_); rintro e wl ⟨⟨gl, Al, cl, El, rfl, hNl, hnl⟩, hb⟩; have hc := hb.ccell; have hf := hb.frz; have hs := hb.sz; (try simp at hs); (try have t0 := hs (b5) (by first | assumption | omega)); (try have t1 := hs (b6) (by first | assumption | omega)); (try have t2 := hs (b5) (by first | assumption | omega)); (try have t3 := hs (b6) (by first | assumption | omega)); (try have t4 := hs (b5) (by first | assumption | omega)); (try have t5 := hs (b6) (by first | assumption | omega))))
    refine wp_name (fun v1 hW => ?_)
    have hX : Ext w9 v1 := by rw [hW]; (repeat (first | with_reducible exact Ext.rfl' _ | with_reducible assumption | with_reducible refine Ext.al ?_ _ | with_reducible refine Ext.dr ?_ | with_reducible refine Ext.st ?_ (by simp) _ | with_reducible refine Ext.tr ?_ (by assumption)))
    have HW := Lib.hid hW
    clear hW
    have kl : CellsAt v1 wl.heap.size 0 [.int .i64 gl.X, .int .i64 gl.Y, .int .i64 gl.S, .int .i64 gl.C, .int .i64 gl.R, .slice Al gl.L.length cl] := by rw [HW.out]; refine cells_six ⟨?_, ?_, ?_, ?_, ?_, ?_⟩ <;> simp [go_sem]
    have zl : wl.heap.size < v1.heap.size := by rw [HW.out]; simp
    have Nl : Hid (NewZ w9.heap.size v1 Al cl gl.L) := Lib.hid (hNl.ext (by rw [HW.out]; (repeat (first | with_reducible exact Ext.rfl' _ | with_reducible assumption | with_reducible refine Ext.al ?_ _ | with_reducible refine Ext.dr ?_ | with_reducible refine Ext.st ?_ (by simp) _ | with_reducible refine Ext.tr ?_ (by assumption)))))
    have M1 := Lib.hid (HM.out.next hX)
    have X1 := Lib.hid hX
    clear HW hb hc hf hs t0 t1 t2 t3 t4 t5 hNl x0 x1 x2 x3 x4 x5 y0 y1 y2 y3 y4 y5 z5 z6 hX
    generalize wl.heap.size = bl at *
    obtain ⟨x0, x1, x2, x3, x4, x5⟩ := M1.out.k5.six
    obtain ⟨y0, y1, y2, y3, y4, y5⟩ := M1.out.k6.six
    have z5 := M1.out.z5
    have z6 := M1.out.z6
    go_upto_region 8 with (first | (go_at_call 37; (with_reducible refine Calls.mono (HSH.out _ _ _ _ _ M1.out.r2 M1.out.r3) ?_); rintro e ws ⟨⟨gs, As, cs, Es, rfl, hNs, hns⟩, hb⟩; have hc := hb.ccell; have hf := hb.frz; have hs := hb.sz; (try simp at hs); (try have t0 := hs (b5) (by first | assumption | omega)); (try have t1 := hs (b6) (by first | assumption | omega)); (try have t2 := hs (b5) (by first | assumption | omega)); (try have t3 := hs (b6) (by first | assumption | omega)); (try have t4 := hs (b5) (by first | assumption | omega)); (try have t5 := hs (b6) (by first | assumption | omega))))
    refine wp_name (fun v2 hW => ?_)
    have hX : Ext v1 v2 := by rw [hW]; (repeat (first | with_reducible exact Ext.rfl' _ | with_reducible assumption | with_reducible refine Ext.al ?_ _ | with_reducible refine Ext.dr ?_ | with_reducible refine Ext.st ?_ (by simp) _ | with_reducible refine Ext.tr ?_ (by assumption)))
    have HW := Lib.hid hW
    clear hW
    have ks : CellsAt v2 ws.heap.size 0 [.int .i64 gs.X, .int .i64 gs.Y, .int .i64 gs.S, .int .i64 gs.C, .int .i64 gs.R, .slice As gs.L.length cs] := by rw [HW.out]; refine cells_six ⟨?_, ?_, ?_, ?_, ?_, ?_⟩ <;> simp [go_sem]
    have zs : ws.heap.size < v2.heap.size := by rw [HW.out]; simp
    have Ns : Hid (NewZ v1.heap.size v2 As cs gs.L) := Lib.hid (hNs.ext (by rw [HW.out]; (repeat (first | with_reducible exact Ext.rfl' _ | with_reducible assumption | with_reducible refine Ext.al ?_ _ | with_reducible refine Ext.dr ?_ | with_reducible refine Ext.st ?_ (by simp) _ | with_reducible refine Ext.tr ?_ (by assumption)))))
    have M2 := Lib.hid (M1.out.next hX)
    have X2 := Lib.hid hX
    clear HW hb hc hf hs t0 t1 t2 t3 t4 t5 hNs x0 x1 x2 x3 x4 x5 y0 y1 y2 y3 y4 y5 z5 z6 hX
    generalize ws.heap.size = bs at *
    obtain ⟨x0, x1, x2, x3, x4, x5⟩ := M2.out.k5.six
    have z5 := M2.out.z5
    go_upto_region 9 with (first | (go_at_call 18; (with_reducible refine Calls.mono (HBL.out _ _ _ M2.out.r2) ?_); rintro e wn ⟨⟨gn, An, cn, En, rfl, hNn, hnn⟩, hb⟩; have hc := hb.ccell; have hf := hb.frz; have hs := hb.sz; (try simp at hs); (try have t0 := hs (b5) (by first | assumption | omega)); (try have t1 := hs (b6) (by first | assumption | omega)); (try have t2 := hs (b5) (by first | assumption | omega)); (try have t3 := hs (b6) (by first | assumption | omega)); (try have t4 := hs (b5) (by first | assumption | omega)); (try have t5 := hs (b6) (by first | assumption | omega))))
    refine wp_name (fun v3 hW => ?_)
    have hX : Ext v2 v3 := by rw [hW]; (repeat (first | with_reducible exact Ext.rfl' _ | with_reducible assumption | with_reducible refine Ext.al ?_ _ | with_reducible refine Ext.dr ?_ | with_reducible refine Ext.st ?_ (by simp) _ | with_reducible refine Ext.tr ?_ (by assumption)))
    have HW := Lib.hid hW
    clear hW
    have kn : CellsAt v3 wn.heap.size 0 [.int .i64 gn.X, .int .i64 gn.Y, .int .i64 gn.S, .int .i64 gn.C, .int .i64 gn.R, .slice An gn.L.length cn] := by rw [HW.out]; refine cells_six ⟨?_, ?_, ?_, ?_, ?_, ?_⟩ <;> simp [go_sem]
    have zn : wn.heap.size < v3.heap.size := by rw [HW.out]; simp
    have Nn : Hid (NewZ v2.heap.size v3 An cn gn.L) := Lib.hid (hNn.ext (by rw [HW.out]; (repeat (first | with_reducible exact Ext.rfl' _ | with_reducible assumption | with_reducible refine Ext.al ?_ _ | with_reducible refine Ext.dr ?_ | with_reducible refine Ext.st ?_ (by simp) _ | with_reducible refine Ext.tr ?_ (by assumption)))))
    have M3 := Lib.hid (M2.out.next hX)
    have X3 := Lib.hid hX
    clear HW hb hc hf hs t0 t1 t2 t3 t4 t5 hNn x0 x1 x2 x3 x4 x5 z5 hX
    generalize wn.heap.size = bn at *
    go_upto_region 10 with fail
    refine wp_name (fun v4 hW => ?_)
    have hX : Ext v3 v4 := by rw [hW]; (repeat (first | with_reducible exact Ext.rfl' _ | with_reducible assumption | with_reducible refine Ext.al ?_ _ | with_reducible refine Ext.dr ?_ | with_reducible refine Ext.st ?_ (by simp) _ | with_reducible refine Ext.tr ?_ (by assumption)))
    have HW := Lib.hid hW
    clear hW
    have ke : CellsAt v4 v3.heap.size 0 [.int .i64 0, .int .i64 1] := by rw [HW.out]; exact cells_two (by simp [go_sem]) (by simp [go_sem])
    have ze : v3.heap.size < v4.heap.size := by rw [HW.out]; simp
    have X4 := Lib.hid hX
    have M4 := Lib.hid (M3.out.next hX)
    have RE := Lib.hid (row_ends ze ke.two.1 ke.two.2)
    clear HW hX
    obtain ⟨be, hbe⟩ : ∃ be, v3.heap.size = be := ⟨_, rfl⟩
    have HBE := Lib.hid hbe
    rw [hbe] at ke ze RE ⊢
    clear hbe
    obtain ⟨x0, x1, x2, x3, x4, x5⟩ := M4.out.k5.six
    have z5 := M4.out.z5
    go_upto_region 11 with (first | (go_at_call 56; (with_reducible refine Calls.mono (HCL.out _ _ _ _ _ M4.out.r2 RE.out) ?_); rintro e wq ⟨⟨lev, P, Q, Ap, Aq, cp, cq, Ec, rfl, hNp, hNq, hPl, hQl⟩, hb⟩; have hc := hb.ccell; have hf := hb.frz; have hs := hb.sz; (try simp at hs); (try have t0 := hs (b5) (by first | assumption | omega)); (try have t1 := hs (b6) (by first | assumption | omega)); (try have t2 := hs (b5) (by first | assumption | omega)); (try have t3 := hs (b6) (by first | assumption | omega)); (try have t4 := hs (b5) (by first | assumption | omega)); (try have t5 := hs (b6) (by first | assumption | omega))))
    refine wp_name (fun v5 hW => ?_)
    have hX : Ext v4 v5 := by rw [hW]; (repeat (first | with_reducible exact Ext.rfl' _ | with_reducible assumption | with_reducible refine Ext.al ?_ _ | with_reducible refine Ext.dr ?_ | with_reducible refine Ext.st ?_ (by simp) _ | with_reducible refine Ext.tr ?_ (by assumption)))
    have HW := Lib.hid hW
    clear hW
    have kr : CellsAt v5 wq.heap.size 0 [.int .i64 lev, .slice Ap P.length cp, .slice Aq Q.length cq] := by rw [HW.out]; refine cells_three ⟨?_, ?_, ?_⟩ <;> simp [go_sem]
    have zr : wq.heap.size < v5.heap.size := by rw [HW.out]; simp
    have qlt : ∀ q, q < wq.heap.size + 1 ↔ q < v5.heap.size := fun q => by rw [HW.out]; simp
    have sq : v4.heap.size ≤ wq.heap.size := by have := Below.size hb; omega
    have s1 := X1.out.size
    have s2 := X2.out.size
    have s3 := X3.out.size
    have s4 := X4.out.size
    have hbe := HBE.out
    have Wp : WrZ w9.heap.size be wq.heap.size wq Ap P.length := WrZ.of hNp (by omega) (fun q h1 h2 => ⟨by omega, by omega⟩)
    have Wq : WrZ w9.heap.size be wq.heap.size wq Aq Q.length := WrZ.of hNq (by omega) (fun q h1 h2 => ⟨by omega, by omega⟩)
    have Wl : WrZ w9.heap.size be wq.heap.size v1 Al gl.L.length := WrZ.of Nl.out (Nat.le_refl _) (fun q h1 h2 => ⟨by omega, by omega⟩)
    have Ws : WrZ w9.heap.size be wq.heap.size v2 As gs.L.length := WrZ.of Ns.out (by omega) (fun q h1 h2 => ⟨by omega, by omega⟩)
    have Wn : WrZ w9.heap.size be wq.heap.size v3 An gn.L.length := WrZ.of Nn.out (by omega) (fun q h1 h2 => ⟨by omega, by omega⟩)
    have hXq : Ext wq v5 := by rw [HW.out]; (repeat (first | with_reducible exact Ext.rfl' _ | with_reducible assumption | with_reducible refine Ext.al ?_ _ | with_reducible refine Ext.dr ?_ | with_reducible refine Ext.st ?_ (by simp) _ | with_reducible refine Ext.tr ?_ (by assumption)))
    have E3 := X4.out.tr hX
    have E2 := X3.out.tr E3
    have E1 := X2.out.tr E2
    have E0 := X1.out.tr E1
    have l5 := kl.ext E1 zl
    have s5 := ks.ext E2 zs
    have n5 := kn.ext E3 zn
    have zl5 := E1.sz _ zl
    have zs5 := E2.sz _ zs
    have zn5 := E3.sz _ zn
    have M5 := Lib.hid (M4.out.next hX)
    obtain ⟨G, hG0, hG1, hG2⟩ : ∃ G : Nat → Gr, G 0 = gl ∧ G 1 = gs ∧ G 2 = gn := ⟨fun k => if k = 0 then gl else if k = 1 then gs else gn, rfl, rfl, rfl⟩
    obtain ⟨AA, hA0, hA1, hA2⟩ : ∃ AA : Nat → Option Addr, AA 0 = Al ∧ AA 1 = As ∧ AA 2 = An := ⟨fun k => if k = 0 then Al else if k = 1 then As else An, rfl, rfl, rfl⟩
    obtain ⟨cc, hc0, hc1, hc2⟩ : ∃ cc : Nat → Nat, cc 0 = cl ∧ cc 1 = cs ∧ cc 2 = cn := ⟨fun k => if k = 0 then cl else if k = 1 then cs else cn, rfl, rfl, rfl⟩
    subst hG0 hG1 hG2 hA0 hA1 hA2 hc0 hc1 hc2
    have HMW := Lib.hid (show MemW w9 v5 w9.heap.size be wq.heap.size [.int .i64 lev, .slice Ap P.length cp, .slice Aq Q.length cq] G AA Ap Aq P.length Q.length from
      ⟨E0, ke.ext hX ze, kr, hX.sz _ ze, zr, fun k hk => by
        rcases (by omega : k = 0 ∨ k = 1 ∨ k = 2) with e | e | e
        · rw [e]; exact Wl.ext E1
        · rw [e]; exact Ws.ext E2
        · rw [e]; exact Wn.ext E3, Wp.ext hXq, Wq.ext hXq⟩)
    have HIX := Lib.hid (fun k hk w => index3g G AA cc k hk w)
    have HNL : Hid (∀ k, k < 3 → (G k).L.length ≤ 1100) := Lib.hid fun k hk => by
      rcases (by omega : k = 0 ∨ k = 1 ∨ k = 2) with e | e | e
      · rw [e]; exact hnl
      · rw [e]; exact hns
      · rw [e]; exact hnn
    clear HW hb hc hf hs t0 t1 t2 t3 t4 t5 x0 x1 x2 x3 x4 x5 z5 hX hXq Wp Wq Wl Ws Wn E0 E1 E2 E3 s1 s2 s3 s4 hbe HBE sq hNp hNq Nl Ns Nn kl ks kn zl zs zn ke ze kr zr RE M1 M2 M3 M4 X1 X2 X3 X4 HLA HSH HBL HCL hnl hns hnn
    generalize wq.heap.size = br at *
    obtain ⟨x0, x1, x2, x3, x4, x5⟩ := l5.six
    obtain ⟨y0, y1, y2, y3, y4, y5⟩ := s5.six
    obtain ⟨n0, n1, n2, n3, n4, n5⟩ := n5.six
    go_wp2
    go_loopw [17, 18, 64] (fun _ _ q wr => Hid (MemW w9 wr w9.heap.size be br [.int .i64 lev, .slice Ap P.length cp, .slice Aq Q.length cq] G AA Ap Aq P.length Q.length) ∧ ∃ k : Nat, k ≤ 3 ∧ q = .int .i64 k) (fun _ _ q _ => 3 - (intOf q).toNat)
    case atStart => exact ⟨HMW, 0, by omega, rfl⟩
    case round =>
      obtain ⟨hM, k, hk, rfl⟩ := hrel
      clear x0 x1 x2 x3 x4 x5 y0 y1 y2 y3 y4 y5 n0 n1 n2 n3 n4 n5 l5 s5 zl5 zs5 zn5 HMW
      by_cases hlt : k < 3
      · have ix := fun w => HIX.out k hlt w
        have HR : Hid (∀ ur, MemW w9 ur w9.heap.size be br [.int .i64 lev, .slice Ap P.length cp, .slice Aq Q.length cq] G AA Ap Aq P.length Q.length → WrZ w9.heap.size be br ur (AA k) (G k).L.length) := Lib.hid fun ur m => m.rows k hlt
        have hnk := HNL.out k hlt
        have hk3 : (k : Int) < 3 := by omega
        generalize (G k).L.length = nk at *
        generalize (G k).X = gX at *
        generalize (G k).Y = gY at *
        generalize (G k).S = gS at *
        generalize (G k).C = gC at *
        generalize (G k).R = gR at *
        generalize AA k = Ak at *
        generalize cc k = ck at *
        go_wp2
        refine wp_name (fun u1 hW => ?_)
        have hX : Ext wr u1 := by rw [hW]; (repeat (first | with_reducible exact Ext.rfl' _ | with_reducible assumption | with_reducible refine Ext.al ?_ _ | with_reducible refine Ext.dr ?_ | with_reducible refine Ext.st ?_ (by simp) _ | with_reducible refine Ext.tr ?_ (by assumption)))
        have HW := Lib.hid hW
        clear hW
        have kz : CellsAt u1 wr.heap.size 0 [.int .i64 gX, .int .i64 gY, .int .i64 gS, .int .i64 gC, .int .i64 gR, .slice Ak nk ck] := by rw [HW.out]; refine cells_six ⟨?_, ?_, ?_, ?_, ?_, ?_⟩ <;> simp [go_sem]
        have zz : wr.heap.size < u1.heap.size := by rw [HW.out]; simp
        have hM1 := Lib.hid (hM.out.next hX)
        have hq0 : Hid (∀ q, Ak = some ⟨q, 0, none⟩ → 0 < nk → q < wr.heap.size) := Lib.hid fun q hq h0 => by
          obtain ⟨q', _, h1, _, _, _, h2, _⟩ := (HR.out _ hM.out).ne0 h0
          rw [hq] at h1
          injection h1 with h1
          injection h1 with h1
          rw [h1]; exact h2
        clear HW hX hM ix
        generalize wr.heap.size = bz at *
        go_loopw [18] (fun i ur => Hid (MemW w9 ur w9.heap.size be br [.int .i64 lev, .slice Ap P.length cp, .slice Aq Q.length cq] G AA Ap Aq P.length Q.length) ∧ CellsAt ur bz 0 [.int .i64 gX, .int .i64 gY, .int .i64 gS, .int .i64 gC, .int .i64 gR, .slice Ak nk ck] ∧ bz < ur.heap.size ∧ ∃ j : Nat, j ≤ nk ∧ i = .int .i64 j) (fun i _ => nk - (intOf i).toNat)
        case atStart => exact ⟨hM1, kz, zz, 0, Nat.zero_le _, rfl⟩
        case round =>
          clear kz zz hM1
          obtain ⟨hM2, kz2, zz2, j, hj, rfl⟩ := hrel
          obtain ⟨b0, b1, b2, b3, b4, b5'⟩ := kz2.six
          by_cases hjl : j < nk
          · obtain ⟨q, v, hA, hq1, hq2, hq3, hqz, hcell, hfr⟩ := (HR.out _ hM2.out).ne0 hjl
            have hqb := hq0.out q hA (by omega)
            rw [hA] at b5'
            have hne : q ≠ bz := by omega
            have hj0 : (0 : Int) ≤ j := by omega
            have hjk : (j : Int) < nk := by omega
            clear b0 b1 b2 b3 b4 hA
            go_wp2
            exact ⟨⟨Lib.hid (hM2.out.put (Nat.le_refl _) hq1 hq2 hq3 j _), kz2.st (by simpa using hne) _, by simpa using zz2, j + 1, by omega, by go_num⟩, by simp [intOf]; omega⟩
          · clear b0 b1 b2 b3 b4
            go_wp2
            exact ⟨⟨hM2, k + 1, by omega, by go_num⟩, by simp [intOf]; omega⟩
      · have hk3 : ¬ (k : Int) < 3 := by omega
        clear HIX HNL hlt
        go_wp2
        go_loopw [19] (fun i ur => Hid (MemW w9 ur w9.heap.size be br [.int .i64 lev, .slice Ap P.length cp, .slice Aq Q.length cq] G AA Ap Aq P.length Q.length) ∧ ∃ j : Nat, j ≤ P.length ∧ i = .int .i64 j) (fun i _ => P.length - (intOf i).toNat)
        case atStart => exact ⟨hM, 0, Nat.zero_le _, rfl⟩
        case round =>
          clear hM
          obtain ⟨hM, j, hj, rfl⟩ := hrel
          obtain ⟨r0, r1, r2⟩ := hM.out.kr.three
          have zr := hM.out.zr
          by_cases hjl : j < P.length
          · obtain ⟨q, v, hA, hq1, hq2, hq3, hqz, hcell, hfr⟩ := hM.out.rp.ne0 hjl
            rw [hA] at r1
            have hj0 : (0 : Int) ≤ j := by omega
            have hjk : (j : Int) < P.length := by omega
            clear r0 r2 hA
            go_wp2
            exact ⟨⟨Lib.hid (hM.out.put (Nat.le_refl _) hq1 hq2 hq3 j _), j + 1, by omega, by go_num⟩, by simp [intOf]; omega⟩
          · clear r0 r2
            go_wp2
            clear r1 zr hjl hj
            go_loopw [20] (fun i ur => Hid (MemW w9 ur w9.heap.size be br [.int .i64 lev, .slice Ap P.length cp, .slice Aq Q.length cq] G AA Ap Aq P.length Q.length) ∧ ∃ j : Nat, j ≤ Q.length ∧ i = .int .i64 j) (fun i _ => Q.length - (intOf i).toNat)
            case atStart => exact ⟨hM, 0, Nat.zero_le _, rfl⟩
            case round =>
              clear hM
              obtain ⟨hM, j, hj, rfl⟩ := hrel
              obtain ⟨r0, r1, r2⟩ := hM.out.kr.three
              have zr := hM.out.zr
              by_cases hjl : j < Q.length
              · obtain ⟨q, v, hA, hq1, hq2, hq3, hqz, hcell, hfr⟩ := hM.out.rq.ne0 hjl
                rw [hA] at r2
                have hj0 : (0 : Int) ≤ j := by omega
                have hjk : (j : Int) < Q.length := by omega
                clear r0 r1 hA
                go_wp2
                exact ⟨⟨Lib.hid (hM.out.put (Nat.le_refl _) hq1 hq2 hq3 j _), j + 1, by omega, by go_num⟩, by simp [intOf]; omega⟩
              · have mB := Lib.hid (HM.out.next hM.out.ext)
                have hEu := mB.out.ext
                have RE := Lib.hid (row_ends hM.out.ze hM.out.ke.two.1 hM.out.ke.two.2)
                obtain ⟨g0, g1, g2, g3, g4, g5⟩ := mB.out.kg.six
                obtain ⟨h0, h1, h2, h3, h4, h5⟩ := mB.out.kh.six
                obtain ⟨x0, x1, x2, x3, x4, x5⟩ := mB.out.k5.six
                obtain ⟨y0, y1, y2, y3, y4, y5⟩ := mB.out.k6.six
                have zg := mB.out.zg
                have zh := mB.out.zh
                have z5 := mB.out.z5
                have z6 := mB.out.z6
                obtain ⟨u0, hu0⟩ : ∃ u, u = wr := ⟨_, rfl⟩
                subst hu0
                clear r0 r1
                go_wp2_with (first | (go_at_call 39; with_reducible refine Calls.mono (HG1.out _ _ _ (hEu.tr (by (repeat (first | with_reducible exact Ext.rfl' _ | with_reducible assumption | with_reducible refine Ext.al ?_ _ | with_reducible refine Ext.dr ?_ | with_reducible refine Ext.st ?_ (by simp) _ | with_reducible refine Ext.tr ?_ (by assumption))))) (mB.out.r2.ext (by (repeat (first | with_reducible exact Ext.rfl' _ | with_reducible assumption | with_reducible refine Ext.al ?_ _ | with_reducible refine Ext.dr ?_ | with_reducible refine Ext.st ?_ (by simp) _ | with_reducible refine Ext.tr ?_ (by assumption)))))) ?_; rintro e wa1 ⟨rfl, hb⟩; have hc := hb.ccell; have hf := hb.frz; have hs := hb.sz; (try simp at hs); (try have t0 := hs (w.heap.size) (by first | assumption | omega)); (try have t1 := hs (nh) (by first | assumption | omega)); (try have t2 := hs (b5) (by first | assumption | omega)); (try have t3 := hs (b6) (by first | assumption | omega)); (try have t4 := hs (br) (by first | assumption | omega)); (try have t5 := hs (be) (by first | assumption | omega))) | (go_at_call 39; with_reducible refine Calls.mono (HG2.out _ _ _ (hEu.tr (by (repeat (first | with_reducible exact Ext.rfl' _ | with_reducible assumption | with_reducible refine Ext.al ?_ _ | with_reducible refine Ext.dr ?_ | with_reducible refine Ext.st ?_ (by simp) _ | with_reducible refine Ext.tr ?_ (by assumption))))) (mB.out.r3.ext (by (repeat (first | with_reducible exact Ext.rfl' _ | with_reducible assumption | with_reducible refine Ext.al ?_ _ | with_reducible refine Ext.dr ?_ | with_reducible refine Ext.st ?_ (by simp) _ | with_reducible refine Ext.tr ?_ (by assumption)))))) ?_; rintro e wa2 ⟨rfl, hb⟩; have hc := hb.ccell; have hf := hb.frz; have hs := hb.sz; (try simp at hs); (try have t0 := hs (w.heap.size) (by first | assumption | omega)); (try have t1 := hs (nh) (by first | assumption | omega)); (try have t2 := hs (b5) (by first | assumption | omega)); (try have t3 := hs (b6) (by first | assumption | omega)); (try have t4 := hs (br) (by first | assumption | omega)); (try have t5 := hs (be) (by first | assumption | omega))) | (go_at_call 31; with_reducible refine Calls.mono (HIN.out _ _ _ _ _ (RE.out.ext (by (repeat (first | with_reducible exact Ext.rfl' _ | with_reducible assumption | with_reducible refine Ext.al ?_ _ | with_reducible refine Ext.dr ?_ | with_reducible refine Ext.st ?_ (by simp) _ | with_reducible refine Ext.tr ?_ (by assumption))))) (Row.new' encZ_len _ _ _ [0, 1] _ rfl rfl)) ?_; rintro e wa3 ⟨rfl, hb⟩; have hc := hb.ccell; have hf := hb.frz; have hs := hb.sz; (try simp at hs); (try have t0 := hs (w.heap.size) (by first | assumption | omega)); (try have t1 := hs (nh) (by first | assumption | omega)); (try have t2 := hs (b5) (by first | assumption | omega)); (try have t3 := hs (b6) (by first | assumption | omega)); (try have t4 := hs (br) (by first | assumption | omega)); (try have t5 := hs (be) (by first | assumption | omega))))
                go_ret
                exact ⟨rfl, by (repeat (first | with_reducible exact Ext.rfl' _ | with_reducible assumption | with_reducible refine Ext.al ?_ _ | with_reducible refine Ext.dr ?_ | with_reducible refine Ext.st ?_ (by simp) _ | with_reducible refine Ext.tr ?_ (by assumption)))⟩
end Go.Proofs.Ytgnakeemcccfjaa

/- BedMerges: the case without errors. -/
import Derived.Test.YtgnakeemcccfjaaBlawme
namespace Go.Proofs.Ytgnakeemcccfjaa
open Go Go.RowKit Go.IntWalk

theorem keepM5 {W w' : World} {b0 b1 b2 b3 b4 : Nat} (h : Ext W w') (h0 : b0 < W.heap.size) (h1 : b1 < W.heap.size) (h2 : b2 < W.heap.size) (h3 : b3 < W.heap.size) (h4 : b4 < W.heap.size) :
    (∀ j : Nat, w'.cell? ⟨b0, j, none⟩ = W.cell? ⟨b0, j, none⟩) ∧ (∀ j : Nat, w'.cell? ⟨b1, j, none⟩ = W.cell? ⟨b1, j, none⟩) ∧ (∀ j : Nat, w'.cell? ⟨b2, j, none⟩ = W.cell? ⟨b2, j, none⟩) ∧ (∀ j : Nat, w'.cell? ⟨b3, j, none⟩ = W.cell? ⟨b3, j, none⟩) ∧ (∀ j : Nat, w'.cell? ⟨b4, j, none⟩ = W.cell? ⟨b4, j, none⟩) ∧ Ext W w' :=
  ⟨fun _ => h.ccell _ _ h0, fun _ => h.ccell _ _ h1, fun _ => h.ccell _ _ h2, fun _ => h.ccell _ _ h3, fun _ => h.ccell _ _ h4, h⟩
theorem twoE_flip {g h : Gr} (k : twoE g h = 0) : twoE h g = 0 := by
  unfold twoE at k ⊢
  by_cases h1 : chkG g = 0
  · by_cases h2 : chkG h = 0
    · rw [if_neg (by omega), if_neg (by omega)] at k
      rw [if_neg (by omega), if_neg (by omega)]
      by_cases h3 : sameB g h = false
      · rw [if_pos h3] at k; cases k
      · have h4 : sameB g h = true := by simpa using h3
        obtain ⟨e1, e2, e3, e4, e5⟩ := (sameB_iff _ _).1 h4
        rw [if_neg (by rw [(sameB_iff h g).2 ⟨e1.symm, e2.symm, e3.symm, e4.symm, e5.symm⟩]; decide)]
    · rw [if_neg (by omega), if_pos h2] at k; exact absurd k h2
  · rw [if_pos h1] at k; exact absurd k h1
set_option maxHeartbeats 16000000 in
set_option maxRecDepth 100000 in
theorem me_ok (g h : Gr) (w : World) (A B : Option Addr) (c d : Nat) (hl : g.L.length ≤ maxLen) (hm : h.L.length ≤ maxLen) (hA : Row 1 encZ w A g.L) (hB : Row 1 encZ w B h.L) (h0 : twoE g h = 0) (hf : fewB g = true) (hf2 : fewB h = true) :
    Calls Try.prog 6 #[.agg #[.int .i64 g.X, .int .i64 g.Y, .int .i64 g.S, .int .i64 g.C, .int .i64 g.R, .slice A g.L.length c], .agg #[.int .i64 h.X, .int .i64 h.Y, .int .i64 h.S, .int .i64 h.C, .int .i64 h.R, .slice B h.L.length d]] w fun e w' => e = .returned (.bool true) ∧ Ext w w' := by
  obtain ⟨vg, vh, hsame, hn⟩ := twoE_ok h0
  have hl2 := fewB_len hf
  have hm2 := fewB_len hf2
  have hpos : 0 < h.L.length := by
    obtain ⟨cn, rn, e1, e2, e3, e4, e5, e6, e7, e8⟩ := vh.nat
    rw [e7]; exact Nat.mul_pos (by omega) (by omega)
  have HF := Lib.hid (fun w' (hw : Ext w w') => by have h := few_c g w' A c hl (hA.ext hw); rw [hf] at h; exact h)
  have HF2 := Lib.hid (fun w' (hw : Ext w w') => by have h := few_c h w' B d hm (hB.ext hw); rw [hf2] at h; exact h)
  have HC1 := Lib.hid (fun w' (hw : Ext w w') => copyGrid_c g w' A c (by omega) (hA.ext hw))
  have HC2 := Lib.hid (fun w' (hw : Ext w w') => copyGrid_c h w' B d (by omega) (hB.ext hw))
  have HL := Lib.hid (fun w' (_ : Ext w w') A' B' c' d' (h1 : Row 1 encZ w' A' g.L) (h2 : Row 1 encZ w' B' h.L) => (latest_ok_c g h w' A' B' c' d' h1 h2 h0).mono fun e w'' k => And.intro k.1.re k.2)
  have HS := Lib.hid (fun w' (hw : Ext w w') => (shoalest_ok_c g h w' A B c d (hA.ext hw) (hB.ext hw) h0).mono fun e w'' k => And.intro k.1.re k.2)
  have HT := Lib.hid (fun w' (hw : Ext w w') => (shoalest_ok_c h g w' B A d c (hB.ext hw) (hA.ext hw) (twoE_flip h0)).mono fun e w'' k => And.intro k.1.re k.2)
  have HB := Lib.hid (fun w' (hw : Ext w w') => by have h9 := both_c g h w' A B c d hl hm (hA.ext hw) (hB.ext hw); rw [h0] at h9; exact h9)
  have HRL := Lib.hid (fun w' (hw : Ext w w') => (rlatest_c g h w' A B c d hpos hm2 hn (hA.ext hw) (hB.ext hw)).mono fun e w'' k => And.intro k.1.re k.2)
  have HRS := Lib.hid (fun w' (hw : Ext w w') => (rshoalest_c g h w' A B c d hpos hm2 hn (hA.ext hw) (hB.ext hw)).mono fun e w'' k => And.intro k.1.re k.2)
  have HSG : Hid (∀ (L : List Int), L.length = g.L.length → ∀ w' A' B' c' d', Row 1 encZ w' A' L → Row 1 encZ w' B' L → Calls Try.prog 39 #[.agg #[.int .i64 g.X, .int .i64 g.Y, .int .i64 g.S, .int .i64 g.C, .int .i64 g.R, .slice A' g.L.length c'], .agg #[.int .i64 h.X, .int .i64 h.Y, .int .i64 h.S, .int .i64 h.C, .int .i64 h.R, .slice B' h.L.length d']] w' fun e w'' => e = .returned (.bool true) ∧ Ext w' w'') := Lib.hid fun L hL w' A' B' c' d' r1 r2 => by
    have h9 := sameGrid_c ⟨g.X, g.Y, g.S, g.C, g.R, L⟩ ⟨h.X, h.Y, h.S, h.C, h.R, L⟩ w' A' B' c' d' (by show L.length ≤ _; omega) r1 r2
    have h8 : sameB ⟨g.X, g.Y, g.S, g.C, g.R, L⟩ ⟨h.X, h.Y, h.S, h.C, h.R, L⟩ = true := (sameB_iff _ _).2 hsame
    rw [h8, decide_eq_true rfl] at h9
    have h10 : Calls Try.prog 39 #[.agg #[.int .i64 g.X, .int .i64 g.Y, .int .i64 g.S, .int .i64 g.C, .int .i64 g.R, .slice A' L.length c'], .agg #[.int .i64 h.X, .int .i64 h.Y, .int .i64 h.S, .int .i64 h.C, .int .i64 h.R, .slice B' L.length d']] w' fun e w'' => e = .returned (.bool true) ∧ Ext w' w'' := h9
    rw [hL] at h10
    rw [← hn]
    exact h10
  have e1 : mkL (laF g h) h.L.length = mkL (joF opL g h) g.L.length := by rw [hn]; exact mkL_congr fun i _ => (joL_la g h i).symm
  have e2 : mkL (shF g h) h.L.length = mkL (joF opS g h) g.L.length := by rw [hn]; exact mkL_congr fun i _ => (joS_sh g h i).symm
  have e3 : mkL (joF opS h g) h.L.length = mkL (joF opS g h) g.L.length := by rw [hn]; exact mkL_congr fun i _ => (joS_comm g h i).symm
  rw [e1] at HRL
  rw [e2] at HRS
  rw [e3] at HT
  have HGE := Lib.hid (fun i (hi : i < g.L.length) => show (gi g.L i ≠ 30000 → gi g.L i ≤ gi (mkL (joF opS g h) g.L.length) i) ∧ (gi h.L i ≠ 30000 → gi h.L i ≤ gi (mkL (joF opS g h) g.L.length) i) from by rw [gi_mkL _ _ _ hi]; exact joS_ge g h i)
  obtain ⟨L1, hL1⟩ : ∃ L, mkL (joF opL g h) g.L.length = L := ⟨_, rfl⟩
  obtain ⟨L2, hL2⟩ : ∃ L, mkL (joF opS g h) g.L.length = L := ⟨_, rfl⟩
  have n1 : Hid (L1.length = g.L.length) := Lib.hid (by rw [← hL1, mkL_len])
  have n2 : Hid (L2.length = g.L.length) := Lib.hid (by rw [← hL2, mkL_len])
  rw [hL1] at HL HRL
  rw [hL2] at HS HT HRS HGE
  have HSG1 := Lib.hid (HSG.out L1 n1.out)
  have HSG2 := Lib.hid (HSG.out L2 n2.out)
  have HN := Lib.hid hn
  have HAA := Lib.hid hA
  have HBB := Lib.hid hB
  clear hsame hn hpos e1 e2 e3 hL1 hL2 HSG vg vh h0 hf hf2 hA hB
  go_enter Try.func6, Try.ntmps6
  go_upto_region 5 with (first | (go_at_call 16; with_reducible refine Calls.mono (awake_c _) ?_; rintro e wa ⟨rfl, hb⟩; have hc := hb.ccell; have hf := hb.frz; have hs := hb.sz; (try simp at hs); (try have t0 := hs (w.heap.size) (by first | assumption | omega)); (try have t1 := hs (w.heap.size + 1) (by first | assumption | omega)); (try have t2 := hs (w.heap.size) (by first | assumption | omega)); (try have t3 := hs (w.heap.size) (by first | assumption | omega)); (try have t4 := hs (w.heap.size) (by first | assumption | omega)); (try have t5 := hs (w.heap.size) (by first | assumption | omega))) | (go_at_call 17; with_reducible refine Calls.mono (HF.out _ (by (repeat (first | with_reducible exact Ext.rfl' _ | with_reducible assumption | with_reducible refine Ext.al ?_ _ | with_reducible refine Ext.dr ?_ | with_reducible refine Ext.st ?_ (by simp) _ | with_reducible refine Ext.tr ?_ (by assumption))))) ?_; rintro e wx ⟨rfl, hb⟩; have hc := hb.ccell; have hf := hb.frz; have hs := hb.sz; (try simp at hs); (try have t0 := hs (w.heap.size) (by first | assumption | omega)); (try have t1 := hs (w.heap.size + 1) (by first | assumption | omega)); (try have t2 := hs (w.heap.size) (by first | assumption | omega)); (try have t3 := hs (w.heap.size) (by first | assumption | omega)); (try have t4 := hs (w.heap.size) (by first | assumption | omega)); (try have t5 := hs (w.heap.size) (by first | assumption | omega))) | (go_at_call 17; with_reducible refine Calls.mono (HF2.out _ (by (repeat (first | with_reducible exact Ext.rfl' _ | with_reducible assumption | with_reducible refine Ext.al ?_ _ | with_reducible refine Ext.dr ?_ | with_reducible refine Ext.st ?_ (by simp) _ | with_reducible refine Ext.tr ?_ (by assumption))))) ?_; rintro e wf ⟨rfl, hb⟩; have hc := hb.ccell; have hf := hb.frz; have hs := hb.sz; (try simp at hs); (try have t0 := hs (w.heap.size) (by first | assumption | omega)); (try have t1 := hs (w.heap.size + 1) (by first | assumption | omega)); (try have t2 := hs (w.heap.size) (by first | assumption | omega)); (try have t3 := hs (w.heap.size) (by first | assumption | omega)); (try have t4 := hs (w.heap.size) (by first | assumption | omega)); (try have t5 := hs (w.heap.size) (by first | assumption | omega))))
  have hEW : Ext w wf := by (repeat (first | with_reducible exact Ext.rfl' _ | with_reducible assumption | with_reducible refine Ext.al ?_ _ | with_reducible refine Ext.dr ?_ | with_reducible refine Ext.st ?_ (by simp) _ | with_reducible refine Ext.tr ?_ (by assumption)))
  have kg : CellsAt wf w.heap.size 0 [.int .i64 g.X, .int .i64 g.Y, .int .i64 g.S, .int .i64 g.C, .int .i64 g.R, .slice A g.L.length c] := by refine cells_six ⟨?_, ?_, ?_, ?_, ?_, ?_⟩ <;> simp [*, go_sem]
  have kh : CellsAt wf (w.heap.size + 1) 0 [.int .i64 h.X, .int .i64 h.Y, .int .i64 h.S, .int .i64 h.C, .int .i64 h.R, .slice B h.L.length d] := by refine cells_six ⟨?_, ?_, ?_, ?_, ?_, ?_⟩ <;> simp [*, go_sem]
  have zg : w.heap.size < wf.heap.size := by assumption
  have zh : w.heap.size + 1 < wf.heap.size := by assumption
  clear hb hc hf hs t0 t1 t2 t3 t4 t5
  generalize w.heap.size + 1 = nh at *
  go_cut [5, 6] (fun s5 s6 wx => ∃ (b7 : Nat) (A4 : Option Addr) (c4 : Nat), s5 = .pointer (some ⟨b7, 0, none⟩) ∧ s6 = .int .i64 0 ∧ Ext wf wx ∧ b7 < wx.heap.size ∧ CellsAt wx b7 0 [.int .i64 g.X, .int .i64 g.Y, .int .i64 g.S, .int .i64 g.C, .int .i64 g.R, .slice A4 g.L.length c4] ∧ Row 1 encZ wx A4 L1)
  case first =>
    clear HF HF2 HS HB HT HRL HRS HSG1 HSG2 HGE
    obtain ⟨g0, g1, g2, g3, g4, g5⟩ := kg.six
    obtain ⟨k0, k1, k2, k3, k4, k5⟩ := kh.six
    go_region_held3 (fun w' => (∀ j : Nat, w'.cell? ⟨w.heap.size, j, none⟩ = wf.cell? ⟨w.heap.size, j, none⟩) ∧ (∀ j : Nat, w'.cell? ⟨nh, j, none⟩ = wf.cell? ⟨nh, j, none⟩) ∧ Ext wf w') ((refine keepP2 ?_ zg zh; (repeat (first | with_reducible exact Ext.rfl' _ | with_reducible assumption | with_reducible refine Ext.al ?_ _ | with_reducible refine Ext.dr ?_ | with_reducible refine Ext.st ?_ (by first | (simp; done) | ((try have h9 := Below.size hb2); (try have h8 := Below.size hb3); (try have h7 := Below.size hb4); (try simp at h9); (try simp at h8); (try simp at h7); (try simp); omega)) _ | with_reducible refine Ext.tr ?_ (by with_reducible assumption) | (with_reducible exact (by with_reducible assumption : _ ∧ _ ∧ Ext wf _).2.2))))) (first | (go_at_call 19; (with_reducible refine Calls.mono (HC1.out _ (by (repeat (first | with_reducible exact Ext.rfl' _ | with_reducible assumption | with_reducible refine Ext.al ?_ _ | with_reducible refine Ext.dr ?_ | with_reducible refine Ext.st ?_ (by simp) _ | with_reducible refine Ext.tr ?_ (by assumption))))) ?_); rintro e w2 ⟨⟨A2, c2, rfl, hN2⟩, hb2⟩; have hc2 := hb2.ccell; have hf2 := hb2.frz; have hs2 := hb2.sz; (try have t2 := hs2 wf.heap.size (by first | assumption | (simp; done) | (simp; omega)))) | (go_at_call 19; (with_reducible refine Calls.mono (HC2.out _ (by (repeat (first | with_reducible exact Ext.rfl' _ | with_reducible assumption | with_reducible refine Ext.al ?_ _ | with_reducible refine Ext.dr ?_ | with_reducible refine Ext.st ?_ (by simp) _ | with_reducible refine Ext.tr ?_ (by assumption))))) ?_); rintro e w3 ⟨⟨A3, c3, rfl, hN3⟩, hb3⟩; have hc3 := hb3.ccell; have hf3 := hb3.frz; have hs3 := hb3.sz; (try have t3 := hs3 wf.heap.size (by first | assumption | (simp; done) | (simp; omega))); (try have t3' := hs3 w2.heap.size (by first | assumption | (simp; done) | (simp; omega)))) | (go_at_call 36; (with_reducible refine Calls.mono (HL.out _ (by (repeat (first | with_reducible exact Ext.rfl' _ | with_reducible assumption | with_reducible refine Ext.al ?_ _ | with_reducible refine Ext.dr ?_ | with_reducible refine Ext.st ?_ (by simp) _ | with_reducible refine Ext.tr ?_ (by assumption)))) _ _ _ _ (hN2.row.ext (by (repeat (first | with_reducible exact Ext.rfl' _ | with_reducible assumption | with_reducible refine Ext.al ?_ _ | with_reducible refine Ext.dr ?_ | with_reducible refine Ext.st ?_ (by simp) _ | with_reducible refine Ext.tr ?_ (by assumption))))) (hN3.row.ext (by (repeat (first | with_reducible exact Ext.rfl' _ | with_reducible assumption | with_reducible refine Ext.al ?_ _ | with_reducible refine Ext.dr ?_ | with_reducible refine Ext.st ?_ (by simp) _ | with_reducible refine Ext.tr ?_ (by assumption)))))) ?_); rintro e w4 ⟨⟨A4, c4, rfl, hN4⟩, hb4⟩; have hc4 := hb4.ccell; have hf4 := hb4.frz; have hs4 := hb4.sz; (try have t4 := hs4 wf.heap.size (by first | assumption | (simp; done) | (simp; omega))); (try have t4' := hs4 w2.heap.size (by first | assumption | (simp; done) | (simp; omega))); (try have t4'' := hs4 w3.heap.size (by first | assumption | (simp; done) | (simp; omega)))))
    all_goals
      rename_i hJ hK h1 h2 hH
      clear hH
      refine h2 _ _ (Met.intro (h1 _ _ ?_))
      (repeat apply Exists.intro)
      refine ⟨?_, rfl⟩
      refine ⟨_, A4, c4, rfl, rfl, ?_, ?_, ?_, ?_⟩
      · (repeat (first | with_reducible exact Ext.rfl' _ | with_reducible assumption | with_reducible refine Ext.al ?_ _ | with_reducible refine Ext.dr ?_ | with_reducible refine Ext.st ?_ (by first | (simp; done) | ((try have h9 := Below.size hb2); (try have h8 := Below.size hb3); (try have h7 := Below.size hb4); (try simp at h9); (try simp at h8); (try simp at h7); (try simp); omega)) _ | with_reducible refine Ext.tr ?_ (by with_reducible assumption) | (with_reducible exact (by with_reducible assumption : _ ∧ _ ∧ Ext wf _).2.2)))
      · first | (simp; done) | ((try have h9 := Below.size hb2); (try have h8 := Below.size hb3); (try have h7 := Below.size hb4); (try simp at h9); (try simp at h8); (try simp at h7); (try simp); omega)
      · first | (refine cells_six ⟨?_, ?_, ?_, ?_, ?_, ?_⟩ <;> (simp [go_sem]; done)) | (refine cells_six ⟨?_, ?_, ?_, ?_, ?_, ?_⟩ <;> (simp [*, go_sem]; done))
      · first | (with_reducible refine hN4.row.ext ?_; ((repeat (first | with_reducible exact Ext.rfl' _ | with_reducible assumption | with_reducible refine Ext.al ?_ _ | with_reducible refine Ext.dr ?_ | with_reducible refine Ext.st ?_ (by first | (simp; done) | ((try have h9 := Below.size hb2); (try have h8 := Below.size hb3); (try have h7 := Below.size hb4); (try simp at h9); (try simp at h8); (try simp at h7); (try simp); omega)) _ | with_reducible refine Ext.tr ?_ (by with_reducible assumption) | (with_reducible exact (by with_reducible assumption : _ ∧ _ ∧ Ext wf _).2.2)))); done) | (refine (((((((hN4.st ?_ _).st ?_ _).st ?_ _).st ?_ _).st ?_ _).st ?_ _)).row; all_goals (first | (simp; done) | ((try have h9 := Below.size hb2); (try have h8 := Below.size hb3); (try have h7 := Below.size hb4); (try simp at h9); (try simp at h8); (try simp at h7); (try simp); omega)))
  case rest =>
    obtain ⟨b7, A4, c4, rfl, rfl, hx, hz7, k7, hR4⟩ := hcut
    obtain ⟨w9, hw9⟩ : ∃ w9, w9 = wc := ⟨_, rfl⟩
    subst hw9
    have hEc := hEW.tr hx
    have kg2 := kg.ext hx zg
    have kh2 := kh.ext hx zh
    have zg2 := hx.sz _ zg
    have zh2 := hx.sz _ zh
    obtain ⟨g0, g1, g2, g3, g4, g5⟩ := kg2.six
    obtain ⟨k0, k1, k2, k3, k4, k5⟩ := kh2.six
    have HR4 := Lib.hid hR4
    have K7 := Lib.hid k7
    clear kg kh zg zh hx hEW HC1 HC2 HL hR4 k7
    go_upto_region 11 with (first | (go_at_call 37; (with_reducible refine Calls.mono (HS.out _ (by (repeat (first | with_reducible exact Ext.rfl' _ | with_reducible assumption | with_reducible refine Ext.al ?_ _ | with_reducible refine Ext.dr ?_ | with_reducible refine Ext.st ?_ (by simp) _ | with_reducible refine Ext.tr ?_ (by assumption))))) ?_); rintro e ws ⟨⟨A5, c5, rfl, hN5⟩, hb⟩; have hc := hb.ccell; have hf := hb.frz; have hs := hb.sz; (try simp at hs); (try have t0 := hs (w.heap.size) (by first | assumption | omega)); (try have t1 := hs (nh) (by first | assumption | omega)); (try have t2 := hs (b7) (by first | assumption | omega)); (try have t3 := hs (w.heap.size) (by first | assumption | omega)); (try have t4 := hs (w.heap.size) (by first | assumption | omega)); (try have t5 := hs (w.heap.size) (by first | assumption | omega))) | (go_at_call 38; with_reducible refine Calls.mono (HB.out _ (by (repeat (first | with_reducible exact Ext.rfl' _ | with_reducible assumption | with_reducible refine Ext.al ?_ _ | with_reducible refine Ext.dr ?_ | with_reducible refine Ext.st ?_ (by simp) _ | with_reducible refine Ext.tr ?_ (by assumption))))) ?_; rintro e wb ⟨rfl, hb⟩; have hc := hb.ccell; have hf := hb.frz; have hs := hb.sz; (try simp at hs); (try have t0 := hs (w.heap.size) (by first | assumption | omega)); (try have t1 := hs (nh) (by first | assumption | omega)); (try have t2 := hs (b7) (by first | assumption | omega)); (try have t3 := hs (ws.heap.size) (by first | assumption | omega)); (try have t4 := hs (w.heap.size) (by first | assumption | omega)); (try have t5 := hs (w.heap.size) (by first | assumption | omega))) | (go_at_call 37; (with_reducible refine Calls.mono (HT.out _ (by (repeat (first | with_reducible exact Ext.rfl' _ | with_reducible assumption | with_reducible refine Ext.al ?_ _ | with_reducible refine Ext.dr ?_ | with_reducible refine Ext.st ?_ (by simp) _ | with_reducible refine Ext.tr ?_ (by assumption))))) ?_); rintro e wt ⟨⟨A6, c6, rfl, hN6⟩, hb⟩; have hc := hb.ccell; have hf := hb.frz; have hs := hb.sz; (try simp at hs); (try have t0 := hs (w.heap.size) (by first | assumption | omega)); (try have t1 := hs (nh) (by first | assumption | omega)); (try have t2 := hs (b7) (by first | assumption | omega)); (try have t3 := hs (ws.heap.size) (by first | assumption | omega)); (try have t4 := hs (w.heap.size) (by first | assumption | omega)); (try have t5 := hs (w.heap.size) (by first | assumption | omega))))
    refine wp_name (fun wz hW => ?_)
    have hX : Ext w9 wz := by rw [hW]; (repeat (first | with_reducible exact Ext.rfl' _ | with_reducible assumption | with_reducible refine Ext.al ?_ _ | with_reducible refine Ext.dr ?_ | with_reducible refine Ext.st ?_ (by simp) _ | with_reducible refine Ext.tr ?_ (by assumption)))
    have HW := Lib.hid hW
    clear hW
    have q5 : CellsAt wz ws.heap.size 0 [.int .i64 g.X, .int .i64 g.Y, .int .i64 g.S, .int .i64 g.C, .int .i64 g.R, .slice A5 g.L.length c5] := by rw [HW.out]; refine cells_six ⟨?_, ?_, ?_, ?_, ?_, ?_⟩ <;> simp [*, World.cell?_alloc_past, World.cell?_alloc_new, go_sem]
    have q6 : CellsAt wz wt.heap.size 0 [.int .i64 h.X, .int .i64 h.Y, .int .i64 h.S, .int .i64 h.C, .int .i64 h.R, .slice A6 h.L.length c6] := by rw [HW.out]; refine cells_six ⟨?_, ?_, ?_, ?_, ?_, ?_⟩ <;> simp [go_sem]
    have r5 : Hid (Row 1 encZ wz A5 L2) := Lib.hid (hN5.row.ext (by rw [HW.out]; (repeat (first | with_reducible exact Ext.rfl' _ | with_reducible assumption | with_reducible refine Ext.al ?_ _ | with_reducible refine Ext.dr ?_ | with_reducible refine Ext.st ?_ (by simp) _ | with_reducible refine Ext.tr ?_ (by assumption)))))
    have r6 : Hid (Row 1 encZ wz A6 L2) := Lib.hid (hN6.row.ext (by rw [HW.out]; (repeat (first | with_reducible exact Ext.rfl' _ | with_reducible assumption | with_reducible refine Ext.al ?_ _ | with_reducible refine Ext.dr ?_ | with_reducible refine Ext.st ?_ (by simp) _ | with_reducible refine Ext.tr ?_ (by assumption)))))
    have z5 : ws.heap.size < wz.heap.size := by rw [HW.out]; simp; omega
    have z6 : wt.heap.size < wz.heap.size := by rw [HW.out]; simp
    have hEz : Ext w wz := hEc.tr hX
    have z7 := hX.sz _ hz7
    have zgz := hX.sz _ zg2
    have zhz := hX.sz _ zh2
    have K7z := K7.out.ext hX hz7
    have kgz := kg2.ext hX zg2
    have khz := kh2.ext hX zh2
    have R4z := Lib.hid (HR4.out.ext hX)
    clear HW hb hc hf hs t0 t1 t2 t3 t4 t5 hN5 hN6 g0 g1 g2 g3 g4 g5 k0 k1 k2 k3 k4 k5 kg2 kh2 zg2 zh2 hz7 hX hEc HR4 K7 HS HT HB
    generalize ws.heap.size = bs at *
    generalize wt.heap.size = bt at *
    obtain ⟨g0, g1, g2, g3, g4, g5⟩ := kgz.six
    obtain ⟨k0, k1, k2, k3, k4, k5⟩ := khz.six
    obtain ⟨l0, l1, l2, l3, l4, l5⟩ := K7z.six
    obtain ⟨s0, s1, s2, s3, s4, s5⟩ := q5.six
    obtain ⟨t0, t1, t2, t3, t4, t5⟩ := q6.six
    refine wp_region_held_drew (S := (fun w' => (∀ j : Nat, w'.cell? ⟨w.heap.size, j, none⟩ = wz.cell? ⟨w.heap.size, j, none⟩) ∧ (∀ j : Nat, w'.cell? ⟨nh, j, none⟩ = wz.cell? ⟨nh, j, none⟩) ∧ (∀ j : Nat, w'.cell? ⟨b7, j, none⟩ = wz.cell? ⟨b7, j, none⟩) ∧ (∀ j : Nat, w'.cell? ⟨bs, j, none⟩ = wz.cell? ⟨bs, j, none⟩) ∧ (∀ j : Nat, w'.cell? ⟨bt, j, none⟩ = wz.cell? ⟨bt, j, none⟩) ∧ Ext wz w')) (by kernel_rfl) ?_ (fun hHeld => ?_)
    · (try dsimp only); refine keepM5 ?_ zgz zhz z7 z5 z6; (repeat (first | with_reducible exact Ext.rfl' _ | with_reducible assumption | (exact (by assumption : _ ∧ _ ∧ _ ∧ _ ∧ _ ∧ Ext wz _).2.2.2.2.2) | with_reducible refine Ext.al ?_ _ | with_reducible refine Ext.dr ?_ | with_reducible refine Ext.tr ?_ (by assumption)))
    refine wpAnyH_take (i := 0) (v := _) rfl (by kernel_rfl) (by kernel_rfl) (by kernel_rfl) (fun _ _ _ h => h) (Or.inl ⟨by kernel_rfl, by intro w hSw; (try dsimp only at hSw); go_simp; (try with_reducible rfl)⟩) (by assumption) ?_
    (try simp only [Act.put, List.getElem_toArray, List.getElem_cons_zero, List.setIfInBounds_toArray, List.set_cons_zero, List.set_cons_succ])
    refine wpAnyH_take (i := 1) (v := _) rfl (by kernel_rfl) (by kernel_rfl) (by kernel_rfl) (fun _ _ _ h => h) (Or.inl ⟨by kernel_rfl, by intro w hSw; (try dsimp only at hSw); go_simp; (try with_reducible rfl)⟩) (by assumption) ?_
    (try simp only [Act.put, List.getElem_toArray, List.getElem_cons_zero, List.getElem_cons_succ, List.setIfInBounds_toArray, List.set_cons_zero, List.set_cons_succ])
    refine wpAnyH_take (i := 2) (v := _) rfl (by kernel_rfl) (by kernel_rfl) (by kernel_rfl) (fun _ _ _ h => h) (Or.inl ⟨by kernel_rfl, by intro w hSw; (try dsimp only at hSw); go_simp; (try with_reducible rfl)⟩) (by assumption) ?_
    (try simp only [Act.put, List.getElem_toArray, List.getElem_cons_zero, List.getElem_cons_succ, List.setIfInBounds_toArray, List.set_cons_zero, List.set_cons_succ])
    refine wpAnyH_take (i := 3) (v := _) rfl (by kernel_rfl) (by kernel_rfl) (by kernel_rfl) (fun _ _ _ h => h) (Or.inl ⟨by kernel_rfl, by intro w hSw; (try dsimp only at hSw); go_simp; (try with_reducible rfl)⟩) (by assumption) ?_
    (try simp only [Act.put, List.getElem_toArray, List.getElem_cons_zero, List.getElem_cons_succ, List.setIfInBounds_toArray, List.set_cons_zero, List.set_cons_succ])
    refine wpAnyH_take (i := 4) (v := _) rfl (by kernel_rfl) (by kernel_rfl) (by kernel_rfl) (fun _ _ _ h => h) (Or.inl ⟨by kernel_rfl, by intro w hSw; (try dsimp only at hSw); go_simp; (try with_reducible rfl)⟩) (by assumption) ?_
    (try simp only [Act.put, List.getElem_toArray, List.getElem_cons_zero, List.getElem_cons_succ, List.setIfInBounds_toArray, List.set_cons_zero, List.set_cons_succ])
    refine wpAnyH_take (i := 5) (v := _) rfl (by kernel_rfl) (by kernel_rfl) (by kernel_rfl) (fun _ _ _ h => h) (Or.inl ⟨by kernel_rfl, by intro w hSw; (try dsimp only at hSw); go_simp; (try with_reducible rfl)⟩) (by assumption) ?_
    (try simp only [Act.put, List.getElem_toArray, List.getElem_cons_zero, List.getElem_cons_succ, List.setIfInBounds_toArray, List.set_cons_zero, List.set_cons_succ])
    refine wpAnyH_take (i := 6) (v := _) rfl (by kernel_rfl) (by kernel_rfl) (by kernel_rfl) (fun _ _ _ h => h) (Or.inl ⟨by kernel_rfl, by intro w hSw; (try dsimp only at hSw); go_simp; (try with_reducible rfl)⟩) (by assumption) ?_
    (try simp only [Act.put, List.getElem_toArray, List.getElem_cons_zero, List.getElem_cons_succ, List.setIfInBounds_toArray, List.set_cons_zero, List.set_cons_succ])
    refine wpAnyH_take (i := 7) (v := _) rfl (by kernel_rfl) (by kernel_rfl) (by kernel_rfl) (fun _ _ _ h => h) (Or.inl ⟨by kernel_rfl, by intro w hSw; (try dsimp only at hSw); go_simp; (try with_reducible rfl)⟩) (by assumption) ?_
    (try simp only [Act.put, List.getElem_toArray, List.getElem_cons_zero, List.getElem_cons_succ, List.setIfInBounds_toArray, List.set_cons_zero, List.set_cons_succ])
    refine wpAnyH_take (i := 8) (v := _) rfl (by kernel_rfl) (by kernel_rfl) (by kernel_rfl) (fun _ _ _ h => h) (Or.inl ⟨by kernel_rfl, by intro w hSw; (try dsimp only at hSw); go_simp; (try with_reducible rfl)⟩) (by assumption) ?_
    (try simp only [Act.put, List.getElem_toArray, List.getElem_cons_zero, List.getElem_cons_succ, List.setIfInBounds_toArray, List.set_cons_zero, List.set_cons_succ])
    refine wpAnyH_take (i := 9) (v := _) rfl (by kernel_rfl) (by kernel_rfl) (by kernel_rfl) (fun _ _ _ h => h) (Or.inl ⟨by kernel_rfl, by intro w hSw; (try dsimp only at hSw); go_simp; (try with_reducible rfl)⟩) (by assumption) ?_
    (try simp only [Act.put, List.getElem_toArray, List.getElem_cons_zero, List.getElem_cons_succ, List.setIfInBounds_toArray, List.set_cons_zero, List.set_cons_succ])
    refine wpAnyH_take (i := 10) (v := _) rfl (by kernel_rfl) (by kernel_rfl) (by kernel_rfl) (fun _ _ _ h => h) (Or.inl ⟨by kernel_rfl, by intro w hSw; (try dsimp only at hSw); go_simp; (try with_reducible rfl)⟩) (by assumption) ?_
    (try simp only [Act.put, List.getElem_toArray, List.getElem_cons_zero, List.getElem_cons_succ, List.setIfInBounds_toArray, List.set_cons_zero, List.set_cons_succ])
    refine wpAnyH_take (i := 11) (v := _) rfl (by kernel_rfl) (by kernel_rfl) (by kernel_rfl) (fun _ _ _ h => h) (Or.inl ⟨by kernel_rfl, by intro w hSw; (try dsimp only at hSw); go_simp; (try with_reducible rfl)⟩) (by assumption) ?_
    (try simp only [Act.put, List.getElem_toArray, List.getElem_cons_zero, List.getElem_cons_succ, List.setIfInBounds_toArray, List.set_cons_zero, List.set_cons_succ])
    refine wpAnyH_take (i := 12) (v := _) rfl (by kernel_rfl) (by kernel_rfl) (by kernel_rfl) (fun _ _ _ h => h) (Or.inl ⟨by kernel_rfl, by intro w hSw; (try dsimp only at hSw); go_simp; (try with_reducible rfl)⟩) (by assumption) ?_
    (try simp only [Act.put, List.getElem_toArray, List.getElem_cons_zero, List.getElem_cons_succ, List.setIfInBounds_toArray, List.set_cons_zero, List.set_cons_succ])
    refine wpAnyH_take (i := 13) (v := _) rfl (by kernel_rfl) (by kernel_rfl) (by kernel_rfl) (fun _ _ _ h => h) (Or.inl ⟨by kernel_rfl, by intro w hSw; (try dsimp only at hSw); go_simp; (try with_reducible rfl)⟩) (by assumption) ?_
    (try simp only [Act.put, List.getElem_toArray, List.getElem_cons_zero, List.getElem_cons_succ, List.setIfInBounds_toArray, List.set_cons_zero, List.set_cons_succ])
    refine wpAnyH_ready (rs := [14]) (by kernel_rfl) (by simp) ?_
    refine AllReadyH.cons (o := _) rfl (fun K hK => ?_) AllReadyH.nil
    go_simp
    (go_at_call 40; refine Calls.mono (HRL.out _ (hEz.tr (Ext.dr (Ext.rfl' _)))) ?_; rintro e w1 ⟨⟨A7, c7, rfl, hN7⟩, hb1⟩)
    refine hK.out _ _ ?_ (fun hHeld => ?_)
    · (try dsimp only); refine keepM5 ?_ zgz zhz z7 z5 z6; (repeat (first | with_reducible exact Ext.rfl' _ | with_reducible assumption | (exact (by assumption : _ ∧ _ ∧ _ ∧ _ ∧ _ ∧ Ext wz _).2.2.2.2.2) | with_reducible refine Ext.al ?_ _ | with_reducible refine Ext.dr ?_ | with_reducible refine Ext.tr ?_ (by assumption)))
    clear hK K
    (try simp only [Act.put, List.getElem_toArray, List.getElem_cons_zero, List.getElem_cons_succ, List.setIfInBounds_toArray, List.set_cons_zero, List.set_cons_succ])
    have hx1 := hHeld.2.2.2.2.2
    have hr7 := hN7.row
    refine wpAnyH_ready (rs := [15]) (by kernel_rfl) (by simp) ?_
    refine AllReadyH.cons (o := _) rfl (fun K hK => ?_) AllReadyH.nil
    go_simp
    (go_at_call 39; refine Calls.mono (HSG1.out _ _ _ _ _ (R4z.out.ext hx1) hr7) ?_; rintro e w2 ⟨rfl, hb2⟩)
    refine hK.out _ _ ?_ (fun hHeld => ?_)
    · (try dsimp only); refine keepM5 ?_ zgz zhz z7 z5 z6; (repeat (first | with_reducible exact Ext.rfl' _ | with_reducible assumption | (exact (by assumption : _ ∧ _ ∧ _ ∧ _ ∧ _ ∧ Ext wz _).2.2.2.2.2) | with_reducible refine Ext.al ?_ _ | with_reducible refine Ext.dr ?_ | with_reducible refine Ext.tr ?_ (by assumption)))
    clear hK K
    (try simp only [Act.put, List.getElem_toArray, List.getElem_cons_zero, List.getElem_cons_succ, List.setIfInBounds_toArray, List.set_cons_zero, List.set_cons_succ])
    have hx2 := hHeld.2.2.2.2.2
    clear hr7 hN7 hx1
    refine wpAnyH_take (i := 16) (v := _) rfl (by kernel_rfl) (by kernel_rfl) (by kernel_rfl) (fun _ _ _ h => h) (Or.inl ⟨by kernel_rfl, by intro w hSw; (try dsimp only at hSw); go_simp; (try with_reducible rfl)⟩) (by assumption) ?_
    (try simp only [Act.put, List.getElem_toArray, List.getElem_cons_zero, List.getElem_cons_succ, List.setIfInBounds_toArray, List.set_cons_zero, List.set_cons_succ])
    refine wpAnyH_take (i := 17) (v := _) rfl (by kernel_rfl) (by kernel_rfl) (by kernel_rfl) (fun _ _ _ h => h) (Or.inl ⟨by kernel_rfl, by intro w hSw; (try dsimp only at hSw); go_simp; (try with_reducible rfl)⟩) (by assumption) ?_
    (try simp only [Act.put, List.getElem_toArray, List.getElem_cons_zero, List.getElem_cons_succ, List.setIfInBounds_toArray, List.set_cons_zero, List.set_cons_succ])
    refine wpAnyH_take (i := 18) (v := _) rfl (by kernel_rfl) (by kernel_rfl) (by kernel_rfl) (fun _ _ _ h => h) (Or.inl ⟨by kernel_rfl, by intro w hSw; (try dsimp only at hSw); go_simp; (try with_reducible rfl)⟩) (by assumption) ?_
    (try simp only [Act.put, List.getElem_toArray, List.getElem_cons_zero, List.getElem_cons_succ, List.setIfInBounds_toArray, List.set_cons_zero, List.set_cons_succ])
    refine wpAnyH_take (i := 19) (v := _) rfl (by kernel_rfl) (by kernel_rfl) (by kernel_rfl) (fun _ _ _ h => h) (Or.inl ⟨by kernel_rfl, by intro w hSw; (try dsimp only at hSw); go_simp; (try with_reducible rfl)⟩) (by assumption) ?_
    (try simp only [Act.put, List.getElem_toArray, List.getElem_cons_zero, List.getElem_cons_succ, List.setIfInBounds_toArray, List.set_cons_zero, List.set_cons_succ])
    refine wpAnyH_take (i := 20) (v := _) rfl (by kernel_rfl) (by kernel_rfl) (by kernel_rfl) (fun _ _ _ h => h) (Or.inl ⟨by kernel_rfl, by intro w hSw; (try dsimp only at hSw); go_simp; (try with_reducible rfl)⟩) (by assumption) ?_
    (try simp only [Act.put, List.getElem_toArray, List.getElem_cons_zero, List.getElem_cons_succ, List.setIfInBounds_toArray, List.set_cons_zero, List.set_cons_succ])
    refine wpAnyH_take (i := 21) (v := _) rfl (by kernel_rfl) (by kernel_rfl) (by kernel_rfl) (fun _ _ _ h => h) (Or.inl ⟨by kernel_rfl, by intro w hSw; (try dsimp only at hSw); go_simp; (try with_reducible rfl)⟩) (by assumption) ?_
    (try simp only [Act.put, List.getElem_toArray, List.getElem_cons_zero, List.getElem_cons_succ, List.setIfInBounds_toArray, List.set_cons_zero, List.set_cons_succ])
    refine wpAnyH_ready (rs := [22]) (by kernel_rfl) (by simp) ?_
    refine AllReadyH.cons (o := _) rfl (fun K hK => ?_) AllReadyH.nil
    go_simp
    (go_at_call 41; refine Calls.mono (HRS.out _ (hEz.tr hx2)) ?_; rintro e w3 ⟨⟨A8, c8, rfl, hN8⟩, hb3⟩)
    refine hK.out _ _ ?_ (fun hHeld => ?_)
    · (try dsimp only); refine keepM5 ?_ zgz zhz z7 z5 z6; (repeat (first | with_reducible exact Ext.rfl' _ | with_reducible assumption | (exact (by assumption : _ ∧ _ ∧ _ ∧ _ ∧ _ ∧ Ext wz _).2.2.2.2.2) | with_reducible refine Ext.al ?_ _ | with_reducible refine Ext.dr ?_ | with_reducible refine Ext.tr ?_ (by assumption)))
    clear hK K
    (try simp only [Act.put, List.getElem_toArray, List.getElem_cons_zero, List.getElem_cons_succ, List.setIfInBounds_toArray, List.set_cons_zero, List.set_cons_succ])
    have hx3 := hHeld.2.2.2.2.2
    have hr8 := hN8.row
    refine wpAnyH_ready (rs := [23]) (by kernel_rfl) (by simp) ?_
    refine AllReadyH.cons (o := _) rfl (fun K hK => ?_) AllReadyH.nil
    go_simp
    (go_at_call 39; refine Calls.mono (HSG2.out _ _ _ _ _ (r5.out.ext hx3) hr8) ?_; rintro e w4 ⟨rfl, hb4⟩)
    refine hK.out _ _ ?_ (fun hHeld => ?_)
    · (try dsimp only); refine keepM5 ?_ zgz zhz z7 z5 z6; (repeat (first | with_reducible exact Ext.rfl' _ | with_reducible assumption | (exact (by assumption : _ ∧ _ ∧ _ ∧ _ ∧ _ ∧ Ext wz _).2.2.2.2.2) | with_reducible refine Ext.al ?_ _ | with_reducible refine Ext.dr ?_ | with_reducible refine Ext.tr ?_ (by assumption)))
    clear hK K
    (try simp only [Act.put, List.getElem_toArray, List.getElem_cons_zero, List.getElem_cons_succ, List.setIfInBounds_toArray, List.set_cons_zero, List.set_cons_succ])
    have hx4 := hHeld.2.2.2.2.2
    clear hr8 hN8 hx3 hx2
    refine wpAnyH_take (i := 24) (v := _) rfl (by kernel_rfl) (by kernel_rfl) (by kernel_rfl) (fun _ _ _ h => h) (Or.inl ⟨by kernel_rfl, by intro w hSw; (try dsimp only at hSw); go_simp; (try with_reducible rfl)⟩) (by assumption) ?_
    (try simp only [Act.put, List.getElem_toArray, List.getElem_cons_zero, List.getElem_cons_succ, List.setIfInBounds_toArray, List.set_cons_zero, List.set_cons_succ])
    refine wpAnyH_take (i := 25) (v := _) rfl (by kernel_rfl) (by kernel_rfl) (by kernel_rfl) (fun _ _ _ h => h) (Or.inl ⟨by kernel_rfl, by intro w hSw; (try dsimp only at hSw); go_simp; (try with_reducible rfl)⟩) (by assumption) ?_
    (try simp only [Act.put, List.getElem_toArray, List.getElem_cons_zero, List.getElem_cons_succ, List.setIfInBounds_toArray, List.set_cons_zero, List.set_cons_succ])
    refine wpAnyH_take (i := 26) (v := _) rfl (by kernel_rfl) (by kernel_rfl) (by kernel_rfl) (fun _ _ _ h => h) (Or.inl ⟨by kernel_rfl, by intro w hSw; (try dsimp only at hSw); go_simp; (try with_reducible rfl)⟩) (by assumption) ?_
    (try simp only [Act.put, List.getElem_toArray, List.getElem_cons_zero, List.getElem_cons_succ, List.setIfInBounds_toArray, List.set_cons_zero, List.set_cons_succ])
    refine wpAnyH_take (i := 27) (v := _) rfl (by kernel_rfl) (by kernel_rfl) (by kernel_rfl) (fun _ _ _ h => h) (Or.inl ⟨by kernel_rfl, by intro w hSw; (try dsimp only at hSw); go_simp; (try with_reducible rfl)⟩) (by assumption) ?_
    (try simp only [Act.put, List.getElem_toArray, List.getElem_cons_zero, List.getElem_cons_succ, List.setIfInBounds_toArray, List.set_cons_zero, List.set_cons_succ])
    refine wpAnyH_take (i := 28) (v := _) rfl (by kernel_rfl) (by kernel_rfl) (by kernel_rfl) (fun _ _ _ h => h) (Or.inl ⟨by kernel_rfl, by intro w hSw; (try dsimp only at hSw); go_simp; (try with_reducible rfl)⟩) (by assumption) ?_
    (try simp only [Act.put, List.getElem_toArray, List.getElem_cons_zero, List.getElem_cons_succ, List.setIfInBounds_toArray, List.set_cons_zero, List.set_cons_succ])
    refine wpAnyH_ready (rs := [29]) (by kernel_rfl) (by simp) ?_
    refine AllReadyH.cons (o := _) rfl (fun K hK => ?_) AllReadyH.nil
    go_simp
    (go_at_call 39; refine Calls.mono (HSG2.out _ _ _ _ _ (r5.out.ext hx4) (r6.out.ext hx4)) ?_; rintro e w5 ⟨rfl, hb5⟩)
    refine hK.out _ _ ?_ (fun hHeld => ?_)
    · (try dsimp only); refine keepM5 ?_ zgz zhz z7 z5 z6; (repeat (first | with_reducible exact Ext.rfl' _ | with_reducible assumption | (exact (by assumption : _ ∧ _ ∧ _ ∧ _ ∧ _ ∧ Ext wz _).2.2.2.2.2) | with_reducible refine Ext.al ?_ _ | with_reducible refine Ext.dr ?_ | with_reducible refine Ext.tr ?_ (by assumption)))
    clear hK K
    (try simp only [Act.put, List.getElem_toArray, List.getElem_cons_zero, List.getElem_cons_succ, List.setIfInBounds_toArray, List.set_cons_zero, List.set_cons_succ])
    refine wpAnyH_take (i := 30) (v := _) rfl (by kernel_rfl) (by kernel_rfl) (by kernel_rfl) (fun _ _ _ h => h) (Or.inl ⟨by kernel_rfl, by intro w hSw; (try dsimp only at hSw); go_simp; (try with_reducible rfl)⟩) (by assumption) ?_
    (try simp only [Act.put, List.getElem_toArray, List.getElem_cons_zero, List.getElem_cons_succ, List.setIfInBounds_toArray, List.set_cons_zero, List.set_cons_succ])
    refine wpAnyH_take (i := 31) (v := _) rfl (by kernel_rfl) (by kernel_rfl) (by kernel_rfl) (fun _ _ _ h => h) (Or.inl ⟨by kernel_rfl, by intro w hSw; (try dsimp only at hSw); go_simp; (try with_reducible rfl)⟩) (by assumption) ?_
    (try simp only [Act.put, List.getElem_toArray, List.getElem_cons_zero, List.getElem_cons_succ, List.setIfInBounds_toArray, List.set_cons_zero, List.set_cons_succ])
    refine wpAnyH_done (by kernel_rfl) ?_ _
    have hx5 := hHeld.2.2.2.2.2
    have hE5 := hEz.tr hx5
    have kg5 := kgz.ext hx5 zgz
    have kh5 := khz.ext hx5 zhz
    have ks5 := q5.ext hx5 z5
    have zg5 := hx5.sz _ zgz
    have zh5 := hx5.sz _ zhz
    have zs5 := hx5.sz _ z5
    have rs5 := Lib.hid (r5.out.ext hx5)
    clear hx4 hHeld hb1 hb2 hb3 hb4 hb5 g0 g1 g2 g3 g4 g5 k0 k1 k2 k3 k4 k5 l0 l1 l2 l3 l4 l5 s0 s1 s2 s3 s4 s5 t0 t1 t2 t3 t4 t5 kgz khz K7z q5 q6 z5 z6 z7 zgz zhz hx5 hEz r5 r6 R4z HRL HRS HSG1 HSG2
    go_wp2
    go_loopw [12] (fun i wr => Ext w5 wr ∧ ∃ k : Nat, k ≤ g.L.length ∧ i = .int .i64 k) (fun i _ => g.L.length - (intOf i).toNat)
    case atStart => exact ⟨Ext.rfl' _, 0, Nat.zero_le _, rfl⟩
    case round =>
      obtain ⟨hr, k, hk, rfl⟩ := hrel
      have hEr := hE5.tr hr
      obtain ⟨g0, g1, g2, g3, g4, g5⟩ := (kg5.ext hr zg5).six
      obtain ⟨k0, k1, k2, k3, k4, k5⟩ := (kh5.ext hr zh5).six
      obtain ⟨s0, s1, s2, s3, s4, s5⟩ := (ks5.ext hr zs5).six
      have zg6 := hr.sz _ zg5
      have zh6 := hr.sz _ zh5
      have zs6 := hr.sz _ zs5
      by_cases hlt : k < g.L.length
      · have hlt2 : k < h.L.length := by rw [← HN.out]; exact hlt
        obtain ⟨ba, oa, rfl, hba, hca⟩ := HAA.out.p1 hlt
        obtain ⟨bb, ob, rfl, hbb, hcb⟩ := HBB.out.p1 hlt2
        obtain ⟨bc, oc, rfl, hbc, hcc⟩ := (rs5.out.ext hr).p1 (show k < L2.length by rw [n2.out]; exact hlt)
        have ca := hca _ hEr
        have cb := hcb _ hEr
        have cc := hcc _ (Ext.rfl' _)
        have za := hEr.sz _ hba
        have zb := hEr.sz _ hbb
        rw [← gi_lt] at ca cb cc
        obtain ⟨v1, v2⟩ := HGE.out k hlt
        clear hca hcb hcc
        have hkz : (0 : Int) ≤ k := by omega
        have hkg : (k : Int) < g.L.length := by omega
        have hkh : (k : Int) < h.L.length := by omega
        generalize gi g.L k = x at *
        generalize gi h.L k = y at *
        generalize gi L2 k = z at *
        go_wp2
        by_cases hx : x = 30000
        · have dx : (x != 30000) = false := by simp [hx]
          by_cases hy : y = 30000
          · have dy : (y != 30000) = false := by simp [hy]
            clear v1 v2
            refine region_grow (by kernel_rfl) (by kernel_rfl) ?_
            repeat (first | go_big_quiet_step (first  | fail) | quiet_step (first  | fail))
            refine wpQuiet_nil ?_
            intro w1 hb
            have hc := hb.ccell
            have hf := hb.frz
            have hs := hb.sz
            (try simp at hs); (try have hs0 := hs w.heap.size (by omega)); (try have hs1 := hs (w.heap.size + 1) (by omega)); (try have hs2 := hs (w.heap.size + 1 + 1) (by omega)); (try have hs3 := hs (w.heap.size + 1 + 1 + 1) (by omega))
            (try simp only [IntWalk.i64_left])
            go_wp2
            exact ⟨⟨hr.tr hb, k + 1, by omega, by go_num⟩, by simp [intOf]; omega⟩
          · have dy : (y != 30000) = true := by simp [hy]
            have d2 : ¬ z < y := by have := v2 hy; omega
            clear v1 v2
            refine region_grow (by kernel_rfl) (by kernel_rfl) ?_
            repeat (first | go_big_quiet_step (first  | fail) | quiet_step (first  | fail))
            refine wpQuiet_nil ?_
            intro w1 hb
            have hc := hb.ccell
            have hf := hb.frz
            have hs := hb.sz
            (try simp at hs); (try have hs0 := hs w.heap.size (by omega)); (try have hs1 := hs (w.heap.size + 1) (by omega)); (try have hs2 := hs (w.heap.size + 1 + 1) (by omega)); (try have hs3 := hs (w.heap.size + 1 + 1 + 1) (by omega))
            (try simp only [IntWalk.i64_left])
            go_wp2
            exact ⟨⟨hr.tr hb, k + 1, by omega, by go_num⟩, by simp [intOf]; omega⟩
        · have dx : (x != 30000) = true := by simp [hx]
          have d1 : ¬ z < x := by have := v1 hx; omega
          by_cases hy : y = 30000
          · have dy : (y != 30000) = false := by simp [hy]
            clear v1 v2
            refine region_grow (by kernel_rfl) (by kernel_rfl) ?_
            repeat (first | go_big_quiet_step (first  | fail) | quiet_step (first  | fail))
            refine wpQuiet_nil ?_
            intro w1 hb
            have hc := hb.ccell
            have hf := hb.frz
            have hs := hb.sz
            (try simp at hs); (try have hs0 := hs w.heap.size (by omega)); (try have hs1 := hs (w.heap.size + 1) (by omega)); (try have hs2 := hs (w.heap.size + 1 + 1) (by omega)); (try have hs3 := hs (w.heap.size + 1 + 1 + 1) (by omega))
            (try simp only [IntWalk.i64_left])
            go_wp2
            exact ⟨⟨hr.tr hb, k + 1, by omega, by go_num⟩, by simp [intOf]; omega⟩
          · have dy : (y != 30000) = true := by simp [hy]
            have d2 : ¬ z < y := by have := v2 hy; omega
            clear v1 v2
            refine region_grow (by kernel_rfl) (by kernel_rfl) ?_
            repeat (first | go_big_quiet_step (first  | fail) | quiet_step (first  | fail))
            refine wpQuiet_nil ?_
            intro w1 hb
            have hc := hb.ccell
            have hf := hb.frz
            have hs := hb.sz
            (try simp at hs); (try have hs0 := hs w.heap.size (by omega)); (try have hs1 := hs (w.heap.size + 1) (by omega)); (try have hs2 := hs (w.heap.size + 1 + 1) (by omega)); (try have hs3 := hs (w.heap.size + 1 + 1 + 1) (by omega))
            (try simp only [IntWalk.i64_left])
            go_wp2
            exact ⟨⟨hr.tr hb, k + 1, by omega, by go_num⟩, by simp [intOf]; omega⟩
      · go_wp2
        go_ret
        exact ⟨rfl, by (repeat (first | with_reducible exact Ext.rfl' _ | with_reducible assumption | with_reducible refine Ext.al ?_ _ | with_reducible refine Ext.dr ?_ | with_reducible refine Ext.st ?_ (by simp) _ | with_reducible refine Ext.tr ?_ (by assumption)))⟩
set_option maxHeartbeats 4000000 in
theorem me_walk (g h : Gr) (w : World) (A B : Option Addr) (c d : Nat) (hl : g.L.length ≤ maxLen) (hm : h.L.length ≤ maxLen) (hA : Row 1 encZ w A g.L) (hB : Row 1 encZ w B h.L) :
    Calls Try.prog 6 #[.agg #[.int .i64 g.X, .int .i64 g.Y, .int .i64 g.S, .int .i64 g.C, .int .i64 g.R, .slice A g.L.length c], .agg #[.int .i64 h.X, .int .i64 h.Y, .int .i64 h.S, .int .i64 h.C, .int .i64 h.R, .slice B h.L.length d]] w fun e w' => e = .returned (.bool true) ∧ Ext w w' := by
  have HF := Lib.hid (fun w' (hw : Ext w w') => few_c g w' A c hl (hA.ext hw))
  have HG := Lib.hid (fun w' (hw : Ext w w') => few_c h w' B d hm (hB.ext hw))
  cases hf : fewB g
  · rw [hf] at HF
    clear hf
    go_enter Try.func6, Try.ntmps6
    go_wp2_with (first | (go_at_call 16; with_reducible refine Calls.mono (awake_c _) ?_; rintro e wa ⟨rfl, hb⟩; have hc := hb.ccell; have hf := hb.frz; have hs := hb.sz; (try simp at hs); (try have t0 := hs (w.heap.size) (by first | assumption | omega)); (try have t1 := hs (w.heap.size + 1) (by first | assumption | omega)); (try have t2 := hs (w.heap.size) (by first | assumption | omega)); (try have t3 := hs (w.heap.size) (by first | assumption | omega)); (try have t4 := hs (w.heap.size) (by first | assumption | omega)); (try have t5 := hs (w.heap.size) (by first | assumption | omega))) | (go_at_call 17; with_reducible refine Calls.mono (HF.out _ (by (repeat (first | with_reducible exact Ext.rfl' _ | with_reducible assumption | with_reducible refine Ext.al ?_ _ | with_reducible refine Ext.dr ?_ | with_reducible refine Ext.st ?_ (by simp) _ | with_reducible refine Ext.tr ?_ (by assumption))))) ?_; rintro e wf ⟨rfl, hb⟩; have hc := hb.ccell; have hf := hb.frz; have hs := hb.sz; (try simp at hs); (try have t0 := hs (w.heap.size) (by first | assumption | omega)); (try have t1 := hs (w.heap.size + 1) (by first | assumption | omega)); (try have t2 := hs (w.heap.size) (by first | assumption | omega)); (try have t3 := hs (w.heap.size) (by first | assumption | omega)); (try have t4 := hs (w.heap.size) (by first | assumption | omega)); (try have t5 := hs (w.heap.size) (by first | assumption | omega))))
    go_ret
    exact ⟨rfl, by (repeat (first | with_reducible exact Ext.rfl' _ | with_reducible assumption | with_reducible refine Ext.al ?_ _ | with_reducible refine Ext.dr ?_ | with_reducible refine Ext.st ?_ (by simp) _ | with_reducible refine Ext.tr ?_ (by assumption)))⟩
  cases hf2 : fewB h
  · rw [hf] at HF
    rw [hf2] at HG
    clear hf hf2
    go_enter Try.func6, Try.ntmps6
    go_wp2_with (first | (go_at_call 16; with_reducible refine Calls.mono (awake_c _) ?_; rintro e wa ⟨rfl, hb⟩; have hc := hb.ccell; have hf := hb.frz; have hs := hb.sz; (try simp at hs); (try have t0 := hs (w.heap.size) (by first | assumption | omega)); (try have t1 := hs (w.heap.size + 1) (by first | assumption | omega)); (try have t2 := hs (w.heap.size) (by first | assumption | omega)); (try have t3 := hs (w.heap.size) (by first | assumption | omega)); (try have t4 := hs (w.heap.size) (by first | assumption | omega)); (try have t5 := hs (w.heap.size) (by first | assumption | omega))) | (go_at_call 17; with_reducible refine Calls.mono (HF.out _ (by (repeat (first | with_reducible exact Ext.rfl' _ | with_reducible assumption | with_reducible refine Ext.al ?_ _ | with_reducible refine Ext.dr ?_ | with_reducible refine Ext.st ?_ (by simp) _ | with_reducible refine Ext.tr ?_ (by assumption))))) ?_; rintro e wf ⟨rfl, hb⟩; have hc := hb.ccell; have hf := hb.frz; have hs := hb.sz; (try simp at hs); (try have t0 := hs (w.heap.size) (by first | assumption | omega)); (try have t1 := hs (w.heap.size + 1) (by first | assumption | omega)); (try have t2 := hs (w.heap.size) (by first | assumption | omega)); (try have t3 := hs (w.heap.size) (by first | assumption | omega)); (try have t4 := hs (w.heap.size) (by first | assumption | omega)); (try have t5 := hs (w.heap.size) (by first | assumption | omega))) | (go_at_call 17; with_reducible refine Calls.mono (HG.out _ (by (repeat (first | with_reducible exact Ext.rfl' _ | with_reducible assumption | with_reducible refine Ext.al ?_ _ | with_reducible refine Ext.dr ?_ | with_reducible refine Ext.st ?_ (by simp) _ | with_reducible refine Ext.tr ?_ (by assumption))))) ?_; rintro e wg ⟨rfl, hb⟩; have hc := hb.ccell; have hf := hb.frz; have hs := hb.sz; (try simp at hs); (try have t0 := hs (w.heap.size) (by first | assumption | omega)); (try have t1 := hs (w.heap.size + 1) (by first | assumption | omega)); (try have t2 := hs (w.heap.size) (by first | assumption | omega)); (try have t3 := hs (w.heap.size) (by first | assumption | omega)); (try have t4 := hs (w.heap.size) (by first | assumption | omega)); (try have t5 := hs (w.heap.size) (by first | assumption | omega))))
    go_ret
    exact ⟨rfl, by (repeat (first | with_reducible exact Ext.rfl' _ | with_reducible assumption | with_reducible refine Ext.al ?_ _ | with_reducible refine Ext.dr ?_ | with_reducible refine Ext.st ?_ (by simp) _ | with_reducible refine Ext.tr ?_ (by assumption)))⟩
  by_cases h0 : twoE g h = 0
  · exact me_ok g h w A B c d hl hm hA hB h0 hf hf2
  · exact me_err g h w A B c d hl hm hA hB h0 hf hf2
end Go.Proofs.Ytgnakeemcccfjaa

/- BedMerges: the law returns true for every input. Conditions: none. -/
import Derived.Test.YtgnakeemcccfjaaBawake
import Derived.Test.YtgnakeemcccfjaaBmepure
import Derived.Test.YtgnakeemcccfjaaBprof2
namespace Go.Proofs.Ytgnakeemcccfjaa
open Go Go.RowKit Go.IntWalk

set_option maxHeartbeats 16000000 in
set_option maxRecDepth 100000 in
theorem me_err (g h : Gr) (w : World) (A B : Option Addr) (c d : Nat) (hl : g.L.length ≤ maxLen) (hm : h.L.length ≤ maxLen) (hA : Row 1 encZ w A g.L) (hB : Row 1 encZ w B h.L) (h0 : twoE g h ≠ 0) (hf : fewB g = true) (hf2 : fewB h = true) :
    Calls Try.prog 6 #[.agg #[.int .i64 g.X, .int .i64 g.Y, .int .i64 g.S, .int .i64 g.C, .int .i64 g.R, .slice A g.L.length c], .agg #[.int .i64 h.X, .int .i64 h.Y, .int .i64 h.S, .int .i64 h.C, .int .i64 h.R, .slice B h.L.length d]] w fun e w' => e = .returned (.bool true) ∧ Ext w w' := by
  have HF := Lib.hid (fun w' (hw : Ext w w') => by have h := few_c g w' A c hl (hA.ext hw); rw [hf] at h; exact h)
  have HF2 := Lib.hid (fun w' (hw : Ext w w') => by have h := few_c h w' B d hm (hB.ext hw); rw [hf2] at h; exact h)
  have hl2 := fewB_len hf
  have hm2 := fewB_len hf2
  have HC1 := Lib.hid (fun w' (hw : Ext w w') => copyGrid_c g w' A c (by omega) (hA.ext hw))
  have HC2 := Lib.hid (fun w' (hw : Ext w w') => copyGrid_c h w' B d (by omega) (hB.ext hw))
  have HL := Lib.hid (fun w' (_ : Ext w w') A' B' c' d' (h1 : Row 1 encZ w' A' g.L) (h2 : Row 1 encZ w' B' h.L) => latest_err_c g h w' A' B' c' d' hl hm h1 h2 h0)
  have HS := Lib.hid (fun w' (hw : Ext w w') => shoalest_err_c g h w' A B c d hl hm (hA.ext hw) (hB.ext hw) h0)
  have HB := Lib.hid (fun w' (hw : Ext w w') => both_c g h w' A B c d hl hm (hA.ext hw) (hB.ext hw))
  have HZ := Lib.hid (fun w' => zero_c grZ w' none 0 (by decide) (.inl rfl))
  rw [zeroG_zero] at HZ
  unfold grZ at HZ
  simp only [List.length_nil] at HZ
  have h0' : (twoE g h != 0) = true := by simp [h0]
  clear h0 hf hf2 hA hB
  generalize twoE g h = X at *
  go_enter Try.func6, Try.ntmps6
  go_upto_region 5 with (first | (go_at_call 16; with_reducible refine Calls.mono (awake_c _) ?_; rintro e wa ⟨rfl, hb⟩; have hc := hb.ccell; have hf := hb.frz; have hs := hb.sz; (try simp at hs); (try have t0 := hs (w.heap.size) (by first | assumption | omega)); (try have t1 := hs (w.heap.size + 1) (by first | assumption | omega)); (try have t2 := hs (w.heap.size) (by first | assumption | omega)); (try have t3 := hs (w.heap.size) (by first | assumption | omega)); (try have t4 := hs (w.heap.size) (by first | assumption | omega)); (try have t5 := hs (w.heap.size) (by first | assumption | omega))) | (go_at_call 17; with_reducible refine Calls.mono (HF.out _ (by (repeat (first | with_reducible exact Ext.rfl' _ | with_reducible assumption | with_reducible refine Ext.al ?_ _ | with_reducible refine Ext.dr ?_ | with_reducible refine Ext.st ?_ (by simp) _ | with_reducible refine Ext.tr ?_ (by assumption))))) ?_; rintro e wx ⟨rfl, hb⟩; have hc := hb.ccell; have hf := hb.frz; have hs := hb.sz; (try simp at hs); (try have t0 := hs (w.heap.size) (by first | assumption | omega)); (try have t1 := hs (w.heap.size + 1) (by first | assumption | omega)); (try have t2 := hs (w.heap.size) (by first | assumption | omega)); (try have t3 := hs (w.heap.size) (by first | assumption | omega)); (try have t4 := hs (w.heap.size) (by first | assumption | omega)); (try have t5 := hs (w.heap.size) (by first | assumption | omega))) | (go_at_call 17; with_reducible refine Calls.mono (HF2.out _ (by (repeat (first | with_reducible exact Ext.rfl' _ | with_reducible assumption | with_reducible refine Ext.al ?_ _ | with_reducible refine Ext.dr ?_ | with_reducible refine Ext.st ?_ (by simp) _ | with_reducible refine Ext.tr ?_ (by assumption))))) ?_; rintro e wf ⟨rfl, hb⟩; have hc := hb.ccell; have hf := hb.frz; have hs := hb.sz; (try simp at hs); (try have t0 := hs (w.heap.size) (by first | assumption | omega)); (try have t1 := hs (w.heap.size + 1) (by first | assumption | omega)); (try have t2 := hs (w.heap.size) (by first | assumption | omega)); (try have t3 := hs (w.heap.size) (by first | assumption | omega)); (try have t4 := hs (w.heap.size) (by first | assumption | omega)); (try have t5 := hs (w.heap.size) (by first | assumption | omega))))
  have hEW : Ext w wf := by (repeat (first | with_reducible exact Ext.rfl' _ | with_reducible assumption | with_reducible refine Ext.al ?_ _ | with_reducible refine Ext.dr ?_ | with_reducible refine Ext.st ?_ (by simp) _ | with_reducible refine Ext.tr ?_ (by assumption)))
  have kg : CellsAt wf w.heap.size 0 [.int .i64 g.X, .int .i64 g.Y, .int .i64 g.S, .int .i64 g.C, .int .i64 g.R, .slice A g.L.length c] := by refine cells_six ⟨?_, ?_, ?_, ?_, ?_, ?_⟩ <;> simp [*, go_sem]
  have kh : CellsAt wf (w.heap.size + 1) 0 [.int .i64 h.X, .int .i64 h.Y, .int .i64 h.S, .int .i64 h.C, .int .i64 h.R, .slice B h.L.length d] := by refine cells_six ⟨?_, ?_, ?_, ?_, ?_, ?_⟩ <;> simp [*, go_sem]
  have zg : w.heap.size < wf.heap.size := by assumption
  have zh : w.heap.size + 1 < wf.heap.size := by assumption
  clear hb hc hf hs t0 t1 t2 t3 t4 t5
  generalize w.heap.size + 1 = nh at *
  go_cut [5, 6] (fun s5 s6 wx => ∃ b7 : Nat, s5 = .pointer (some ⟨b7, 0, none⟩) ∧ s6 = .int .i64 X ∧ Ext wf wx ∧ b7 < wx.heap.size ∧ CellsAt wx b7 0 [.int .i64 0, .int .i64 0, .int .i64 0, .int .i64 0, .int .i64 0, .slice none 0 0])
  case first =>
    clear HF HF2 HS HB HZ
    obtain ⟨g0, g1, g2, g3, g4, g5⟩ := kg.six
    obtain ⟨k0, k1, k2, k3, k4, k5⟩ := kh.six
    go_region_held3 (fun w' => (∀ j : Nat, w'.cell? ⟨w.heap.size, j, none⟩ = wf.cell? ⟨w.heap.size, j, none⟩) ∧ (∀ j : Nat, w'.cell? ⟨nh, j, none⟩ = wf.cell? ⟨nh, j, none⟩) ∧ Ext wf w') ((refine keepP2 ?_ zg zh; (repeat (first | with_reducible exact Ext.rfl' _ | with_reducible assumption | (exact (by assumption : _ ∧ _ ∧ Ext wf _).2.2) | with_reducible refine Ext.al ?_ _ | with_reducible refine Ext.dr ?_ | with_reducible refine Ext.st ?_ (by first | (simp; done) | (have h9 := Below.size hb2; have h8 := Below.size hb3; have h7 := Below.size hb4; simp at h9 h8 h7 ⊢; omega)) _ | with_reducible refine Ext.tr ?_ (by assumption))))) (first | (go_at_call 19; (with_reducible refine Calls.mono (HC1.out _ (by (repeat (first | with_reducible exact Ext.rfl' _ | with_reducible assumption | with_reducible refine Ext.al ?_ _ | with_reducible refine Ext.dr ?_ | with_reducible refine Ext.st ?_ (by simp) _ | with_reducible refine Ext.tr ?_ (by assumption))))) ?_); rintro e w2 ⟨⟨A2, c2, rfl, hN2⟩, hb2⟩; have hc2 := hb2.ccell; have hf2 := hb2.frz; have hs2 := hb2.sz; (try have t2 := hs2 wf.heap.size (by first | assumption | (simp; done) | (simp; omega)))) | (go_at_call 19; (with_reducible refine Calls.mono (HC2.out _ (by (repeat (first | with_reducible exact Ext.rfl' _ | with_reducible assumption | with_reducible refine Ext.al ?_ _ | with_reducible refine Ext.dr ?_ | with_reducible refine Ext.st ?_ (by simp) _ | with_reducible refine Ext.tr ?_ (by assumption))))) ?_); rintro e w3 ⟨⟨A3, c3, rfl, hN3⟩, hb3⟩; have hc3 := hb3.ccell; have hf3 := hb3.frz; have hs3 := hb3.sz; (try have t3 := hs3 wf.heap.size (by first | assumption | (simp; done) | (simp; omega))); (try have t3' := hs3 w2.heap.size (by first | assumption | (simp; done) | (simp; omega)))) | (go_at_call 36; (with_reducible refine Calls.mono (HL.out _ (by (repeat (first | with_reducible exact Ext.rfl' _ | with_reducible assumption | with_reducible refine Ext.al ?_ _ | with_reducible refine Ext.dr ?_ | with_reducible refine Ext.st ?_ (by simp) _ | with_reducible refine Ext.tr ?_ (by assumption)))) _ _ _ _ (hN2.row.ext (by (repeat (first | with_reducible exact Ext.rfl' _ | with_reducible assumption | with_reducible refine Ext.al ?_ _ | with_reducible refine Ext.dr ?_ | with_reducible refine Ext.st ?_ (by simp) _ | with_reducible refine Ext.tr ?_ (by assumption))))) (hN3.row.ext (by (repeat (first | with_reducible exact Ext.rfl' _ | with_reducible assumption | with_reducible refine Ext.al ?_ _ | with_reducible refine Ext.dr ?_ | with_reducible refine Ext.st ?_ (by simp) _ | with_reducible refine Ext.tr ?_ (by assumption)))))) ?_); rintro e w4 ⟨rfl, hb4⟩; have hc4 := hb4.ccell; have hf4 := hb4.frz; have hs4 := hb4.sz; (try have t4 := hs4 wf.heap.size (by first | assumption | (simp; done) | (simp; omega))); (try have t4' := hs4 w2.heap.size (by first | assumption | (simp; done) | (simp; omega))); (try have t4'' := hs4 w3.heap.size (by first | assumption | (simp; done) | (simp; omega)))))
    all_goals
      rename_i hJ hK h1 h2 hH
      clear hH
      refine h2 _ _ (Met.intro (h1 _ _ ?_))
      (repeat apply Exists.intro)
      refine ⟨?_, rfl⟩
      refine ⟨_, rfl, rfl, ?_, ?_, ?_⟩
      · (repeat (first | with_reducible exact Ext.rfl' _ | with_reducible assumption | (exact (by assumption : _ ∧ _ ∧ Ext wf _).2.2) | with_reducible refine Ext.al ?_ _ | with_reducible refine Ext.dr ?_ | with_reducible refine Ext.st ?_ (by first | (simp; done) | (have h9 := Below.size hb2; have h8 := Below.size hb3; have h7 := Below.size hb4; simp at h9 h8 h7 ⊢; omega)) _ | with_reducible refine Ext.tr ?_ (by assumption)))
      · first
          | (simp; done)
          | (have h9 := Below.size hb2; have h8 := Below.size hb3; have h7 := Below.size hb4; (try simp at h9); (try simp at h8); (try simp at h7); (try simp); omega)
      · first
          | (refine cells_six ⟨?_, ?_, ?_, ?_, ?_, ?_⟩ <;> (simp [go_sem]; done))
          | (refine cells_six ⟨?_, ?_, ?_, ?_, ?_, ?_⟩ <;> (simp [*, go_sem]; done))
  case rest =>
    obtain ⟨b7, rfl, rfl, hx, hz7, k7⟩ := hcut
    have hEc := hEW.tr hx
    obtain ⟨g0, g1, g2, g3, g4, g5⟩ := (kg.ext hx zg).six
    obtain ⟨k0, k1, k2, k3, k4, k5⟩ := (kh.ext hx zh).six
    obtain ⟨r0, r1, r2, r3, r4, r5⟩ := k7.six
    have zgc := hx.sz _ zg
    have zhc := hx.sz _ zh
    clear kg kh zg zh k7 hx hEW HC1 HC2 HL
    go_wp2_with (first | (go_at_call 37; with_reducible refine Calls.mono (HS.out _ (by (repeat (first | with_reducible exact Ext.rfl' _ | with_reducible assumption | with_reducible refine Ext.al ?_ _ | with_reducible refine Ext.dr ?_ | with_reducible refine Ext.st ?_ (by simp) _ | with_reducible refine Ext.tr ?_ (by assumption))))) ?_; rintro e ws ⟨rfl, hb⟩; have hc := hb.ccell; have hf := hb.frz; have hs := hb.sz; (try simp at hs); (try have t0 := hs (w.heap.size) (by first | assumption | omega)); (try have t1 := hs (nh) (by first | assumption | omega)); (try have t2 := hs (b7) (by first | assumption | omega)); (try have t3 := hs (w.heap.size) (by first | assumption | omega)); (try have t4 := hs (w.heap.size) (by first | assumption | omega)); (try have t5 := hs (w.heap.size) (by first | assumption | omega))) | (go_at_call 38; with_reducible refine Calls.mono (HB.out _ (by (repeat (first | with_reducible exact Ext.rfl' _ | with_reducible assumption | with_reducible refine Ext.al ?_ _ | with_reducible refine Ext.dr ?_ | with_reducible refine Ext.st ?_ (by simp) _ | with_reducible refine Ext.tr ?_ (by assumption))))) ?_; rintro e wb ⟨rfl, hb⟩; have hc := hb.ccell; have hf := hb.frz; have hs := hb.sz; (try simp at hs); (try have t0 := hs (w.heap.size) (by first | assumption | omega)); (try have t1 := hs (nh) (by first | assumption | omega)); (try have t2 := hs (b7) (by first | assumption | omega)); (try have t3 := hs (ws.heap.size) (by first | assumption | omega)); (try have t4 := hs (w.heap.size) (by first | assumption | omega)); (try have t5 := hs (w.heap.size) (by first | assumption | omega))) | (go_at_call 22; with_reducible refine Calls.mono (HZ.out _) ?_; rintro e wz ⟨rfl, hb⟩; have hc := hb.ccell; have hf := hb.frz; have hs := hb.sz; (try simp at hs); (try have t0 := hs (w.heap.size) (by first | assumption | omega)); (try have t1 := hs (nh) (by first | assumption | omega)); (try have t2 := hs (b7) (by first | assumption | omega)); (try have t3 := hs (ws.heap.size) (by first | assumption | omega)); (try have t4 := hs (w.heap.size) (by first | assumption | omega)); (try have t5 := hs (w.heap.size) (by first | assumption | omega))))
    go_ret
    exact ⟨rfl, by (repeat (first | with_reducible exact Ext.rfl' _ | with_reducible assumption | with_reducible refine Ext.al ?_ _ | with_reducible refine Ext.dr ?_ | with_reducible refine Ext.st ?_ (by simp) _ | with_reducible refine Ext.tr ?_ (by assumption)))⟩
end Go.Proofs.Ytgnakeemcccfjaa

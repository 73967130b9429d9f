/- BedAdds: the law returns true for every input. Conditions: none. -/
import Derived.Test.YtgnakeemcccfjaaBad2
namespace Go.Proofs.Ytgnakeemcccfjaa
open Go Go.RowKit Go.IntWalk

/-- The world of the two loops that add up: the sums so far in bs and in bl. -/
structure SumW (w0 wr : World) (bs bl : Nat) (x y z x' y' z' : Int) : Prop where
  ext : Ext w0 wr
  ks : CellsAt wr bs 0 [.int .i64 x, .int .i64 y, .int .i64 z]
  kl : CellsAt wr bl 0 [.int .i64 x', .int .i64 y', .int .i64 z']
  fs : ∀ o, wr.frozen? ⟨bs, o, none⟩ = false
  fl : ∀ o, wr.frozen? ⟨bl, o, none⟩ = false
  zs : bs < wr.heap.size
  zl : bl < wr.heap.size
  d1 : w0.heap.size ≤ bs
  d2 : bs < bl
theorem SumW.next {w0 wr w' : World} {bs bl : Nat} {x y z x' y' z' : Int} (h : SumW w0 wr bs bl x y z x' y' z') (hE : Ext wr w') : SumW w0 w' bs bl x y z x' y' z' :=
  ⟨h.ext.tr hE, h.ks.ext hE h.zs, h.kl.ext hE h.zl, fun o => (hE.frz _ o h.zs).trans (h.fs o), fun o => (hE.frz _ o h.zl).trans (h.fl o), hE.sz _ h.zs, hE.sz _ h.zl, h.d1, h.d2⟩
theorem SumW.put1 {w0 wr : World} {bs bl : Nat} {x y z x' y' z' : Int} (h : SumW w0 wr bs bl x y z x' y' z') (a b c : Int) :
    SumW w0 (((wr.setCell ⟨bs, 0, none⟩ (.int .i64 a)).setCell ⟨bs, 1, none⟩ (.int .i64 b)).setCell ⟨bs, 2, none⟩ (.int .i64 c)) bs bl a b c x' y' z' := by
  have d1 := h.d1
  have d2 := h.d2
  have e : ∀ (u : World) (j : Nat) (v : Value), Ext w0 u → Ext w0 (u.setCell ⟨bs, j, none⟩ v) := fun u j v hu => Ext.st hu (by show w0.heap.size ≤ bs; omega) _
  refine ⟨e _ _ _ (e _ _ _ (e _ _ _ h.ext)), stL_at bs [.int .i64 a, .int .i64 b, .int .i64 c] _ 0 wr h.ks rfl, ((h.kl.st (by simp; omega) _).st (by simp; omega) _).st (by simp; omega) _, fun o => by simpa [go_sem] using h.fs o, fun o => by simpa [go_sem] using h.fl o, by simpa using h.zs, by simpa using h.zl, d1, d2⟩
theorem SumW.put2 {w0 wr : World} {bs bl : Nat} {x y z x' y' z' : Int} (h : SumW w0 wr bs bl x y z x' y' z') (a b c : Int) :
    SumW w0 (((wr.setCell ⟨bl, 0, none⟩ (.int .i64 a)).setCell ⟨bl, 1, none⟩ (.int .i64 b)).setCell ⟨bl, 2, none⟩ (.int .i64 c)) bs bl x y z a b c := by
  have d1 := h.d1
  have d2 := h.d2
  have e : ∀ (u : World) (j : Nat) (v : Value), Ext w0 u → Ext w0 (u.setCell ⟨bl, j, none⟩ v) := fun u j v hu => Ext.st hu (by show w0.heap.size ≤ bl; omega) _
  refine ⟨e _ _ _ (e _ _ _ (e _ _ _ h.ext)), ((h.ks.st (by simp; omega) _).st (by simp; omega) _).st (by simp; omega) _, stL_at bl [.int .i64 a, .int .i64 b, .int .i64 c] _ 0 wr h.kl rfl, fun o => by simpa [go_sem] using h.fs o, fun o => by simpa [go_sem] using h.fl o, by simpa using h.zs, by simpa using h.zl, d1, d2⟩
set_option maxHeartbeats 8000000 in
set_option maxRecDepth 100000 in
theorem ad_err (g h q : Gr) (l : List Int) (w : World) (A B C D : Option Addr) (ca cb cc cd : Nat) (hl : g.L.length ≤ maxLen) (hm : h.L.length ≤ maxLen) (hk : l.length ≤ 20) (hA : Row 1 encZ w A g.L) (hB : Row 1 encZ w B h.L) (hD : Row 1 encZ w D l)
    (HF : Hid (∀ w', Ext w w' → Calls Try.prog 17 #[.agg #[.int .i64 g.X, .int .i64 g.Y, .int .i64 g.S, .int .i64 g.C, .int .i64 g.R, .slice A g.L.length ca]] w' fun e w'' => e = .returned (.bool true) ∧ Ext w' w'')) (HG : Hid (∀ w', Ext w w' → Calls Try.prog 17 #[.agg #[.int .i64 h.X, .int .i64 h.Y, .int .i64 h.S, .int .i64 h.C, .int .i64 h.R, .slice B h.L.length cb]] w' fun e w'' => e = .returned (.bool true) ∧ Ext w' w'')) (HQ : Hid (∀ w', Ext w w' → Calls Try.prog 17 #[.agg #[.int .i64 q.X, .int .i64 q.Y, .int .i64 q.S, .int .i64 q.C, .int .i64 q.R, .slice C q.L.length cc]] w' fun e w'' => e = .returned (.bool true) ∧ Ext w' w'')) (h0 : twoE g h ≠ 0) :
    Calls Try.prog 9 #[.agg #[.int .i64 g.X, .int .i64 g.Y, .int .i64 g.S, .int .i64 g.C, .int .i64 g.R, .slice A g.L.length ca, .int .i64 h.X, .int .i64 h.Y, .int .i64 h.S, .int .i64 h.C, .int .i64 h.R, .slice B h.L.length cb, .int .i64 q.X, .int .i64 q.Y, .int .i64 q.S, .int .i64 q.C, .int .i64 q.R, .slice C q.L.length cc, .slice D l.length cd]] w fun e w' => e = .returned (.bool true) ∧ Ext w w' := by
  have hk' : ¬ (20 : Int) < (l.length : Int) := by omega
  have h1 : twoE h g ≠ 0 := fun e => h0 (twoE_flip2 e)
  have HCA := Lib.hid (fun w' (hw : Ext w w') => by
    have h9 := compare_c g h w' A B ca cb hl hm (hA.ext hw) (hB.ext hw)
    rw [show chV (twoE g h) g h = .agg #[.int .i64 0, .int .i64 0, .int .i64 0] by unfold chV; rw [if_neg h0]] at h9
    exact h9)
  have HCB := Lib.hid (fun w' (hw : Ext w w') => by
    have h9 := compare_c h g w' B A cb ca hm hl (hB.ext hw) (hA.ext hw)
    rw [show chV (twoE h g) h g = .agg #[.int .i64 0, .int .i64 0, .int .i64 0] by unfold chV; rw [if_neg h1]] at h9
    exact h9)
  have HST := Lib.hid (fun w' (hw : Ext w w') => strips_err_c g h w' A B ca cb hl hm (hA.ext hw) (hB.ext hw) h0)
  have hs : slE g h l = twoE g h := by unfold slE; rw [if_pos h0]
  have HSL := Lib.hid (fun w' (hw : Ext w w') => by
    have h9 := slices_err_c g h l w' A B D ca cb cd hl hm (by omega) (hA.ext hw) (hB.ext hw) (hD.ext hw) (by rw [hs]; exact h0)
    rw [hs] at h9
    exact h9)
  have h0' : (twoE g h != 0) = true := by rw [bne_iff_ne]; exact h0
  clear hs h0 h1 hA hB hD
  generalize twoE g h = E at *
  generalize twoE h g = E2 at *
  go_enter Try.func9, Try.ntmps9
  go_wp2_with (first | (go_at_call 16; with_reducible refine Calls.mono (awake_c _) ?_; rintro e wa ⟨rfl, hb⟩; have hc := hb.ccell; have hf := hb.frz; have hs := hb.sz; (try simp at hs); (try have t0 := hs (w.heap.size) (by first | assumption | omega)); (try have t1 := hs (w.heap.size) (by first | assumption | omega)); (try have t2 := hs (w.heap.size) (by first | assumption | omega)); (try have t3 := hs (w.heap.size) (by first | assumption | omega)); (try have t4 := hs (w.heap.size) (by first | assumption | omega)); (try have t5 := hs (w.heap.size) (by first | assumption | omega))) | (go_at_call 17; with_reducible refine Calls.mono (HF.out _ (by (repeat (first | with_reducible exact Ext.rfl' _ | with_reducible assumption | with_reducible refine Ext.al ?_ _ | with_reducible refine Ext.dr ?_ | with_reducible refine Ext.st ?_ (by simp) _ | with_reducible refine Ext.tr ?_ (by assumption))))) ?_; rintro e wf ⟨rfl, hb⟩; have hc := hb.ccell; have hf := hb.frz; have hs := hb.sz; (try simp at hs); (try have t0 := hs (w.heap.size) (by first | assumption | omega)); (try have t1 := hs (w.heap.size) (by first | assumption | omega)); (try have t2 := hs (w.heap.size) (by first | assumption | omega)); (try have t3 := hs (w.heap.size) (by first | assumption | omega)); (try have t4 := hs (w.heap.size) (by first | assumption | omega)); (try have t5 := hs (w.heap.size) (by first | assumption | omega))) | (go_at_call 17; with_reducible refine Calls.mono (HG.out _ (by (repeat (first | with_reducible exact Ext.rfl' _ | with_reducible assumption | with_reducible refine Ext.al ?_ _ | with_reducible refine Ext.dr ?_ | with_reducible refine Ext.st ?_ (by simp) _ | with_reducible refine Ext.tr ?_ (by assumption))))) ?_; rintro e wg ⟨rfl, hb⟩; have hc := hb.ccell; have hf := hb.frz; have hs := hb.sz; (try simp at hs); (try have t0 := hs (w.heap.size) (by first | assumption | omega)); (try have t1 := hs (w.heap.size) (by first | assumption | omega)); (try have t2 := hs (w.heap.size) (by first | assumption | omega)); (try have t3 := hs (w.heap.size) (by first | assumption | omega)); (try have t4 := hs (w.heap.size) (by first | assumption | omega)); (try have t5 := hs (w.heap.size) (by first | assumption | omega))) | (go_at_call 17; with_reducible refine Calls.mono (HQ.out _ (by (repeat (first | with_reducible exact Ext.rfl' _ | with_reducible assumption | with_reducible refine Ext.al ?_ _ | with_reducible refine Ext.dr ?_ | with_reducible refine Ext.st ?_ (by simp) _ | with_reducible refine Ext.tr ?_ (by assumption))))) ?_; rintro e wq ⟨rfl, hb⟩; have hc := hb.ccell; have hf := hb.frz; have hs := hb.sz; (try simp at hs); (try have t0 := hs (w.heap.size) (by first | assumption | omega)); (try have t1 := hs (w.heap.size) (by first | assumption | omega)); (try have t2 := hs (w.heap.size) (by first | assumption | omega)); (try have t3 := hs (w.heap.size) (by first | assumption | omega)); (try have t4 := hs (w.heap.size) (by first | assumption | omega)); (try have t5 := hs (w.heap.size) (by first | assumption | omega))) | (go_at_call 42; with_reducible refine Calls.mono (HCA.out _ (by (repeat (first | with_reducible exact Ext.rfl' _ | with_reducible assumption | with_reducible refine Ext.al ?_ _ | with_reducible refine Ext.dr ?_ | with_reducible refine Ext.st ?_ (by simp) _ | with_reducible refine Ext.tr ?_ (by assumption))))) ?_; rintro e wc1 ⟨rfl, hb⟩; have hc := hb.ccell; have hf := hb.frz; have hs := hb.sz; (try simp at hs); (try have t0 := hs (w.heap.size) (by first | assumption | omega)); (try have t1 := hs (w.heap.size) (by first | assumption | omega)); (try have t2 := hs (w.heap.size) (by first | assumption | omega)); (try have t3 := hs (w.heap.size) (by first | assumption | omega)); (try have t4 := hs (w.heap.size) (by first | assumption | omega)); (try have t5 := hs (w.heap.size) (by first | assumption | omega))) | (go_at_call 42; with_reducible refine Calls.mono (HCB.out _ (by (repeat (first | with_reducible exact Ext.rfl' _ | with_reducible assumption | with_reducible refine Ext.al ?_ _ | with_reducible refine Ext.dr ?_ | with_reducible refine Ext.st ?_ (by simp) _ | with_reducible refine Ext.tr ?_ (by assumption))))) ?_; rintro e wc2 ⟨rfl, hb⟩; have hc := hb.ccell; have hf := hb.frz; have hs := hb.sz; (try simp at hs); (try have t0 := hs (w.heap.size) (by first | assumption | omega)); (try have t1 := hs (w.heap.size) (by first | assumption | omega)); (try have t2 := hs (w.heap.size) (by first | assumption | omega)); (try have t3 := hs (w.heap.size) (by first | assumption | omega)); (try have t4 := hs (w.heap.size) (by first | assumption | omega)); (try have t5 := hs (w.heap.size) (by first | assumption | omega))) | (go_at_call 43; with_reducible refine Calls.mono (HST.out _ (by (repeat (first | with_reducible exact Ext.rfl' _ | with_reducible assumption | with_reducible refine Ext.al ?_ _ | with_reducible refine Ext.dr ?_ | with_reducible refine Ext.st ?_ (by simp) _ | with_reducible refine Ext.tr ?_ (by assumption))))) ?_; rintro e ws ⟨rfl, hb⟩; have hc := hb.ccell; have hf := hb.frz; have hs := hb.sz; (try simp at hs); (try have t0 := hs (w.heap.size) (by first | assumption | omega)); (try have t1 := hs (w.heap.size) (by first | assumption | omega)); (try have t2 := hs (w.heap.size) (by first | assumption | omega)); (try have t3 := hs (w.heap.size) (by first | assumption | omega)); (try have t4 := hs (w.heap.size) (by first | assumption | omega)); (try have t5 := hs (w.heap.size) (by first | assumption | omega))) | (go_at_call 46; with_reducible refine Calls.mono (HSL.out _ (by (repeat (first | with_reducible exact Ext.rfl' _ | with_reducible assumption | with_reducible refine Ext.al ?_ _ | with_reducible refine Ext.dr ?_ | with_reducible refine Ext.st ?_ (by simp) _ | with_reducible refine Ext.tr ?_ (by assumption))))) ?_; rintro e wl ⟨rfl, hb⟩; have hc := hb.ccell; have hf := hb.frz; have hs := hb.sz; (try simp at hs); (try have t0 := hs (w.heap.size) (by first | assumption | omega)); (try have t1 := hs (w.heap.size) (by first | assumption | omega)); (try have t2 := hs (w.heap.size) (by first | assumption | omega)); (try have t3 := hs (w.heap.size) (by first | assumption | omega)); (try have t4 := hs (w.heap.size) (by first | assumption | omega)); (try have t5 := hs (w.heap.size) (by first | assumption | omega))))
  go_ret
  exact ⟨rfl, by (repeat (first | with_reducible exact Ext.rfl' _ | with_reducible assumption | with_reducible refine Ext.al ?_ _ | with_reducible refine Ext.dr ?_ | with_reducible refine Ext.st ?_ (by simp) _ | with_reducible refine Ext.tr ?_ (by assumption)))⟩
set_option maxHeartbeats 16000000 in
set_option maxRecDepth 100000 in
theorem ad_ok (g h q : Gr) (l : List Int) (w : World) (A B C D : Option Addr) (ca cb cc cd : Nat) (hl : g.L.length ≤ maxLen) (hm : h.L.length ≤ maxLen) (hq : q.L.length ≤ maxLen) (hk : l.length ≤ 20) (hA : Row 1 encZ w A g.L) (hB : Row 1 encZ w B h.L) (hC : Row 1 encZ w C q.L) (hD : Row 1 encZ w D l)
    (HF : Hid (∀ w', Ext w w' → Calls Try.prog 17 #[.agg #[.int .i64 g.X, .int .i64 g.Y, .int .i64 g.S, .int .i64 g.C, .int .i64 g.R, .slice A g.L.length ca]] w' fun e w'' => e = .returned (.bool true) ∧ Ext w' w'')) (HG : Hid (∀ w', Ext w w' → Calls Try.prog 17 #[.agg #[.int .i64 h.X, .int .i64 h.Y, .int .i64 h.S, .int .i64 h.C, .int .i64 h.R, .slice B h.L.length cb]] w' fun e w'' => e = .returned (.bool true) ∧ Ext w' w'')) (HQ : Hid (∀ w', Ext w w' → Calls Try.prog 17 #[.agg #[.int .i64 q.X, .int .i64 q.Y, .int .i64 q.S, .int .i64 q.C, .int .i64 q.R, .slice C q.L.length cc]] w' fun e w'' => e = .returned (.bool true) ∧ Ext w' w'')) (h0 : twoE g h = 0) :
    Calls Try.prog 9 #[.agg #[.int .i64 g.X, .int .i64 g.Y, .int .i64 g.S, .int .i64 g.C, .int .i64 g.R, .slice A g.L.length ca, .int .i64 h.X, .int .i64 h.Y, .int .i64 h.S, .int .i64 h.C, .int .i64 h.R, .slice B h.L.length cb, .int .i64 q.X, .int .i64 q.Y, .int .i64 q.S, .int .i64 q.C, .int .i64 q.R, .slice C q.L.length cc, .slice D l.length cd]] w fun e w' => e = .returned (.bool true) ∧ Ext w w' := by
  have hk' : ¬ (20 : Int) < (l.length : Int) := by omega
  have h1 := twoE_flip2 h0
  obtain ⟨vg, vh, hsame, hn⟩ := twoE_ok h0
  obtain ⟨cn, rn, e1, e2, e3, e4, e5, e6, e7, e8⟩ := vg.nat
  have HCA := Lib.hid (fun w' (hw : Ext w w') => by
    have h9 := compare_c g h w' A B ca cb hl hm (hA.ext hw) (hB.ext hw)
    rw [h0] at h9
    rw [show chV 0 g h = .agg #[.int .i64 (allC g h), .int .i64 (allC h g), .int .i64 (allU g h)] from rfl] at h9
    exact h9)
  have HCB := Lib.hid (fun w' (hw : Ext w w') => by
    have h9 := compare_c h g w' B A cb ca hm hl (hB.ext hw) (hA.ext hw)
    rw [h1] at h9
    rw [show chV 0 h g = .agg #[.int .i64 (allC h g), .int .i64 (allC g h), .int .i64 (allU h g)] from rfl, allU_symm hn] at h9
    exact h9)
  have HST := Lib.hid (fun w' (hw : Ext w w') => strips_ok_c g h cn rn w' A B ca cb e1 e2 (hA.ext hw) (hB.ext hw) h0)
  have HSL := Lib.hid (fun w' (hw : Ext w w') => slices_any_c g h l w' A B D ca cb cd hl hm (by omega) (hA.ext hw) (hB.ext hw) (hD.ext hw) h0)
  obtain ⟨t1, t2, t3, t4⟩ := tot_cols (g := g) (h := h) h0 e7 e4
  obtain ⟨a1, b1, u1, a2, b2, u2, k1, k2, k3, k4, k5⟩ := third_bed (q := q) h0
  have HCC := Lib.hid (fun w' (hw : Ext w w') => by
    have h9 := compare_c g q w' A C ca cc hl hq (hA.ext hw) (hC.ext hw)
    rw [k1] at h9
    exact h9)
  have HCD := Lib.hid (fun w' (hw : Ext w w') => by
    have h9 := compare_c h q w' B C cb cc hm hq (hB.ext hw) (hC.ext hw)
    rw [k2] at h9
    exact h9)
  have HSP := Lib.hid k5
  have HBB := Lib.hid (And.intro (allC_bd h0) (And.intro k3 k4))
  obtain ⟨F, hF⟩ : ∃ F, mkC (colF g h cn rn) cn = F := ⟨_, rfl⟩
  have hFl : F.length = cn := by rw [← hF, mkC_len]
  rw [hF] at HST t1 t2 t3 t4
  have HT1 := Lib.hid t1
  have HT2 : Hid (sx F F.length = allC g h ∧ sy F F.length = allC h g ∧ sz F F.length = allU g h) := Lib.hid (by rw [hFl]; exact ⟨t2, t3, t4⟩)
  have hFm : F.length ≤ 1100 := t1.len
  clear k1 k2 k3 k4 k5
  generalize twoE g q = E1 at *
  generalize twoE h q = E2 at *
  clear h0 h1 vg vh hsame hn e1 e2 e3 e4 e5 e6 e7 e8 hF hFl t1 t2 t3 t4 hA hB hC hD
  unfold OutSl at HSL
  obtain ⟨a, ha⟩ : ∃ a, allC g h = a := ⟨_, rfl⟩
  obtain ⟨b, hb'⟩ : ∃ b, allC h g = b := ⟨_, rfl⟩
  obtain ⟨u, hu⟩ : ∃ u, allU g h = u := ⟨_, rfl⟩
  rw [ha, hb', hu] at HCA HCB HBB HT2 HSP
  rw [ha, hb'] at HSL
  clear ha hb' hu
  go_enter Try.func9, Try.ntmps9
  go_upto_region 5 with (first | (go_at_call 16; with_reducible refine Calls.mono (awake_c _) ?_; rintro e wa ⟨rfl, hb⟩; have hc := hb.ccell; have hf := hb.frz; have hs := hb.sz; (try simp at hs); (try have t0 := hs (w.heap.size) (by first | assumption | omega)); (try have t1 := hs (w.heap.size) (by first | assumption | omega)); (try have t2 := hs (w.heap.size) (by first | assumption | omega)); (try have t3 := hs (w.heap.size) (by first | assumption | omega)); (try have t4 := hs (w.heap.size) (by first | assumption | omega)); (try have t5 := hs (w.heap.size) (by first | assumption | omega))) | (go_at_call 17; with_reducible refine Calls.mono (HF.out _ (by (repeat (first | with_reducible exact Ext.rfl' _ | with_reducible assumption | with_reducible refine Ext.al ?_ _ | with_reducible refine Ext.dr ?_ | with_reducible refine Ext.st ?_ (by simp) _ | with_reducible refine Ext.tr ?_ (by assumption))))) ?_; rintro e wf ⟨rfl, hb⟩; have hc := hb.ccell; have hf := hb.frz; have hs := hb.sz; (try simp at hs); (try have t0 := hs (w.heap.size) (by first | assumption | omega)); (try have t1 := hs (w.heap.size) (by first | assumption | omega)); (try have t2 := hs (w.heap.size) (by first | assumption | omega)); (try have t3 := hs (w.heap.size) (by first | assumption | omega)); (try have t4 := hs (w.heap.size) (by first | assumption | omega)); (try have t5 := hs (w.heap.size) (by first | assumption | omega))) | (go_at_call 17; with_reducible refine Calls.mono (HG.out _ (by (repeat (first | with_reducible exact Ext.rfl' _ | with_reducible assumption | with_reducible refine Ext.al ?_ _ | with_reducible refine Ext.dr ?_ | with_reducible refine Ext.st ?_ (by simp) _ | with_reducible refine Ext.tr ?_ (by assumption))))) ?_; rintro e wg ⟨rfl, hb⟩; have hc := hb.ccell; have hf := hb.frz; have hs := hb.sz; (try simp at hs); (try have t0 := hs (w.heap.size) (by first | assumption | omega)); (try have t1 := hs (w.heap.size) (by first | assumption | omega)); (try have t2 := hs (w.heap.size) (by first | assumption | omega)); (try have t3 := hs (w.heap.size) (by first | assumption | omega)); (try have t4 := hs (w.heap.size) (by first | assumption | omega)); (try have t5 := hs (w.heap.size) (by first | assumption | omega))) | (go_at_call 17; with_reducible refine Calls.mono (HQ.out _ (by (repeat (first | with_reducible exact Ext.rfl' _ | with_reducible assumption | with_reducible refine Ext.al ?_ _ | with_reducible refine Ext.dr ?_ | with_reducible refine Ext.st ?_ (by simp) _ | with_reducible refine Ext.tr ?_ (by assumption))))) ?_; rintro e wq ⟨rfl, hb⟩; have hc := hb.ccell; have hf := hb.frz; have hs := hb.sz; (try simp at hs); (try have t0 := hs (w.heap.size) (by first | assumption | omega)); (try have t1 := hs (w.heap.size) (by first | assumption | omega)); (try have t2 := hs (w.heap.size) (by first | assumption | omega)); (try have t3 := hs (w.heap.size) (by first | assumption | omega)); (try have t4 := hs (w.heap.size) (by first | assumption | omega)); (try have t5 := hs (w.heap.size) (by first | assumption | omega))))
  have kx : CellsAt wq w.heap.size 0 [.int .i64 g.X, .int .i64 g.Y, .int .i64 g.S, .int .i64 g.C, .int .i64 g.R, .slice A g.L.length ca, .int .i64 h.X, .int .i64 h.Y, .int .i64 h.S, .int .i64 h.C, .int .i64 h.R, .slice B h.L.length cb, .int .i64 q.X, .int .i64 q.Y, .int .i64 q.S, .int .i64 q.C, .int .i64 q.R, .slice C q.L.length cc, .slice D l.length cd] := (box_cells w _ 72).ext (show Ext (w.alloc (.cells #[.int .i64 g.X, .int .i64 g.Y, .int .i64 g.S, .int .i64 g.C, .int .i64 g.R, .slice A g.L.length ca, .int .i64 h.X, .int .i64 h.Y, .int .i64 h.S, .int .i64 h.C, .int .i64 h.R, .slice B h.L.length cb, .int .i64 q.X, .int .i64 q.Y, .int .i64 q.S, .int .i64 q.C, .int .i64 q.R, .slice C q.L.length cc, .slice D l.length cd] 72)) wq from by (repeat (first | with_reducible exact Ext.rfl' _ | with_reducible assumption | with_reducible refine Ext.al ?_ _ | with_reducible refine Ext.dr ?_ | with_reducible refine Ext.st ?_ (by simp) _ | with_reducible refine Ext.tr ?_ (by assumption)))) (by simp)
  have hEq : Ext w wq := by (repeat (first | with_reducible exact Ext.rfl' _ | with_reducible assumption | with_reducible refine Ext.al ?_ _ | with_reducible refine Ext.dr ?_ | with_reducible refine Ext.st ?_ (by simp) _ | with_reducible refine Ext.tr ?_ (by assumption)))
  have zx : w.heap.size < wq.heap.size := by assumption
  clear hb hc hf hs t0 t1 t2 t3 t4 t5 HF HG HQ
  obtain ⟨x0, x1, x2, x3, x4, x5, x6, x7, x8, x9, x10, x11, x12, x13, x14, x15, x16, x17, x18⟩ := kx.n19
  go_upto_region 9 with (first | (go_at_call 42; with_reducible refine Calls.mono (HCA.out _ (hEq.tr (by (repeat (first | with_reducible exact Ext.rfl' _ | with_reducible assumption | with_reducible refine Ext.al ?_ _ | with_reducible refine Ext.dr ?_ | with_reducible refine Ext.st ?_ (by simp) _ | with_reducible refine Ext.tr ?_ (by assumption)))))) ?_; rintro e wc1 ⟨rfl, hb⟩; have hc := hb.ccell; have hf := hb.frz; have hs := hb.sz; (try simp at hs); (try have t0 := hs (w.heap.size) (by first | assumption | omega)); (try have t1 := hs (w.heap.size) (by first | assumption | omega)); (try have t2 := hs (w.heap.size) (by first | assumption | omega)); (try have t3 := hs (w.heap.size) (by first | assumption | omega)); (try have t4 := hs (w.heap.size) (by first | assumption | omega)); (try have t5 := hs (w.heap.size) (by first | assumption | omega))) | (go_at_call 42; with_reducible refine Calls.mono (HCB.out _ (hEq.tr (by (repeat (first | with_reducible exact Ext.rfl' _ | with_reducible assumption | with_reducible refine Ext.al ?_ _ | with_reducible refine Ext.dr ?_ | with_reducible refine Ext.st ?_ (by simp) _ | with_reducible refine Ext.tr ?_ (by assumption)))))) ?_; rintro e wc2 ⟨rfl, hb⟩; have hc := hb.ccell; have hf := hb.frz; have hs := hb.sz; (try simp at hs); (try have t0 := hs (w.heap.size) (by first | assumption | omega)); (try have t1 := hs (wc1.heap.size) (by first | assumption | omega)); (try have t2 := hs (w.heap.size) (by first | assumption | omega)); (try have t3 := hs (w.heap.size) (by first | assumption | omega)); (try have t4 := hs (w.heap.size) (by first | assumption | omega)); (try have t5 := hs (w.heap.size) (by first | assumption | omega))) | (go_at_call 43; (with_reducible refine Calls.mono (HST.out _ (hEq.tr (by (repeat (first | with_reducible exact Ext.rfl' _ | with_reducible assumption | with_reducible refine Ext.al ?_ _ | with_reducible refine Ext.dr ?_ | with_reducible refine Ext.st ?_ (by simp) _ | with_reducible refine Ext.tr ?_ (by assumption)))))) ?_); rintro e ws ⟨⟨A2, c2, rfl, hR2⟩, hb⟩; have hc := hb.ccell; have hf := hb.frz; have hs := hb.sz; (try simp at hs); (try have t0 := hs (w.heap.size) (by first | assumption | omega)); (try have t1 := hs (wc1.heap.size) (by first | assumption | omega)); (try have t2 := hs (w.heap.size) (by first | assumption | omega)); (try have t3 := hs (w.heap.size) (by first | assumption | omega)); (try have t4 := hs (w.heap.size) (by first | assumption | omega)); (try have t5 := hs (w.heap.size) (by first | assumption | omega))) | (go_at_call 46; (with_reducible refine Calls.mono (HSL.out _ (hEq.tr (by (repeat (first | with_reducible exact Ext.rfl' _ | with_reducible assumption | with_reducible refine Ext.al ?_ _ | with_reducible refine Ext.dr ?_ | with_reducible refine Ext.st ?_ (by simp) _ | with_reducible refine Ext.tr ?_ (by assumption)))))) ?_); rintro e wl ⟨⟨M, A3, c3, G3, rfl, hR3, hT3, hG3⟩, hb⟩; have hc := hb.ccell; have hf := hb.frz; have hs := hb.sz; (try simp at hs); (try have t0 := hs (w.heap.size) (by first | assumption | omega)); (try have t1 := hs (wc1.heap.size) (by first | assumption | omega)); (try have t2 := hs (w.heap.size) (by first | assumption | omega)); (try have t3 := hs (w.heap.size) (by first | assumption | omega)); (try have t4 := hs (w.heap.size) (by first | assumption | omega)); (try have t5 := hs (w.heap.size) (by first | assumption | omega))))
  refine wp_name (fun v9 hW => ?_)
  have hX : Ext wq v9 := by rw [hW]; (repeat (first | with_reducible exact Ext.rfl' _ | with_reducible assumption | with_reducible refine Ext.al ?_ _ | with_reducible refine Ext.dr ?_ | with_reducible refine Ext.st ?_ (by simp) _ | with_reducible refine Ext.tr ?_ (by assumption)))
  have HW := Lib.hid hW
  clear hW
  have kc : CellsAt v9 wc1.heap.size 0 [.int .i64 a, .int .i64 b, .int .i64 u] := by rw [HW.out]; refine cells_three ⟨?_, ?_, ?_⟩ <;> simp [*, World.cell?_alloc_past, World.cell?_alloc_new, go_sem]
  have kb : CellsAt v9 wc2.heap.size 0 [.int .i64 b, .int .i64 a, .int .i64 u] := by rw [HW.out]; refine cells_three ⟨?_, ?_, ?_⟩ <;> simp [go_sem]
  have zc : wc1.heap.size < v9.heap.size := by rw [HW.out]; simp; omega
  have zb : wc2.heap.size < v9.heap.size := by rw [HW.out]; simp
  have R2 := Lib.hid (hR2.ext (show Ext ws v9 from by rw [HW.out]; (repeat (first | with_reducible exact Ext.rfl' _ | with_reducible assumption | with_reducible refine Ext.al ?_ _ | with_reducible refine Ext.dr ?_ | with_reducible refine Ext.st ?_ (by simp) _ | with_reducible refine Ext.tr ?_ (by assumption)))))
  have R3 := Lib.hid (hR3.ext (show Ext wl v9 from by rw [HW.out]; (repeat (first | with_reducible exact Ext.rfl' _ | with_reducible assumption | with_reducible refine Ext.al ?_ _ | with_reducible refine Ext.dr ?_ | with_reducible refine Ext.st ?_ (by simp) _ | with_reducible refine Ext.tr ?_ (by assumption)))))
  have kx9 := kx.ext hX zx
  have zx9 := hX.sz _ zx
  have hE9 := hEq.tr hX
  have HT3 := Lib.hid hT3
  have HG3 := Lib.hid hG3
  have hMm : M.length ≤ 1100 := hT3.len
  clear HW hb hc hf hs t0 t1 t2 t3 t4 t5 x0 x1 x2 x3 x4 x5 x6 x7 x8 x9 x10 x11 x12 x13 x14 x15 x16 x17 x18 hX kx zx hEq hR2 hR3 hT3 hG3 HST HSL HCA HCB
  generalize wc1.heap.size = bc at *
  generalize wc2.heap.size = bb at *
  go_upto_region 12 with fail
  refine wp_name (fun v10 hW => ?_)
  have hX : Ext v9 v10 := by rw [hW]; (repeat (first | with_reducible exact Ext.rfl' _ | with_reducible assumption | with_reducible refine Ext.al ?_ _ | with_reducible refine Ext.dr ?_ | with_reducible refine Ext.st ?_ (by simp) _ | with_reducible refine Ext.tr ?_ (by assumption)))
  have HW := Lib.hid hW
  clear hW
  have HS0 : Hid (SumW v9 v10 v9.heap.size (v9.heap.size + 1) 0 0 0 0 0 0) := Lib.hid (by
    rw [HW.out]
    refine ⟨by (repeat (first | with_reducible exact Ext.rfl' _ | with_reducible assumption | with_reducible refine Ext.al ?_ _ | with_reducible refine Ext.dr ?_ | with_reducible refine Ext.st ?_ (by simp) _ | with_reducible refine Ext.tr ?_ (by assumption))), cells_three ?_, cells_three ?_, fun o => by simp [go_sem], fun o => by simp [go_sem], by simp; try omega, by simp, Nat.le_refl _, by omega⟩
    · refine ⟨?_, ?_, ?_⟩ <;> simp [World.cell?_alloc_past, World.cell?_alloc_new, go_sem]
    · refine ⟨?_, ?_, ?_⟩ <;> simp [go_sem])
  clear HW hX
  generalize v9.heap.size + 1 = bl at *
  obtain ⟨bs, hbs⟩ : ∃ bs, v9.heap.size = bs := ⟨_, rfl⟩
  rw [hbs] at HS0 ⊢
  clear hbs
  go_wp2
  go_loopw [13] (fun i wr => ∃ k : Nat, k ≤ F.length ∧ i = .int .i64 k ∧ Hid (SumW v9 wr bs bl (sx F k) (sy F k) (sz F k) 0 0 0)) (fun i _ => F.length - (intOf i).toNat)
  case atStart => exact ⟨0, Nat.zero_le _, rfl, HS0⟩
  case round =>
    clear HS0
    obtain ⟨k, hk, rfl, hS⟩ := hrel
    have hEr := hS.out.ext
    obtain ⟨o0, o1, o2⟩ := hS.out.ks.three
    have fo := hS.out.fs
    have zs := hS.out.zs
    by_cases hlt : k < F.length
    · obtain ⟨b1, off, rfl, hb1, hcell⟩ := R2.out.c3 hlt
      obtain ⟨c1, c2', c3'⟩ := hcell _ hEr
      have hz1 := hEr.sz _ hb1
      rw [← cget_lt F k hlt] at c1 c2' c3'
      clear hcell
      have p := HT1.out.bd hk
      have p1 := HT1.out.one hlt
      have q1 : Hid (sx F (k + 1) = sx F k + (cget F k).x) := Lib.hid rfl
      have q2 : Hid (sy F (k + 1) = sy F k + (cget F k).y) := Lib.hid rfl
      have q3 : Hid (sz F (k + 1) = sz F k + (cget F k).z) := Lib.hid rfl
      generalize sx F k = x at *
      generalize sy F k = y at *
      generalize sz F k = z at *
      generalize (cget F k).x = d0 at *
      generalize (cget F k).y = d1 at *
      generalize (cget F k).z = d2 at *
      have P1 := Lib.hid (fun w' => plus_c x y z d0 d1 d2 w' (by omega) (by omega) (by omega) (by omega) (by omega) (by omega))
      have HT : Hid (∀ w1, Ext wr w1 → SumW v9 (((w1.setCell ⟨bs, 0, none⟩ (.int .i64 (x + d0))).setCell ⟨bs, 1, none⟩ (.int .i64 (y + d1))).setCell ⟨bs, 2, none⟩ (.int .i64 (z + d2))) bs bl (sx F (k + 1)) (sy F (k + 1)) (sz F (k + 1)) 0 0 0) := Lib.hid fun w1 hx => by
        rw [q1.out, q2.out, q3.out]
        exact (hS.out.next hx).put1 _ _ _
      have hkf : (k : Int) < F.length := by omega
      have hk0 : (0 : Int) ≤ k := by omega
      clear p p1 q1 q2 q3 hS
      go_wp2
      refine region_grow_tail 6 (by kernel_rfl) (by kernel_rfl) ?_
      simp only [List.take_succ_cons, List.take_zero, List.drop_succ_cons, List.drop_zero]
      repeat (first | go_big_quiet_step (first | (go_at_call 50; with_reducible exact callsGrow (P1.out _)) | fail) | quiet_step (first | (go_at_call 50; with_reducible exact callsGrow (P1.out _)) | fail))
      refine wpQuiet_nil ?_
      intro w1 hb
      have hc := hb.ccell
      have hf := hb.frz
      have hs := hb.sz
      (try simp at hs); (try have hs0 := hs w.heap.size (by omega)); (try have hs1 := hs (w.heap.size + 1) (by omega)); (try have hs2 := hs (w.heap.size + 1 + 1) (by omega)); (try have hs3 := hs (w.heap.size + 1 + 1 + 1) (by omega))
      go_wp2
      exact ⟨⟨k + 1, by omega, by go_num, HT.out _ hb⟩, by simp [intOf]; omega⟩
    · have hks : k = F.length := by omega
      subst hks
      clear o0 o1 o2 fo zs hEr
      obtain ⟨q1, q2, q3⟩ := HT2.out
      rw [q1, q2, q3] at hS
      go_wp2
      go_loopw [14] (fun i ur => ∃ k : Nat, k ≤ M.length ∧ i = .int .i64 k ∧ Hid (SumW v9 ur bs bl a b u (sx M k) (sy M k) (sz M k))) (fun i _ => M.length - (intOf i).toNat)
      case atStart => exact ⟨0, Nat.zero_le _, rfl, hS⟩
      case round =>
        clear hS hlt hk
        obtain ⟨k, hk, rfl, hS⟩ := hrel
        have hEr := hS.out.ext
        by_cases hlt : k < M.length
        · obtain ⟨o0, o1, o2⟩ := hS.out.kl.three
          have fo := hS.out.fl
          have zs := hS.out.zl
          obtain ⟨b1, off, rfl, hb1, hcell⟩ := R3.out.c3 hlt
          obtain ⟨c1, c2', c3'⟩ := hcell _ hEr
          have hz1 := hEr.sz _ hb1
          rw [← cget_lt M k hlt] at c1 c2' c3'
          clear hcell
          have p := HT3.out.bd hk
          have p1 := HT3.out.one hlt
          have q1 : Hid (sx M (k + 1) = sx M k + (cget M k).x) := Lib.hid rfl
          have q2 : Hid (sy M (k + 1) = sy M k + (cget M k).y) := Lib.hid rfl
          have q3 : Hid (sz M (k + 1) = sz M k + (cget M k).z) := Lib.hid rfl
          generalize sx M k = x at *
          generalize sy M k = y at *
          generalize sz M k = z at *
          generalize (cget M k).x = d0 at *
          generalize (cget M k).y = d1 at *
          generalize (cget M k).z = d2 at *
          have P1 := Lib.hid (fun w' => plus_c x y z d0 d1 d2 w' (by omega) (by omega) (by omega) (by omega) (by omega) (by omega))
          have HT : Hid (∀ w1, Ext wr w1 → SumW v9 (((w1.setCell ⟨bl, 0, none⟩ (.int .i64 (x + d0))).setCell ⟨bl, 1, none⟩ (.int .i64 (y + d1))).setCell ⟨bl, 2, none⟩ (.int .i64 (z + d2))) bs bl a b u (sx M (k + 1)) (sy M (k + 1)) (sz M (k + 1))) := Lib.hid fun w1 hx => by
            rw [q1.out, q2.out, q3.out]
            exact (hS.out.next hx).put2 _ _ _
          have hkf : (k : Int) < M.length := by omega
          have hk0 : (0 : Int) ≤ k := by omega
          clear p p1 q1 q2 q3 hS
          go_wp2
          refine region_grow_tail 6 (by kernel_rfl) (by kernel_rfl) ?_
          simp only [List.take_succ_cons, List.take_zero, List.drop_succ_cons, List.drop_zero]
          repeat (first | go_big_quiet_step (first | (go_at_call 50; with_reducible exact callsGrow (P1.out _)) | fail) | quiet_step (first | (go_at_call 50; with_reducible exact callsGrow (P1.out _)) | fail))
          refine wpQuiet_nil ?_
          intro w1 hb
          have hc := hb.ccell
          have hf := hb.frz
          have hs := hb.sz
          (try simp at hs); (try have hs0 := hs w.heap.size (by omega)); (try have hs1 := hs (w.heap.size + 1) (by omega)); (try have hs2 := hs (w.heap.size + 1 + 1) (by omega)); (try have hs3 := hs (w.heap.size + 1 + 1 + 1) (by omega))
          go_wp2
          exact ⟨⟨k + 1, by omega, by go_num, HT.out _ hb⟩, by simp [intOf]; omega⟩
        · have hks : k = M.length := by omega
          subst hks
          obtain ⟨o0, o1, o2⟩ := hS.out.ks.three
          obtain ⟨p0, p1, p2⟩ := hS.out.kl.three
          have zs := hS.out.zs
          have zl := hS.out.zl
          obtain ⟨k0, k1, k2⟩ := (kc.ext hEr zc).three
          obtain ⟨n0, n1, n2⟩ := (kb.ext hEr zb).three
          have zc2 := hEr.sz _ zc
          have zb2 := hEr.sz _ zb
          have hch1 : chB a b u a b u = true := by unfold chB; simp
          have hch2 : chB b a u b a u = true := by unfold chB; simp
          have hEw := hE9.tr hEr
          have kxr := kx9.ext hEr zx9
          have zxr := hEr.sz _ zx9
          have kcr := kc.ext hEr zc
          have hG4 : Hid (G3 = 0 → sx M M.length = a ∧ sy M M.length = b) := HG3
          clear hS hlt hk HG3 HT1 HT2 HT3 R2 R3 hEr
          obtain ⟨w5, hw5⟩ : ∃ w5, w5 = wr := ⟨_, rfl⟩
          subst hw5
          generalize sx M M.length = x at *
          generalize sy M M.length = y at *
          generalize sz M M.length = z at *
          by_cases hG : G3 = 0
          · obtain ⟨rfl, rfl⟩ := hG4.out hG
            subst hG
            clear hG4
            go_upto_region 22 with fail
            clear o0 o1 o2 p0 p1 p2 k0 k1 k2 n0 n1 n2 zs zl zb2
            obtain ⟨x0, x1, x2, x3, x4, x5, x6, x7, x8, x9, x10, x11, x12, x13, x14, x15, x16, x17, x18⟩ := kxr.n19
            obtain ⟨k0, k1, k2⟩ := kcr.three
            rcases HSP.out with e1' | ⟨e1', e2'⟩ | ⟨e1', e2', hu⟩ | ⟨e1', e2', hu, hN'⟩
            · go_wp2_with (first | (go_at_call 42; with_reducible refine Calls.mono (HCC.out _ (hEw.tr (by (repeat (first | with_reducible exact Ext.rfl' _ | with_reducible assumption | with_reducible refine Ext.al ?_ _ | with_reducible refine Ext.dr ?_ | with_reducible refine Ext.st ?_ (by simp) _ | with_reducible refine Ext.tr ?_ (by assumption)))))) ?_; rintro e wc3 ⟨rfl, hb⟩; have hc := hb.ccell; have hf := hb.frz; have hs := hb.sz; (try simp at hs); (try have t0 := hs (w.heap.size) (by first | assumption | omega)); (try have t1 := hs (bc) (by first | assumption | omega)); (try have t2 := hs (w.heap.size) (by first | assumption | omega)); (try have t3 := hs (w.heap.size) (by first | assumption | omega)); (try have t4 := hs (w.heap.size) (by first | assumption | omega)); (try have t5 := hs (w.heap.size) (by first | assumption | omega))) | (go_at_call 42; with_reducible refine Calls.mono (HCD.out _ (hEw.tr (by (repeat (first | with_reducible exact Ext.rfl' _ | with_reducible assumption | with_reducible refine Ext.al ?_ _ | with_reducible refine Ext.dr ?_ | with_reducible refine Ext.st ?_ (by simp) _ | with_reducible refine Ext.tr ?_ (by assumption)))))) ?_; rintro e wc4 ⟨rfl, hb⟩; have hc := hb.ccell; have hf := hb.frz; have hs := hb.sz; (try simp at hs); (try have t0 := hs (w.heap.size) (by first | assumption | omega)); (try have t1 := hs (bc) (by first | assumption | omega)); (try have t2 := hs (wc3.heap.size) (by first | assumption | omega)); (try have t3 := hs (w.heap.size) (by first | assumption | omega)); (try have t4 := hs (w.heap.size) (by first | assumption | omega)); (try have t5 := hs (w.heap.size) (by first | assumption | omega))))
              go_ret
              exact ⟨rfl, hEw.tr (by (repeat (first | with_reducible exact Ext.rfl' _ | with_reducible assumption | with_reducible refine Ext.al ?_ _ | with_reducible refine Ext.dr ?_ | with_reducible refine Ext.st ?_ (by simp) _ | with_reducible refine Ext.tr ?_ (by assumption))))⟩
            · subst e1'
              go_wp2_with (first | (go_at_call 42; with_reducible refine Calls.mono (HCC.out _ (hEw.tr (by (repeat (first | with_reducible exact Ext.rfl' _ | with_reducible assumption | with_reducible refine Ext.al ?_ _ | with_reducible refine Ext.dr ?_ | with_reducible refine Ext.st ?_ (by simp) _ | with_reducible refine Ext.tr ?_ (by assumption)))))) ?_; rintro e wc3 ⟨rfl, hb⟩; have hc := hb.ccell; have hf := hb.frz; have hs := hb.sz; (try simp at hs); (try have t0 := hs (w.heap.size) (by first | assumption | omega)); (try have t1 := hs (bc) (by first | assumption | omega)); (try have t2 := hs (w.heap.size) (by first | assumption | omega)); (try have t3 := hs (w.heap.size) (by first | assumption | omega)); (try have t4 := hs (w.heap.size) (by first | assumption | omega)); (try have t5 := hs (w.heap.size) (by first | assumption | omega))) | (go_at_call 42; with_reducible refine Calls.mono (HCD.out _ (hEw.tr (by (repeat (first | with_reducible exact Ext.rfl' _ | with_reducible assumption | with_reducible refine Ext.al ?_ _ | with_reducible refine Ext.dr ?_ | with_reducible refine Ext.st ?_ (by simp) _ | with_reducible refine Ext.tr ?_ (by assumption)))))) ?_; rintro e wc4 ⟨rfl, hb⟩; have hc := hb.ccell; have hf := hb.frz; have hs := hb.sz; (try simp at hs); (try have t0 := hs (w.heap.size) (by first | assumption | omega)); (try have t1 := hs (bc) (by first | assumption | omega)); (try have t2 := hs (wc3.heap.size) (by first | assumption | omega)); (try have t3 := hs (w.heap.size) (by first | assumption | omega)); (try have t4 := hs (w.heap.size) (by first | assumption | omega)); (try have t5 := hs (w.heap.size) (by first | assumption | omega))))
              go_ret
              exact ⟨rfl, hEw.tr (by (repeat (first | with_reducible exact Ext.rfl' _ | with_reducible assumption | with_reducible refine Ext.al ?_ _ | with_reducible refine Ext.dr ?_ | with_reducible refine Ext.st ?_ (by simp) _ | with_reducible refine Ext.tr ?_ (by assumption))))⟩
            · subst e1' e2'
              obtain ⟨B0, B1, B2⟩ := HBB.out
              go_wp2_with (first | (go_at_call 42; with_reducible refine Calls.mono (HCC.out _ (hEw.tr (by (repeat (first | with_reducible exact Ext.rfl' _ | with_reducible assumption | with_reducible refine Ext.al ?_ _ | with_reducible refine Ext.dr ?_ | with_reducible refine Ext.st ?_ (by simp) _ | with_reducible refine Ext.tr ?_ (by assumption)))))) ?_; rintro e wc3 ⟨rfl, hb⟩; have hc := hb.ccell; have hf := hb.frz; have hs := hb.sz; (try simp at hs); (try have t0 := hs (w.heap.size) (by first | assumption | omega)); (try have t1 := hs (bc) (by first | assumption | omega)); (try have t2 := hs (w.heap.size) (by first | assumption | omega)); (try have t3 := hs (w.heap.size) (by first | assumption | omega)); (try have t4 := hs (w.heap.size) (by first | assumption | omega)); (try have t5 := hs (w.heap.size) (by first | assumption | omega))) | (go_at_call 42; with_reducible refine Calls.mono (HCD.out _ (hEw.tr (by (repeat (first | with_reducible exact Ext.rfl' _ | with_reducible assumption | with_reducible refine Ext.al ?_ _ | with_reducible refine Ext.dr ?_ | with_reducible refine Ext.st ?_ (by simp) _ | with_reducible refine Ext.tr ?_ (by assumption)))))) ?_; rintro e wc4 ⟨rfl, hb⟩; have hc := hb.ccell; have hf := hb.frz; have hs := hb.sz; (try simp at hs); (try have t0 := hs (w.heap.size) (by first | assumption | omega)); (try have t1 := hs (bc) (by first | assumption | omega)); (try have t2 := hs (wc3.heap.size) (by first | assumption | omega)); (try have t3 := hs (w.heap.size) (by first | assumption | omega)); (try have t4 := hs (w.heap.size) (by first | assumption | omega)); (try have t5 := hs (w.heap.size) (by first | assumption | omega))))
              go_ret
              exact ⟨rfl, hEw.tr (by (repeat (first | with_reducible exact Ext.rfl' _ | with_reducible assumption | with_reducible refine Ext.al ?_ _ | with_reducible refine Ext.dr ?_ | with_reducible refine Ext.st ?_ (by simp) _ | with_reducible refine Ext.tr ?_ (by assumption))))⟩
            · subst e1' e2'
              obtain ⟨B0, B1, B2⟩ := HBB.out
              go_wp2_with (first | (go_at_call 42; with_reducible refine Calls.mono (HCC.out _ (hEw.tr (by (repeat (first | with_reducible exact Ext.rfl' _ | with_reducible assumption | with_reducible refine Ext.al ?_ _ | with_reducible refine Ext.dr ?_ | with_reducible refine Ext.st ?_ (by simp) _ | with_reducible refine Ext.tr ?_ (by assumption)))))) ?_; rintro e wc3 ⟨rfl, hb⟩; have hc := hb.ccell; have hf := hb.frz; have hs := hb.sz; (try simp at hs); (try have t0 := hs (w.heap.size) (by first | assumption | omega)); (try have t1 := hs (bc) (by first | assumption | omega)); (try have t2 := hs (w.heap.size) (by first | assumption | omega)); (try have t3 := hs (w.heap.size) (by first | assumption | omega)); (try have t4 := hs (w.heap.size) (by first | assumption | omega)); (try have t5 := hs (w.heap.size) (by first | assumption | omega))) | (go_at_call 42; with_reducible refine Calls.mono (HCD.out _ (hEw.tr (by (repeat (first | with_reducible exact Ext.rfl' _ | with_reducible assumption | with_reducible refine Ext.al ?_ _ | with_reducible refine Ext.dr ?_ | with_reducible refine Ext.st ?_ (by simp) _ | with_reducible refine Ext.tr ?_ (by assumption)))))) ?_; rintro e wc4 ⟨rfl, hb⟩; have hc := hb.ccell; have hf := hb.frz; have hs := hb.sz; (try simp at hs); (try have t0 := hs (w.heap.size) (by first | assumption | omega)); (try have t1 := hs (bc) (by first | assumption | omega)); (try have t2 := hs (wc3.heap.size) (by first | assumption | omega)); (try have t3 := hs (w.heap.size) (by first | assumption | omega)); (try have t4 := hs (w.heap.size) (by first | assumption | omega)); (try have t5 := hs (w.heap.size) (by first | assumption | omega))))
              go_ret
              exact ⟨ret_bool (by first | exact hN' | (simp; done) | (simp; omega)), hEw.tr (by (repeat (first | with_reducible exact Ext.rfl' _ | with_reducible assumption | with_reducible refine Ext.al ?_ _ | with_reducible refine Ext.dr ?_ | with_reducible refine Ext.st ?_ (by simp) _ | with_reducible refine Ext.tr ?_ (by assumption))))⟩
          · have hG' : (G3 == 0) = false := by simp [hG]
            clear hG4 hG
            go_upto_region 22 with fail
            clear o0 o1 o2 p0 p1 p2 k0 k1 k2 n0 n1 n2 zs zl zb2
            obtain ⟨x0, x1, x2, x3, x4, x5, x6, x7, x8, x9, x10, x11, x12, x13, x14, x15, x16, x17, x18⟩ := kxr.n19
            obtain ⟨k0, k1, k2⟩ := kcr.three
            rcases HSP.out with e1' | ⟨e1', e2'⟩ | ⟨e1', e2', hu⟩ | ⟨e1', e2', hu, hN'⟩
            · go_wp2_with (first | (go_at_call 42; with_reducible refine Calls.mono (HCC.out _ (hEw.tr (by (repeat (first | with_reducible exact Ext.rfl' _ | with_reducible assumption | with_reducible refine Ext.al ?_ _ | with_reducible refine Ext.dr ?_ | with_reducible refine Ext.st ?_ (by simp) _ | with_reducible refine Ext.tr ?_ (by assumption)))))) ?_; rintro e wc3 ⟨rfl, hb⟩; have hc := hb.ccell; have hf := hb.frz; have hs := hb.sz; (try simp at hs); (try have t0 := hs (w.heap.size) (by first | assumption | omega)); (try have t1 := hs (bc) (by first | assumption | omega)); (try have t2 := hs (w.heap.size) (by first | assumption | omega)); (try have t3 := hs (w.heap.size) (by first | assumption | omega)); (try have t4 := hs (w.heap.size) (by first | assumption | omega)); (try have t5 := hs (w.heap.size) (by first | assumption | omega))) | (go_at_call 42; with_reducible refine Calls.mono (HCD.out _ (hEw.tr (by (repeat (first | with_reducible exact Ext.rfl' _ | with_reducible assumption | with_reducible refine Ext.al ?_ _ | with_reducible refine Ext.dr ?_ | with_reducible refine Ext.st ?_ (by simp) _ | with_reducible refine Ext.tr ?_ (by assumption)))))) ?_; rintro e wc4 ⟨rfl, hb⟩; have hc := hb.ccell; have hf := hb.frz; have hs := hb.sz; (try simp at hs); (try have t0 := hs (w.heap.size) (by first | assumption | omega)); (try have t1 := hs (bc) (by first | assumption | omega)); (try have t2 := hs (wc3.heap.size) (by first | assumption | omega)); (try have t3 := hs (w.heap.size) (by first | assumption | omega)); (try have t4 := hs (w.heap.size) (by first | assumption | omega)); (try have t5 := hs (w.heap.size) (by first | assumption | omega))))
              go_ret
              exact ⟨rfl, hEw.tr (by (repeat (first | with_reducible exact Ext.rfl' _ | with_reducible assumption | with_reducible refine Ext.al ?_ _ | with_reducible refine Ext.dr ?_ | with_reducible refine Ext.st ?_ (by simp) _ | with_reducible refine Ext.tr ?_ (by assumption))))⟩
            · subst e1'
              go_wp2_with (first | (go_at_call 42; with_reducible refine Calls.mono (HCC.out _ (hEw.tr (by (repeat (first | with_reducible exact Ext.rfl' _ | with_reducible assumption | with_reducible refine Ext.al ?_ _ | with_reducible refine Ext.dr ?_ | with_reducible refine Ext.st ?_ (by simp) _ | with_reducible refine Ext.tr ?_ (by assumption)))))) ?_; rintro e wc3 ⟨rfl, hb⟩; have hc := hb.ccell; have hf := hb.frz; have hs := hb.sz; (try simp at hs); (try have t0 := hs (w.heap.size) (by first | assumption | omega)); (try have t1 := hs (bc) (by first | assumption | omega)); (try have t2 := hs (w.heap.size) (by first | assumption | omega)); (try have t3 := hs (w.heap.size) (by first | assumption | omega)); (try have t4 := hs (w.heap.size) (by first | assumption | omega)); (try have t5 := hs (w.heap.size) (by first | assumption | omega))) | (go_at_call 42; with_reducible refine Calls.mono (HCD.out _ (hEw.tr (by (repeat (first | with_reducible exact Ext.rfl' _ | with_reducible assumption | with_reducible refine Ext.al ?_ _ | with_reducible refine Ext.dr ?_ | with_reducible refine Ext.st ?_ (by simp) _ | with_reducible refine Ext.tr ?_ (by assumption)))))) ?_; rintro e wc4 ⟨rfl, hb⟩; have hc := hb.ccell; have hf := hb.frz; have hs := hb.sz; (try simp at hs); (try have t0 := hs (w.heap.size) (by first | assumption | omega)); (try have t1 := hs (bc) (by first | assumption | omega)); (try have t2 := hs (wc3.heap.size) (by first | assumption | omega)); (try have t3 := hs (w.heap.size) (by first | assumption | omega)); (try have t4 := hs (w.heap.size) (by first | assumption | omega)); (try have t5 := hs (w.heap.size) (by first | assumption | omega))))
              go_ret
              exact ⟨rfl, hEw.tr (by (repeat (first | with_reducible exact Ext.rfl' _ | with_reducible assumption | with_reducible refine Ext.al ?_ _ | with_reducible refine Ext.dr ?_ | with_reducible refine Ext.st ?_ (by simp) _ | with_reducible refine Ext.tr ?_ (by assumption))))⟩
            · subst e1' e2'
              obtain ⟨B0, B1, B2⟩ := HBB.out
              go_wp2_with (first | (go_at_call 42; with_reducible refine Calls.mono (HCC.out _ (hEw.tr (by (repeat (first | with_reducible exact Ext.rfl' _ | with_reducible assumption | with_reducible refine Ext.al ?_ _ | with_reducible refine Ext.dr ?_ | with_reducible refine Ext.st ?_ (by simp) _ | with_reducible refine Ext.tr ?_ (by assumption)))))) ?_; rintro e wc3 ⟨rfl, hb⟩; have hc := hb.ccell; have hf := hb.frz; have hs := hb.sz; (try simp at hs); (try have t0 := hs (w.heap.size) (by first | assumption | omega)); (try have t1 := hs (bc) (by first | assumption | omega)); (try have t2 := hs (w.heap.size) (by first | assumption | omega)); (try have t3 := hs (w.heap.size) (by first | assumption | omega)); (try have t4 := hs (w.heap.size) (by first | assumption | omega)); (try have t5 := hs (w.heap.size) (by first | assumption | omega))) | (go_at_call 42; with_reducible refine Calls.mono (HCD.out _ (hEw.tr (by (repeat (first | with_reducible exact Ext.rfl' _ | with_reducible assumption | with_reducible refine Ext.al ?_ _ | with_reducible refine Ext.dr ?_ | with_reducible refine Ext.st ?_ (by simp) _ | with_reducible refine Ext.tr ?_ (by assumption)))))) ?_; rintro e wc4 ⟨rfl, hb⟩; have hc := hb.ccell; have hf := hb.frz; have hs := hb.sz; (try simp at hs); (try have t0 := hs (w.heap.size) (by first | assumption | omega)); (try have t1 := hs (bc) (by first | assumption | omega)); (try have t2 := hs (wc3.heap.size) (by first | assumption | omega)); (try have t3 := hs (w.heap.size) (by first | assumption | omega)); (try have t4 := hs (w.heap.size) (by first | assumption | omega)); (try have t5 := hs (w.heap.size) (by first | assumption | omega))))
              go_ret
              exact ⟨rfl, hEw.tr (by (repeat (first | with_reducible exact Ext.rfl' _ | with_reducible assumption | with_reducible refine Ext.al ?_ _ | with_reducible refine Ext.dr ?_ | with_reducible refine Ext.st ?_ (by simp) _ | with_reducible refine Ext.tr ?_ (by assumption))))⟩
            · subst e1' e2'
              obtain ⟨B0, B1, B2⟩ := HBB.out
              go_wp2_with (first | (go_at_call 42; with_reducible refine Calls.mono (HCC.out _ (hEw.tr (by (repeat (first | with_reducible exact Ext.rfl' _ | with_reducible assumption | with_reducible refine Ext.al ?_ _ | with_reducible refine Ext.dr ?_ | with_reducible refine Ext.st ?_ (by simp) _ | with_reducible refine Ext.tr ?_ (by assumption)))))) ?_; rintro e wc3 ⟨rfl, hb⟩; have hc := hb.ccell; have hf := hb.frz; have hs := hb.sz; (try simp at hs); (try have t0 := hs (w.heap.size) (by first | assumption | omega)); (try have t1 := hs (bc) (by first | assumption | omega)); (try have t2 := hs (w.heap.size) (by first | assumption | omega)); (try have t3 := hs (w.heap.size) (by first | assumption | omega)); (try have t4 := hs (w.heap.size) (by first | assumption | omega)); (try have t5 := hs (w.heap.size) (by first | assumption | omega))) | (go_at_call 42; with_reducible refine Calls.mono (HCD.out _ (hEw.tr (by (repeat (first | with_reducible exact Ext.rfl' _ | with_reducible assumption | with_reducible refine Ext.al ?_ _ | with_reducible refine Ext.dr ?_ | with_reducible refine Ext.st ?_ (by simp) _ | with_reducible refine Ext.tr ?_ (by assumption)))))) ?_; rintro e wc4 ⟨rfl, hb⟩; have hc := hb.ccell; have hf := hb.frz; have hs := hb.sz; (try simp at hs); (try have t0 := hs (w.heap.size) (by first | assumption | omega)); (try have t1 := hs (bc) (by first | assumption | omega)); (try have t2 := hs (wc3.heap.size) (by first | assumption | omega)); (try have t3 := hs (w.heap.size) (by first | assumption | omega)); (try have t4 := hs (w.heap.size) (by first | assumption | omega)); (try have t5 := hs (w.heap.size) (by first | assumption | omega))))
              go_ret
              exact ⟨ret_bool (by first | exact hN' | (simp; done) | (simp; omega)), hEw.tr (by (repeat (first | with_reducible exact Ext.rfl' _ | with_reducible assumption | with_reducible refine Ext.al ?_ _ | with_reducible refine Ext.dr ?_ | with_reducible refine Ext.st ?_ (by simp) _ | with_reducible refine Ext.tr ?_ (by assumption))))⟩
set_option maxHeartbeats 4000000 in
set_option maxRecDepth 100000 in
theorem ad_walk (g h q : Gr) (l : List Int) (w : World) (A B C D : Option Addr) (ca cb cc cd : Nat) (hl : g.L.length ≤ maxLen) (hm : h.L.length ≤ maxLen) (hq : q.L.length ≤ maxLen) (_hk : l.length ≤ maxLen) (hA : Row 1 encZ w A g.L) (hB : Row 1 encZ w B h.L) (hC : Row 1 encZ w C q.L) (hD : Row 1 encZ w D l) :
    Calls Try.prog 9 #[.agg #[.int .i64 g.X, .int .i64 g.Y, .int .i64 g.S, .int .i64 g.C, .int .i64 g.R, .slice A g.L.length ca, .int .i64 h.X, .int .i64 h.Y, .int .i64 h.S, .int .i64 h.C, .int .i64 h.R, .slice B h.L.length cb, .int .i64 q.X, .int .i64 q.Y, .int .i64 q.S, .int .i64 q.C, .int .i64 q.R, .slice C q.L.length cc, .slice D l.length cd]] w fun e w' => e = .returned (.bool true) ∧ Ext w w' := by
  have HF := Lib.hid (fun w' (hw : Ext w w') => few_c g w' A ca hl (hA.ext hw))
  have HG := Lib.hid (fun w' (hw : Ext w w') => few_c h w' B cb hm (hB.ext hw))
  have HQ := Lib.hid (fun w' (hw : Ext w w') => few_c q w' C cc hq (hC.ext hw))
  cases hf : fewB g
  · rw [hf] at HF
    clear hf
    go_enter Try.func9, Try.ntmps9
    go_wp2_with (first | (go_at_call 16; with_reducible refine Calls.mono (awake_c _) ?_; rintro e wa ⟨rfl, hb⟩; have hc := hb.ccell; have hf := hb.frz; have hs := hb.sz; (try simp at hs); (try have t0 := hs (w.heap.size) (by first | assumption | omega)); (try have t1 := hs (w.heap.size) (by first | assumption | omega)); (try have t2 := hs (w.heap.size) (by first | assumption | omega)); (try have t3 := hs (w.heap.size) (by first | assumption | omega)); (try have t4 := hs (w.heap.size) (by first | assumption | omega)); (try have t5 := hs (w.heap.size) (by first | assumption | omega))) | (go_at_call 17; with_reducible refine Calls.mono (HF.out _ (by (repeat (first | with_reducible exact Ext.rfl' _ | with_reducible assumption | with_reducible refine Ext.al ?_ _ | with_reducible refine Ext.dr ?_ | with_reducible refine Ext.st ?_ (by simp) _ | with_reducible refine Ext.tr ?_ (by assumption))))) ?_; rintro e wf ⟨rfl, hb⟩; have hc := hb.ccell; have hf := hb.frz; have hs := hb.sz; (try simp at hs); (try have t0 := hs (w.heap.size) (by first | assumption | omega)); (try have t1 := hs (w.heap.size) (by first | assumption | omega)); (try have t2 := hs (w.heap.size) (by first | assumption | omega)); (try have t3 := hs (w.heap.size) (by first | assumption | omega)); (try have t4 := hs (w.heap.size) (by first | assumption | omega)); (try have t5 := hs (w.heap.size) (by first | assumption | omega))))
    go_ret
    exact ⟨rfl, by (repeat (first | with_reducible exact Ext.rfl' _ | with_reducible assumption | with_reducible refine Ext.al ?_ _ | with_reducible refine Ext.dr ?_ | with_reducible refine Ext.st ?_ (by simp) _ | with_reducible refine Ext.tr ?_ (by assumption)))⟩
  rw [hf] at HF
  clear hf
  cases hf : fewB h
  · rw [hf] at HG
    clear hf
    go_enter Try.func9, Try.ntmps9
    go_wp2_with (first | (go_at_call 16; with_reducible refine Calls.mono (awake_c _) ?_; rintro e wa ⟨rfl, hb⟩; have hc := hb.ccell; have hf := hb.frz; have hs := hb.sz; (try simp at hs); (try have t0 := hs (w.heap.size) (by first | assumption | omega)); (try have t1 := hs (w.heap.size) (by first | assumption | omega)); (try have t2 := hs (w.heap.size) (by first | assumption | omega)); (try have t3 := hs (w.heap.size) (by first | assumption | omega)); (try have t4 := hs (w.heap.size) (by first | assumption | omega)); (try have t5 := hs (w.heap.size) (by first | assumption | omega))) | (go_at_call 17; with_reducible refine Calls.mono (HF.out _ (by (repeat (first | with_reducible exact Ext.rfl' _ | with_reducible assumption | with_reducible refine Ext.al ?_ _ | with_reducible refine Ext.dr ?_ | with_reducible refine Ext.st ?_ (by simp) _ | with_reducible refine Ext.tr ?_ (by assumption))))) ?_; rintro e wf ⟨rfl, hb⟩; have hc := hb.ccell; have hf := hb.frz; have hs := hb.sz; (try simp at hs); (try have t0 := hs (w.heap.size) (by first | assumption | omega)); (try have t1 := hs (w.heap.size) (by first | assumption | omega)); (try have t2 := hs (w.heap.size) (by first | assumption | omega)); (try have t3 := hs (w.heap.size) (by first | assumption | omega)); (try have t4 := hs (w.heap.size) (by first | assumption | omega)); (try have t5 := hs (w.heap.size) (by first | assumption | omega))) | (go_at_call 17; with_reducible refine Calls.mono (HG.out _ (by (repeat (first | with_reducible exact Ext.rfl' _ | with_reducible assumption | with_reducible refine Ext.al ?_ _ | with_reducible refine Ext.dr ?_ | with_reducible refine Ext.st ?_ (by simp) _ | with_reducible refine Ext.tr ?_ (by assumption))))) ?_; rintro e wg ⟨rfl, hb⟩; have hc := hb.ccell; have hf := hb.frz; have hs := hb.sz; (try simp at hs); (try have t0 := hs (w.heap.size) (by first | assumption | omega)); (try have t1 := hs (w.heap.size) (by first | assumption | omega)); (try have t2 := hs (w.heap.size) (by first | assumption | omega)); (try have t3 := hs (w.heap.size) (by first | assumption | omega)); (try have t4 := hs (w.heap.size) (by first | assumption | omega)); (try have t5 := hs (w.heap.size) (by first | assumption | omega))))
    go_ret
    exact ⟨rfl, by (repeat (first | with_reducible exact Ext.rfl' _ | with_reducible assumption | with_reducible refine Ext.al ?_ _ | with_reducible refine Ext.dr ?_ | with_reducible refine Ext.st ?_ (by simp) _ | with_reducible refine Ext.tr ?_ (by assumption)))⟩
  rw [hf] at HG
  clear hf
  cases hf : fewB q
  · rw [hf] at HQ
    clear hf
    go_enter Try.func9, Try.ntmps9
    go_wp2_with (first | (go_at_call 16; with_reducible refine Calls.mono (awake_c _) ?_; rintro e wa ⟨rfl, hb⟩; have hc := hb.ccell; have hf := hb.frz; have hs := hb.sz; (try simp at hs); (try have t0 := hs (w.heap.size) (by first | assumption | omega)); (try have t1 := hs (w.heap.size) (by first | assumption | omega)); (try have t2 := hs (w.heap.size) (by first | assumption | omega)); (try have t3 := hs (w.heap.size) (by first | assumption | omega)); (try have t4 := hs (w.heap.size) (by first | assumption | omega)); (try have t5 := hs (w.heap.size) (by first | assumption | omega))) | (go_at_call 17; with_reducible refine Calls.mono (HF.out _ (by (repeat (first | with_reducible exact Ext.rfl' _ | with_reducible assumption | with_reducible refine Ext.al ?_ _ | with_reducible refine Ext.dr ?_ | with_reducible refine Ext.st ?_ (by simp) _ | with_reducible refine Ext.tr ?_ (by assumption))))) ?_; rintro e wf ⟨rfl, hb⟩; have hc := hb.ccell; have hf := hb.frz; have hs := hb.sz; (try simp at hs); (try have t0 := hs (w.heap.size) (by first | assumption | omega)); (try have t1 := hs (w.heap.size) (by first | assumption | omega)); (try have t2 := hs (w.heap.size) (by first | assumption | omega)); (try have t3 := hs (w.heap.size) (by first | assumption | omega)); (try have t4 := hs (w.heap.size) (by first | assumption | omega)); (try have t5 := hs (w.heap.size) (by first | assumption | omega))) | (go_at_call 17; with_reducible refine Calls.mono (HG.out _ (by (repeat (first | with_reducible exact Ext.rfl' _ | with_reducible assumption | with_reducible refine Ext.al ?_ _ | with_reducible refine Ext.dr ?_ | with_reducible refine Ext.st ?_ (by simp) _ | with_reducible refine Ext.tr ?_ (by assumption))))) ?_; rintro e wg ⟨rfl, hb⟩; have hc := hb.ccell; have hf := hb.frz; have hs := hb.sz; (try simp at hs); (try have t0 := hs (w.heap.size) (by first | assumption | omega)); (try have t1 := hs (w.heap.size) (by first | assumption | omega)); (try have t2 := hs (w.heap.size) (by first | assumption | omega)); (try have t3 := hs (w.heap.size) (by first | assumption | omega)); (try have t4 := hs (w.heap.size) (by first | assumption | omega)); (try have t5 := hs (w.heap.size) (by first | assumption | omega))) | (go_at_call 17; with_reducible refine Calls.mono (HQ.out _ (by (repeat (first | with_reducible exact Ext.rfl' _ | with_reducible assumption | with_reducible refine Ext.al ?_ _ | with_reducible refine Ext.dr ?_ | with_reducible refine Ext.st ?_ (by simp) _ | with_reducible refine Ext.tr ?_ (by assumption))))) ?_; rintro e wq ⟨rfl, hb⟩; have hc := hb.ccell; have hf := hb.frz; have hs := hb.sz; (try simp at hs); (try have t0 := hs (w.heap.size) (by first | assumption | omega)); (try have t1 := hs (w.heap.size) (by first | assumption | omega)); (try have t2 := hs (w.heap.size) (by first | assumption | omega)); (try have t3 := hs (w.heap.size) (by first | assumption | omega)); (try have t4 := hs (w.heap.size) (by first | assumption | omega)); (try have t5 := hs (w.heap.size) (by first | assumption | omega))))
    go_ret
    exact ⟨rfl, by (repeat (first | with_reducible exact Ext.rfl' _ | with_reducible assumption | with_reducible refine Ext.al ?_ _ | with_reducible refine Ext.dr ?_ | with_reducible refine Ext.st ?_ (by simp) _ | with_reducible refine Ext.tr ?_ (by assumption)))⟩
  rw [hf] at HQ
  clear hf
  by_cases hk : 20 < l.length
  · have hk' : (20 : Int) < (l.length : Int) := by omega
    go_enter Try.func9, Try.ntmps9
    go_wp2_with (first | (go_at_call 16; with_reducible refine Calls.mono (awake_c _) ?_; rintro e wa ⟨rfl, hb⟩; have hc := hb.ccell; have hf := hb.frz; have hs := hb.sz; (try simp at hs); (try have t0 := hs (w.heap.size) (by first | assumption | omega)); (try have t1 := hs (w.heap.size) (by first | assumption | omega)); (try have t2 := hs (w.heap.size) (by first | assumption | omega)); (try have t3 := hs (w.heap.size) (by first | assumption | omega)); (try have t4 := hs (w.heap.size) (by first | assumption | omega)); (try have t5 := hs (w.heap.size) (by first | assumption | omega))) | (go_at_call 17; with_reducible refine Calls.mono (HF.out _ (by (repeat (first | with_reducible exact Ext.rfl' _ | with_reducible assumption | with_reducible refine Ext.al ?_ _ | with_reducible refine Ext.dr ?_ | with_reducible refine Ext.st ?_ (by simp) _ | with_reducible refine Ext.tr ?_ (by assumption))))) ?_; rintro e wf ⟨rfl, hb⟩; have hc := hb.ccell; have hf := hb.frz; have hs := hb.sz; (try simp at hs); (try have t0 := hs (w.heap.size) (by first | assumption | omega)); (try have t1 := hs (w.heap.size) (by first | assumption | omega)); (try have t2 := hs (w.heap.size) (by first | assumption | omega)); (try have t3 := hs (w.heap.size) (by first | assumption | omega)); (try have t4 := hs (w.heap.size) (by first | assumption | omega)); (try have t5 := hs (w.heap.size) (by first | assumption | omega))) | (go_at_call 17; with_reducible refine Calls.mono (HG.out _ (by (repeat (first | with_reducible exact Ext.rfl' _ | with_reducible assumption | with_reducible refine Ext.al ?_ _ | with_reducible refine Ext.dr ?_ | with_reducible refine Ext.st ?_ (by simp) _ | with_reducible refine Ext.tr ?_ (by assumption))))) ?_; rintro e wg ⟨rfl, hb⟩; have hc := hb.ccell; have hf := hb.frz; have hs := hb.sz; (try simp at hs); (try have t0 := hs (w.heap.size) (by first | assumption | omega)); (try have t1 := hs (w.heap.size) (by first | assumption | omega)); (try have t2 := hs (w.heap.size) (by first | assumption | omega)); (try have t3 := hs (w.heap.size) (by first | assumption | omega)); (try have t4 := hs (w.heap.size) (by first | assumption | omega)); (try have t5 := hs (w.heap.size) (by first | assumption | omega))) | (go_at_call 17; with_reducible refine Calls.mono (HQ.out _ (by (repeat (first | with_reducible exact Ext.rfl' _ | with_reducible assumption | with_reducible refine Ext.al ?_ _ | with_reducible refine Ext.dr ?_ | with_reducible refine Ext.st ?_ (by simp) _ | with_reducible refine Ext.tr ?_ (by assumption))))) ?_; rintro e wq ⟨rfl, hb⟩; have hc := hb.ccell; have hf := hb.frz; have hs := hb.sz; (try simp at hs); (try have t0 := hs (w.heap.size) (by first | assumption | omega)); (try have t1 := hs (w.heap.size) (by first | assumption | omega)); (try have t2 := hs (w.heap.size) (by first | assumption | omega)); (try have t3 := hs (w.heap.size) (by first | assumption | omega)); (try have t4 := hs (w.heap.size) (by first | assumption | omega)); (try have t5 := hs (w.heap.size) (by first | assumption | omega))))
    go_ret
    exact ⟨rfl, by (repeat (first | with_reducible exact Ext.rfl' _ | with_reducible assumption | with_reducible refine Ext.al ?_ _ | with_reducible refine Ext.dr ?_ | with_reducible refine Ext.st ?_ (by simp) _ | with_reducible refine Ext.tr ?_ (by assumption)))⟩
  by_cases h0 : twoE g h = 0
  · exact ad_ok g h q l w A B C D ca cb cc cd hl hm hq (by omega) hA hB hC hD HF HG HQ h0
  · exact ad_err g h q l w A B C D ca cb cc cd hl hm (by omega) hA hB hD HF HG HQ h0
end Go.Proofs.Ytgnakeemcccfjaa

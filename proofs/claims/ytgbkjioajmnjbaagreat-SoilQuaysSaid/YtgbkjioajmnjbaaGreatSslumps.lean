/- The contract of slump. The contracts of area, fallen, checkBed, Slump. -/
import Derived.Test.YtgbkjioajmnjbaaGreatSpairs
import Derived.Deep.LoopGhost

namespace Go.Proofs.YtgbkjioajmnjbaaGreat
open Go Go.RowKit Go.IntWalk

theorem OwnK.setZ {w : World} {g cap : Nat} {l : List Int} (h : OwnK 3 1 encZ w g cap l) (i : Nat) (_hi : i < l.length) (v : Int) : OwnK 3 1 encZ (w.setCell ⟨g, i, none⟩ (.int .i64 v)) g cap (l.set i v) := by
  obtain ⟨cur, h1, h2, h3, h4, h5⟩ := h
  refine ⟨cur.setIfInBounds i (.int .i64 v), ?_, by simp [h2], by simp [h3], h4, ?_⟩
  · simp [World.setCell, Array.getElem?_modify, h1]
  · rw [List.length_set, Nat.mul_one] at *
    rw [Array.toList_setIfInBounds, List.take_set, h5]
    clear h1 h2 h3 h4 h5 _hi
    induction l generalizing i with
    | nil => simp
    | cons x l ih =>
      cases i with
      | zero => rfl
      | succ i => show encZ x ++ (l.flatMap encZ).set i _ = _; rw [ih]; rfl
theorem tch_own {α : Type} {t : TypeId} {k : Nat} {enc : α → List Value} {W w1 : World} {b g cap : Nat} {l : List α} (h : W.grownBy w1 (some b)) (ho : OwnK t k enc W g cap l) (hne : g ≠ b) : OwnK t k enc w1 g cap l := by
  have hl := ho.lt
  obtain ⟨cur, h1, h2⟩ := ho
  exact ⟨cur, (h.block g hl (by intro e; injection e with e; exact hne e)).trans h1, h2⟩
theorem OwnK.z {w : World} {g cap : Nat} {l : List Int} (h : OwnK 3 1 encZ w g cap l) {i : Nat} (hi : i < l.length) : w.cell? ⟨g, i, none⟩ = some (.int .i64 (gi l i)) := by
  refine h.cells encZ_len i _ ?_
  have : ∀ (l : List Int) (i : Nat), i < l.length → (l.flatMap encZ)[i]? = some (.int .i64 (gi l i)) := by
    intro l
    induction l with
    | nil => intro i hi; simp at hi
    | cons x l ih =>
      intro i hi
      cases i with
      | zero => rfl
      | succ i => rw [List.flatMap_cons]; show ([Value.int .i64 x] ++ _)[i + 1]? = _; rw [List.getElem?_append_right (by simp)]; simpa [gi, List.getD] using ih i (by simpa using hi)
  exact this l i hi
theorem newz_some {base : Nat} {w : World} {A : Option Addr} {c : Nat} {l : List Int} (h0 : 0 < l.length) (h : NewZ base w A c l) : ∃ g, A = some ⟨g, 0, none⟩ ∧ base ≤ g ∧ OwnK 3 1 encZ w g c l := by
  rcases h.2.2 with ⟨h1, _⟩ | h1
  · rw [h1] at h0; simp at h0
  · exact h1
theorem box7 (w : World) (t : TypeId) (v0 v1 v2 v3 v4 v5 v6 : Value) : CellsAt (w.alloc (.cells #[v0, v1, v2, v3, v4, v5, v6] t)) w.heap.size 0 [v0, v1, v2, v3, v4, v5, v6] := by
  refine cells_seven ⟨?_, ?_, ?_, ?_, ?_, ?_, ?_⟩ <;> simp [go_sem]
theorem newZ_own {base : Nat} {w : World} {g c : Nat} {l : List Int} (h : OwnK 3 1 encZ w g c l) (hb : base ≤ g) : NewZ base w (some ⟨g, 0, none⟩) c l := by
  obtain ⟨cur, h1, h2, h3, h4, h5⟩ := h
  exact ⟨h3, h4, .inr ⟨g, rfl, hb, cur, h1, h2, h3, h4, h5⟩⟩
theorem tch_rowO {α : Type} {k : Nat} {enc : α → List Value} {W w1 : World} {b : Nat} {A : Option Addr} {l : List α} (h : W.grownBy w1 (some b)) (hR : Row k enc W A l) (hne : ∀ x off, A = some ⟨x, off, none⟩ → x ≠ b) : Row k enc w1 A l := by
  rcases id hR with h0 | ⟨b', off', rfl, _⟩
  · exact .inl h0
  · exact tch_row h hR (hne _ _ rfl)
theorem ite_minS (a b : Int) : (if b < a then b else a) = min a b := by split <;> omega
theorem index2 (a b : Int) (w : World) :
    (Instr.index 94 (.agg #[.int .i64 a, .int .i64 b]) (.int .i64 0)).run Tryz.prog w = .ok (.int .i64 a) w ∧
    (Instr.index 94 (.agg #[.int .i64 a, .int .i64 b]) (.int .i64 1)).run Tryz.prog w = .ok (.int .i64 b) w := ⟨by kernel_rfl, by kernel_rfl⟩
/-- The grid with other levels. -/
def withL (g : Gr) (L : List Int) : Gr := ⟨g.X, g.Y, g.S, g.C, g.R, L⟩
def OutSp (base : Nat) (ps : List (Nat × Nat)) (al : Nat → Nat → Int) (g : Gr) (e : Ending) (w' : World) : Prop :=
  ∃ L A c, e = .returned (.agg #[.int .i64 g.X, .int .i64 g.Y, .int .i64 g.S, .int .i64 g.C, .int .i64 g.R, .slice A L.length c]) ∧ NewZ base w' A c L ∧ IsSl ps al g.L L
set_option maxHeartbeats 16000000 in
set_option maxRecDepth 100000 in
theorem slump_c (soils : List So) (bos : List Bo) (g : Gr) (cn rn : Nat) (w : World) (AS AB A : Option Addr) (cS cB c : Nat) (gw : GrW w soils AS bos AB) (v : VGd soils bos) (h0 : chkG g = 0) (hC : g.C = cn) (hR : g.R = rn) (hA : Row 1 encZ w A g.L) :
    Calls Tryz.prog 40 #[.agg #[.slice AS soils.length cS, .slice AB bos.length cB], .agg #[.int .i64 g.X, .int .i64 g.Y, .int .i64 g.S, .int .i64 g.C, .int .i64 g.R, .slice A g.L.length c]] w fun e w' => OutSp w.heap.size (prsN cn g.L.length (knB g.L) g.L.length) (alw g.S (rL soils bos g cn)) g e w' ∧ Ext w w' := by
  have vg := chkG_ok h0
  obtain ⟨cn', rn', e1, e2, e3, e4, e5, e6, e7, e8⟩ := vg.nat
  have hcc : cn' = cn := by omega
  have hrr : rn' = rn := by omega
  subst hcc hrr
  have hn : g.L.length ≤ 1024 := by omega
  have hpos : 0 < g.L.length := by rw [e7]; exact Nat.mul_pos e3 e5
  have HCL := Lib.hid (fun w' (hw : Ext w w') => cloneZ_c g.L w' A c (by omega) (hA.ext hw))
  have HWL := Lib.hid (fun w' A2 c2 => withLevels_c g g.L w' A A2 c c2)
  have HSO := Lib.hid (fun w' A2 c2 (hw : Ext w w') hr => slopesOf_c soils bos g cn' w' AS AB A2 cS cB c2 (gw.ext hw) v h0 hC hr)
  have hrl : (rL soils bos g cn').length = g.L.length := by unfold rL; rw [mkI_len]
  have hrv : ∀ i, i < g.L.length → 1 ≤ gi (rL soils bos g cn') i ∧ gi (rL soils bos g cn') i ≤ 1000 := by
    intro i hi
    unfold rL
    rw [mkI_gi _ _ _ hi]
    exact runB_pos v _ _
  obtain ⟨r, hr⟩ : ∃ r, rL soils bos g cn' = r := ⟨_, rfl⟩
  rw [hr] at HSO hrl hrv ⊢
  have HPA := Lib.hid (fun w' A2 B2 c2 d2 hr2 => pairs_c g cn' rn' r w' A2 B2 c2 d2 e3 e4 e1 e7 hn hr2)
  have HPM : Hid (∀ p ∈ prsN cn' g.L.length (knB g.L) g.L.length, p.1 < g.L.length ∧ p.2 < g.L.length ∧ gi g.L p.1 ≠ 30000 ∧ gi g.L p.2 ≠ 30000) := Lib.hid (by
    intro p hp
    have := (prs_mem (cn := cn') (rn := rn') (kn := knB g.L) (p := p)).1 (by rw [← e7]; exact hp)
    rw [← e7] at this
    exact ⟨this.1, this.2.1, by simpa [knB] using this.2.2.1, by simpa [knB] using this.2.2.2.1⟩)
  have hpl := prsN_len cn' g.L.length (knB g.L) g.L.length
  obtain ⟨ps, hps⟩ : ∃ ps, prsN cn' g.L.length (knB g.L) g.L.length = ps := ⟨_, rfl⟩
  rw [hps] at HPA HPM hpl ⊢
  have HST := Lib.hid (Falls.start ps (alw g.S r) vg.lev)
  have HAL := Lib.hid (fun a b (ha : a < g.L.length) (hb : b < g.L.length) => alw_pos vg.hs (hrv a ha) (hrv b hb))
  have hSS := vg.hs
  have HLV := Lib.hid vg.lev
  have HRV := Lib.hid hrv
  have HRL := Lib.hid hrl
  clear hrl hps hr e1 e2 e3 e4 e5 e6 e7 e8 vg hrv hC hR h0 v hA gw
  go_enter Tryz.func40, Tryz.ntmps40
  go_upto_region 1 with fail
  refine wp_name (fun W hW => ?_)
  have hEW : Ext w W := by rw [hW]; (repeat (first | with_reducible exact Ext.rfl' _ | with_reducible assumption | with_reducible refine Ext.al ?_ _ | with_reducible refine Ext.dr ?_ | with_reducible refine Ext.st ?_ (by simp) _ | with_reducible refine Ext.tr ?_ (by assumption)))
  have a0 : W.cell? ⟨w.heap.size, 0, none⟩ = some (.slice AS soils.length cS) := by rw [hW]; simp [go_sem]
  have a1 : W.cell? ⟨w.heap.size, 1, none⟩ = some (.slice AB bos.length cB) := by rw [hW]; simp [go_sem]
  have km : CellsAt W (w.heap.size + 1) 0 [.int .i64 g.X, .int .i64 g.Y, .int .i64 g.S, .int .i64 g.C, .int .i64 g.R, .slice A g.L.length c] := by rw [hW]; refine cells_six ⟨?_, ?_, ?_, ?_, ?_, ?_⟩ <;> simp [go_sem]
  have kz : CellsAt W (w.heap.size + 1 + 1) 0 [.int .i64 0, .int .i64 0, .int .i64 0, .int .i64 0, .int .i64 0, .slice none 0 0] := by rw [hW]; refine cells_six ⟨?_, ?_, ?_, ?_, ?_, ?_⟩ <;> simp [go_sem]
  have fz : ∀ o, W.frozen? ⟨w.heap.size + 1 + 1, o, none⟩ = false := by intro o; rw [hW]; simp [go_sem]
  have z2 : w.heap.size + 1 + 1 < W.heap.size := by rw [hW]; simp
  have z1 : w.heap.size + 1 < W.heap.size := by omega
  have z0 : w.heap.size < W.heap.size := by omega
  clear hW
  obtain ⟨m0, m1, m2, m3, m4, m5⟩ := km.six
  go_cut [5] (fun s wx => ∃ (nb g2 c2 d2 : Nat) (B2 : Option Addr), s = .pointer (some ⟨nb, 0, none⟩) ∧ Ext W wx ∧ W.heap.size ≤ nb ∧ nb < wx.heap.size ∧ W.heap.size ≤ g2 ∧ g2 ≠ nb ∧ (∀ x off, B2 = some ⟨x, off, none⟩ → x ≠ g2) ∧ Hid (CellsAt wx nb 0 [.int .i64 g.X, .int .i64 g.Y, .int .i64 g.S, .int .i64 g.C, .int .i64 g.R, .slice (some ⟨g2, 0, none⟩) g.L.length c2, .slice B2 r.length d2]) ∧ Hid (OwnK 3 1 encZ wx g2 c2 g.L) ∧ Hid (Row 1 encZ wx B2 r))
  case first =>
    clear HPA HPM HST HAL HRV
    go_region_held3 (fun w' => (∀ j : Nat, w'.cell? ⟨w.heap.size, j, none⟩ = W.cell? ⟨w.heap.size, j, none⟩) ∧ (∀ j : Nat, w'.cell? ⟨w.heap.size + 1, j, none⟩ = W.cell? ⟨w.heap.size + 1, j, none⟩)) ((refine Kp.of ?_ z0 z1; (repeat (first | with_reducible exact Ext.rfl' _ | with_reducible assumption | with_reducible refine Ext.al ?_ _ | with_reducible refine Ext.dr ?_ | with_reducible refine Ext.st ?_ (by first | (simp; done) | ((try have s2 := Below.size hb2); (try have s3 := Below.size hb3); (try have s4 := Below.size hb4); (try simp at s2); (try simp at s3); (try simp at s4); (try simp); omega)) _ | with_reducible refine Ext.tr ?_ (by with_reducible assumption))))) (first | (go_at_call 57; (with_reducible refine Calls.mono (HCL.out _ (hEW.tr (by (repeat (first | with_reducible exact Ext.rfl' _ | with_reducible assumption | with_reducible refine Ext.al ?_ _ | with_reducible refine Ext.dr ?_ | with_reducible refine Ext.st ?_ (by simp) _ | with_reducible refine Ext.tr ?_ (by assumption)))))) ?_); rintro e w2 ⟨⟨A2, c2, rfl, hN2⟩, hb2⟩; obtain ⟨g2, hA2, hg2, hO2⟩ := newz_some hpos hN2; subst hA2; (try simp at hg2); have hc2 := hb2.ccell; have hf2 := hb2.frz; have hs2 := hb2.sz; (try have t2 := hs2 W.heap.size (by first | assumption | (simp; done) | (simp; omega))); (try have t2' := hs2 w3.heap.size (by first | assumption | (simp; done) | (simp; omega)))) | (go_at_call 21; (with_reducible refine Calls.mono (HWL.out _ _ _) ?_); rintro e w3 ⟨rfl, hb3⟩; have hc3 := hb3.ccell; have hf3 := hb3.frz; have hs3 := hb3.sz; (try have t3 := hs3 W.heap.size (by first | assumption | (simp; done) | (simp; omega))); (try have t3' := hs3 w2.heap.size (by first | assumption | (simp; done) | (simp; omega)))) | (go_at_call 56; (with_reducible refine Calls.mono (HSO.out _ _ _ (hEW.tr (by (repeat (first | with_reducible exact Ext.rfl' _ | with_reducible assumption | with_reducible refine Ext.al ?_ _ | with_reducible refine Ext.dr ?_ | with_reducible refine Ext.st ?_ (by first | (simp; done) | ((try have s2 := Below.size hb2); (try have s3 := Below.size hb3); (try have s4 := Below.size hb4); (try simp at s2); (try simp at s3); (try simp at s4); (try simp); omega)) _ | with_reducible refine Ext.tr ?_ (by with_reducible assumption))))) (hN2.row.ext (by (repeat (first | with_reducible exact Ext.rfl' _ | with_reducible assumption | with_reducible refine Ext.al ?_ _ | with_reducible refine Ext.dr ?_ | with_reducible refine Ext.st ?_ (by first | (simp; done) | ((try have s2 := Below.size hb2); (try have s3 := Below.size hb3); (try have s4 := Below.size hb4); (try simp at s2); (try simp at s3); (try simp at s4); (try simp); omega)) _ | with_reducible refine Ext.tr ?_ (by with_reducible assumption)))))) ?_); rintro e w4 ⟨⟨B2, d2, rfl, hNB⟩, hb4⟩; have hc4 := hb4.ccell; have hf4 := hb4.frz; have hs4 := hb4.sz; (try have t4 := hs4 W.heap.size (by first | assumption | (simp; done) | (simp; omega))); (try have t4' := hs4 w2.heap.size (by first | assumption | (simp; done) | (simp; omega))); (try have t4'' := hs4 w3.heap.size (by first | assumption | (simp; done) | (simp; omega)))))
    all_goals
      rename_i hJ hK h1 h2 hH
      clear hH
      refine h2 _ _ (Met.intro (h1 _ _ ?_))
      (repeat apply Exists.intro)
      refine ⟨?_, rfl⟩
      refine ⟨_, g2, c2, d2, B2, rfl, ?_, ?_, ?_, ?_, ?_, ?_, Lib.hid ?_, Lib.hid ?_, Lib.hid ?_⟩
      · (repeat (first | with_reducible exact Ext.rfl' _ | with_reducible assumption | with_reducible refine Ext.al ?_ _ | with_reducible refine Ext.dr ?_ | with_reducible refine Ext.st ?_ (by first | (simp; done) | ((try have s2 := Below.size hb2); (try have s3 := Below.size hb3); (try have s4 := Below.size hb4); (try simp at s2); (try simp at s3); (try simp at s4); (try simp); omega)) _ | with_reducible refine Ext.tr ?_ (by with_reducible assumption)))
      · first | (simp; done) | ((try have s2 := Below.size hb2); (try have s3 := Below.size hb3); (try have s4 := Below.size hb4); (try simp at s2); (try simp at s3); (try simp at s4); (try simp); omega)
      · first | (simp; done) | ((try have s2 := Below.size hb2); (try have s3 := Below.size hb3); (try have s4 := Below.size hb4); (try simp at s2); (try simp at s3); (try simp at s4); (try simp); omega)
      · first | (simp; done) | ((try have s2 := Below.size hb2); (try have s3 := Below.size hb3); (try have s4 := Below.size hb4); (try simp at s2); (try simp at s3); (try simp at s4); (try simp); omega)
      · have l2 := hO2.lt
        first | (simp; done) | ((try have s2 := Below.size hb2); (try have s3 := Below.size hb3); (try have s4 := Below.size hb4); (try simp at s2); (try simp at s3); (try simp at s4); (try simp); omega)
      · intro x off hx
        have l2 := hO2.lt
        have l3 := hb3.size
        rcases hNB.2.2 with ⟨_, q, _⟩ | ⟨g5, q, q2, _⟩
        · rw [q] at hx; cases hx
        · rw [q] at hx
          injection hx with hx
          injection hx with hx _
          (try simp at q2)
          (try simp at l3)
          omega
      · first
          | with_reducible exact box7 _ _ _ _ _ _ _ _ _
          | (refine stL_at _ [.int .i64 g.X, .int .i64 g.Y, .int .i64 g.S, .int .i64 g.C, .int .i64 g.R, .slice (some ⟨g2, 0, none⟩) g.L.length c2, .slice B2 r.length d2] [.int .i64 0, .int .i64 0, .int .i64 0, .int .i64 0, .int .i64 0, .slice none 0 0, .slice none 0 0] 0 w4 ?_ rfl; (repeat (first | with_reducible exact box7 _ _ _ _ _ _ _ _ _ | with_reducible refine CellsAt.ext ?_ hb4 (by first | (simp; done) | ((try have s2 := Below.size hb2); (try have s3 := Below.size hb3); (try have s4 := Below.size hb4); (try simp at s2); (try simp at s3); (try simp at s4); (try simp); omega)) | with_reducible refine CellsAt.ext ?_ hb3 (by first | (simp; done) | ((try have s2 := Below.size hb2); (try have s3 := Below.size hb3); (try have s4 := Below.size hb4); (try simp at s2); (try simp at s3); (try simp at s4); (try simp); omega)) | with_reducible refine CellsAt.ext ?_ hb2 (by first | (simp; done) | ((try have s2 := Below.size hb2); (try have s3 := Below.size hb3); (try have s4 := Below.size hb4); (try simp at s2); (try simp at s3); (try simp at s4); (try simp); omega)) | with_reducible refine CellsAt.ext ?_ (Ext.dr (Ext.rfl' _)) (by first | (simp; done) | ((try have s2 := Below.size hb2); (try have s3 := Below.size hb3); (try have s4 := Below.size hb4); (try simp at s2); (try simp at s3); (try simp at s4); (try simp); omega)))); done)
      · have l2 := hO2.lt
        first
          | (refine hO2.ext ?_; ((repeat (first | with_reducible exact Ext.rfl' _ | with_reducible assumption | with_reducible refine Ext.al ?_ _ | with_reducible refine Ext.dr ?_ | with_reducible refine Ext.st ?_ (by first | (simp; done) | ((try have s2 := Below.size hb2); (try have s3 := Below.size hb3); (try have s4 := Below.size hb4); (try simp at s2); (try simp at s3); (try simp at s4); (try simp); omega)) _ | with_reducible refine Ext.tr ?_ (by with_reducible assumption)))); done)
          | exact stL_own _ (by first | (simp; done) | ((try have s2 := Below.size hb2); (try have s3 := Below.size hb3); (try have s4 := Below.size hb4); (try simp at s2); (try simp at s3); (try simp at s4); (try simp); omega)) [.int .i64 g.X, .int .i64 g.Y, .int .i64 g.S, .int .i64 g.C, .int .i64 g.R, .slice (some ⟨g2, 0, none⟩) g.L.length c2, .slice B2 r.length d2] 0 w4 (hO2.ext (by (repeat (first | with_reducible exact Ext.rfl' _ | with_reducible assumption | with_reducible refine Ext.al ?_ _ | with_reducible refine Ext.dr ?_ | with_reducible refine Ext.st ?_ (by first | (simp; done) | ((try have s2 := Below.size hb2); (try have s3 := Below.size hb3); (try have s4 := Below.size hb4); (try simp at s2); (try simp at s3); (try simp at s4); (try simp); omega)) _ | with_reducible refine Ext.tr ?_ (by with_reducible assumption)))))
      · first
          | (refine hNB.row.ext ?_; ((repeat (first | with_reducible exact Ext.rfl' _ | with_reducible assumption | with_reducible refine Ext.al ?_ _ | with_reducible refine Ext.dr ?_ | with_reducible refine Ext.st ?_ (by first | (simp; done) | ((try have s2 := Below.size hb2); (try have s3 := Below.size hb3); (try have s4 := Below.size hb4); (try simp at s2); (try simp at s3); (try simp at s4); (try simp); omega)) _ | with_reducible refine Ext.tr ?_ (by with_reducible assumption)))); done)
          | exact (NewZ.stL (w := w4) hNB (by first | (simp; done) | ((try have s2 := Below.size hb2); (try have s3 := Below.size hb3); (try have s4 := Below.size hb4); (try simp at s2); (try simp at s3); (try simp at s4); (try simp); omega)) 0 [.int .i64 g.X, .int .i64 g.Y, .int .i64 g.S, .int .i64 g.C, .int .i64 g.R, .slice (some ⟨g2, 0, none⟩) g.L.length c2, .slice B2 r.length d2]).row
  case rest =>
    obtain ⟨nb, g2, c2, d2, B2, rfl, hx, hnW, hnb, hg2W, hgn, hB2, hK7, hO2, hRB⟩ := hcut
    have hEc := hEW.tr hx
    have kz2 := kz.ext hx z2
    have fz2 : ∀ o, wc.frozen? ⟨w.heap.size + 1 + 1, o, none⟩ = false := fun o => (hx.frz _ o z2).trans (fz o)
    have z22 := hx.sz _ z2
    have hg2c := hO2.out.lt
    have hww : w.heap.size ≤ W.heap.size := by omega
    have hw2g : w.heap.size + 1 + 1 ≠ g2 := by omega
    have hwg : w.heap.size ≤ g2 := by omega
    obtain ⟨n0, n1, n2, n3, n4, n5, n6⟩ := hK7.out.seven
    clear m0 m1 m2 m3 m4 m5 km kz fz z0 z1 z2 a0 a1 hx hnW hg2W hEW HCL HWL HSO
    go_upto_region 4 with (first | (go_at_call 58; (with_reducible refine Calls.mono (HPA.out _ _ _ _ _ (hO2.out.row encZ_len)) ?_); rintro e wp ⟨⟨P, cP, rfl, hRP, hPb⟩, hb⟩; have hc := hb.ccell; have hf := hb.frz; have hs := hb.sz; (try simp at hs); (try have t0 := hs (w.heap.size) (by first | assumption | omega)); (try have t1 := hs (nb) (by first | assumption | omega)); (try have t2 := hs (w.heap.size) (by first | assumption | omega)); (try have t3 := hs (w.heap.size) (by first | assumption | omega)); (try have t4 := hs (w.heap.size) (by first | assumption | omega)); (try have t5 := hs (w.heap.size) (by first | assumption | omega))))
    have hEp : Ext wc wp := by assumption
    have hEwp := hEc.tr hEp
    have hK8 := Lib.hid (hK7.out.ext hEp hnb)
    have hO8 := Lib.hid (hO2.out.ext hEp)
    have hRB8 := Lib.hid (hRB.out.ext hEp)
    have hRP8 := Lib.hid hRP
    have hPg : ∀ x off, P = some ⟨x, off, none⟩ → x ≠ g2 := fun x off h => by have := hPb x off h; omega
    have kz8 := kz2.ext hEp z22
    have fz8 : ∀ o, wp.frozen? ⟨w.heap.size + 1 + 1, o, none⟩ = false := fun o => (hEp.frz _ o z22).trans (fz2 o)
    have z28 := hEp.sz _ z22
    have hnb8 := hEp.sz _ hnb
    have hM0 : ∀ L, Falls ps (alw g.S r) g.L L → -20000 * (g.L.length : Int) ≤ sumL L := by
      intro L hL
      unfold sumL
      rw [hL.len]
      refine sumN_low _ _ fun i hi => ?_
      by_cases hq : gi g.L i = 30000
      · rw [hL.unk i hq]; omega
      · exact hL.lo i hq
    have HM0 := Lib.hid hM0
    clear hb hc hf hs t0 t1 t2 t3 t4 t5 n0 n1 n2 n3 n4 n5 n6 hK7 hO2 hRB hRP hPb hEp hEc kz2 fz2 z22 hnb hg2c HPA hM0
    go_wp2
    go_loopg [7] (2 * (sumL g.L + 20000 * (g.L.length : Int)).toNat + 1) (fun gk f wr => wp.grownBy wr (some g2) ∧ ∃ (b : Bool) (L : List Int), f = .bool b ∧ L.length = g.L.length ∧ Hid (OwnK 3 1 encZ wr g2 c2 L) ∧ Hid (Falls ps (alw g.S r) g.L L) ∧ Hid (b = false → ∀ j (h : j < ps.length), okP L ps[j].1 ps[j].2 (alw g.S r ps[j].1 ps[j].2)) ∧ 2 * (sumL L + 20000 * (g.L.length : Int)).toNat + (if b = true then 1 else 0) ≤ gk)
    case atStart => exact ⟨tch_refl _ _, true, g.L, rfl, rfl, hO8, HST, Lib.hid (fun h => by cases h), by simp⟩
    case round =>
      obtain ⟨hT, b, L, rfl, hLl, hO, hFa, hok, hgk⟩ := hrel
      obtain ⟨gko, hgko⟩ : ∃ x, x = gk := ⟨_, rfl⟩
      subst hgko
      obtain ⟨wo, hwo⟩ : ∃ x, x = wr := ⟨_, rfl⟩
      subst hwo
      cases b
      · obtain ⟨m0, m1, m2, m3, m4, m5, m6⟩ := (CellsAt.grown hK8.out hT hnb8 (by intro e; injection e with e; exact hgn e.symm)).seven
        have e0 := CellsAt.grown kz8 hT z28 (by intro e; injection e with e; exact hw2g e)
        have HE0 := Lib.hid e0
        have hEw := tch_to_ext hT hEwp hwg
        obtain ⟨q0, q1, q2, q3, q4, q5⟩ := e0.six
        have fzo : ∀ o, wo.frozen? ⟨w.heap.size + 1 + 1, o, none⟩ = false := fun o => (grown_frzS hT z28 (by intro e; injection e with e; exact hw2g e) o).trans (fz8 o)
        have HIS : Hid (IsSl ps (alw g.S r) g.L L) := Lib.hid ⟨hFa.out, fun p hp => by obtain ⟨j, hj, rfl⟩ := List.getElem_of_mem hp; exact hok.out rfl j hj⟩
        have HLL := Lib.hid hLl
        clear e0 hT hFa hok kz8 fz8
        go_wp2
        have hSL := stL_at (w.heap.size + 1 + 1) [.int .i64 g.X, .int .i64 g.Y, .int .i64 g.S, .int .i64 g.C, .int .i64 g.R, .slice (some ⟨g2, 0, none⟩) g.L.length c2] _ 0 wo HE0.out rfl
        have hXL := stL_ext (w.heap.size + 1 + 1) (by omega) [.int .i64 g.X, .int .i64 g.Y, .int .i64 g.S, .int .i64 g.C, .int .i64 g.R, .slice (some ⟨g2, 0, none⟩) g.L.length c2] 0 wo hEw
        have hNL := stL_own (w.heap.size + 1 + 1) (Ne.symm hw2g) [.int .i64 g.X, .int .i64 g.Y, .int .i64 g.S, .int .i64 g.C, .int .i64 g.R, .slice (some ⟨g2, 0, none⟩) g.L.length c2] 0 wo hO.out
        show bodyPost _ _ _ _ _ (stL wo (w.heap.size + 1 + 1) 0 [.int .i64 g.X, .int .i64 g.Y, .int .i64 g.S, .int .i64 g.C, .int .i64 g.R, .slice (some ⟨g2, 0, none⟩) g.L.length c2])
        generalize stL wo (w.heap.size + 1 + 1) 0 [.int .i64 g.X, .int .i64 g.Y, .int .i64 g.S, .int .i64 g.C, .int .i64 g.R, .slice (some ⟨g2, 0, none⟩) g.L.length c2] = WL at hSL hXL hNL ⊢
        obtain ⟨s0, s1, s2, s3, s4, s5⟩ := hSL.six
        have hNB := newZ_own hNL hwg
        have e9 := HLL.out
        rw [← e9] at s5 
        refine bodyPost_ret (v := .agg #[.int .i64 g.X, .int .i64 g.Y, .int .i64 g.S, .int .i64 g.C, .int .i64 g.R, .slice (some ⟨g2, 0, none⟩) L.length c2]) (by simp [results, Tryz.results40, go_sem, s0, s1, s2, s3, s4, s5]) rfl ⟨⟨L, some ⟨g2, 0, none⟩, c2, rfl, hNB, HIS.out⟩, hXL⟩
      · obtain ⟨sumS, hsS⟩ : ∃ s, sumL L = s := ⟨_, rfl⟩
        rw [hsS] at hgk
        have hgk1 : 1 ≤ gko := by simp at hgk; omega
        have HLS := Lib.hid hsS
        have HLL := Lib.hid hLl
        clear hok hsS hLl
        go_wp2
        go_loopg [7, 25] ps.length (fun g3 f i wx => wp.grownBy wx (some g2) ∧ ∃ (k : Nat) (b : Bool) (K : List Int), k + g3 = ps.length ∧ i = .int .i64 (k : Int) ∧ f = .bool b ∧ Hid (K.length = g.L.length) ∧ Hid (OwnK 3 1 encZ wx g2 c2 K) ∧ Hid (Falls ps (alw g.S r) g.L K) ∧ Hid (b = false → K = L ∧ ∀ j (h : j < ps.length), j < k → okP L ps[j].1 ps[j].2 (alw g.S r ps[j].1 ps[j].2)) ∧ Hid (b = true → sumL K < sumS))
        case atStart => exact ⟨hT, 0, false, L, by omega, rfl, rfl, HLL, hO, hFa, Lib.hid (fun _ => ⟨rfl, fun j _ h => absurd h (Nat.not_lt_zero _)⟩), Lib.hid (fun h => by cases h)⟩
        case round =>
          clear hT hO
          obtain ⟨hT, k, b, K, hkg, rfl, rfl, hKl, hO, hFK, hok, hsum⟩ := hrel
          by_cases hlt : k < ps.length
          case neg =>
            have hks : k = ps.length := by omega
            have hgk9 := hgk
            go_wp2
            go_roundg (gko - 1)
            case measure => omega
            case rel =>
              refine ⟨hT, b, K, rfl, hKl.out, hO, hFK, Lib.hid (fun hb j hj => ?_), ?_⟩
              · obtain ⟨h1, h2⟩ := hok.out hb
                rw [h1]
                exact h2 j hj (by omega)
              · have h3 := HM0.out K hFK.out
                have h4 := HM0.out L hFa.out
                rw [HLS.out] at h4
                cases b
                · have h1 := (hok.out rfl).1
                  rw [h1, HLS.out]
                  simp at hgk9 ⊢
                  omega
                · have h1 := hsum.out rfl
                  simp at hgk9 ⊢
                  omega
          have hKL := hKl.out
          obtain ⟨pa, pb, hPk⟩ : ∃ pa pb, ps[k] = (pa, pb) := ⟨_, _, rfl⟩
          have hmem : (pa, pb) ∈ ps := by rw [← hPk]; exact List.getElem_mem hlt
          obtain ⟨ha, hb, hka, hkb⟩ := HPM.out _ hmem
          simp only at ha hb hka hkb
          obtain ⟨hal1, hal2⟩ := HAL.out pa pb ha hb
          obtain ⟨hm1, hm2⟩ := hFK.out.most hmem (by omega) hka hkb
          have hlev := HLV.out
          have hva : -20000 ≤ gi K pa ∧ gi K pa ≤ 20000 := ⟨hFK.out.lo pa hka, by have := hFK.out.le pa; rcases hlev pa ha with h | h <;> omega⟩
          have hvb : -20000 ≤ gi K pb ∧ gi K pb ≤ 20000 := ⟨hFK.out.lo pb hkb, by have := hFK.out.le pb; rcases hlev pb hb with h | h <;> omega⟩
          have HMM := Lib.hid (And.intro hm1 hm2)
          have HKA := Lib.hid (And.intro hka hkb)
          have hPE := Lib.hid hPk
          have rB := tch_rowO hT hRB8.out hB2
          have rP := tch_rowO hT hRP8.out hPg
          have HALW := Lib.hid (fun w' (hw : Ext wr w') => allowed_c g r pa pb w' (some ⟨g2, 0, none⟩) B2 c2 d2 hSS (by rw [HRL.out]; exact ha) (by rw [HRL.out]; exact hb) (by rw [HRL.out]; omega) (HRV.out pa ha) (HRV.out pb hb) (rB.ext hw))
          obtain ⟨bP, oP, rfl, hbP, hcP⟩ := rP.pr hlt
          obtain ⟨c0, c1⟩ := hcP _ (Ext.rfl' _)
          rw [hPk] at c0 c1
          simp only at c0 c1
          have kn := CellsAt.grown hK8.out hT hnb8 (by intro e; injection e with e; exact hgn e.symm)
          have la := hO.out.z (i := pa) (by rw [hKL]; exact ha)
          have lb := hO.out.z (i := pb) (by rw [hKL]; exact hb)
          have zg := hO.out.lt
          have zn : nb < wr.heap.size := Nat.lt_of_lt_of_le hnb8 hT.size
          clear hcP rP rB hal1 hm1 hm2 hlev hPk hmem hKL
          go_upto_region 9 with fail
          refine wp_name (fun W9 hW => ?_)
          have hE9 : Ext wr W9 := by rw [hW]; (repeat (first | with_reducible exact Ext.rfl' _ | with_reducible assumption | with_reducible refine Ext.al ?_ _ | with_reducible refine Ext.dr ?_ | with_reducible refine Ext.st ?_ (by simp) _ | with_reducible refine Ext.tr ?_ (by assumption)))
          have p0 : W9.cell? ⟨wr.heap.size, 0, none⟩ = some (.int .i64 (pa : Int)) := by rw [hW]; simp [go_sem]
          have p1 : W9.cell? ⟨wr.heap.size, 1, none⟩ = some (.int .i64 (pb : Int)) := by rw [hW]; simp [go_sem]
          have zp : wr.heap.size < W9.heap.size := by rw [hW]; simp
          clear hW c0 c1
          have kn9 := kn.ext hE9 zn
          obtain ⟨n0, n1, n2, n3, n4, n5, n6⟩ := kn9.seven
          have la := (hE9.ccell _ _ zg).trans la
          have lb := (hE9.ccell _ _ zg).trans lb
          have zg9 := hE9.sz _ zg
          have zn9 := hE9.sz _ zn
          have HAL9 := Lib.hid (fun w' (hw : Ext W9 w') => HALW.out w' (hE9.tr hw))
          have hpi : (pa : Int) < (g.L.length : Int) ∧ (pb : Int) < (g.L.length : Int) := by omega
          obtain ⟨dd, hdd⟩ : ∃ dd, alw g.S r pa pb = dd := ⟨_, rfl⟩
          obtain ⟨mm, hmm⟩ : ∃ mm, mostL K pa pb (alw g.S r pa pb) = mm := ⟨_, rfl⟩
          have hmv : min (gi K pa) (gi K pb) + dd = mm := by rw [← hmm, ← hdd]; rfl
          rw [hmm] at HMM
          rw [hdd] at HAL9 hal2
          have HD := Lib.hid hdd
          have HM := Lib.hid hmm
          have hmv0 := (HAL.out pa pb ha hb).1
          rw [hdd] at hmv0
          clear hdd hmm
          generalize wr.heap.size = pq at *
          go_cut [10] (fun s wx => s = .int .i64 mm ∧ Ext W9 wx)
          case first =>
            generalize gi K pa = xa at *
            generalize gi K pb = xb at *
            refine region_grow (by kernel_rfl) (by kernel_rfl) ?_
            repeat (first | go_big_quiet_step (first | (go_at_call 59; with_reducible exact callsGrow (HAL9.out _ (Grow.ok _))) | fail) | quiet_step (first | (go_at_call 59; with_reducible exact callsGrow (HAL9.out _ (Grow.ok _))) | fail))
            refine wpQuiet_nil ?_
            intro w1 hb
            have hc := hb.ccell
            have hf := hb.frz
            have hs := hb.sz
            (try simp at hs); (try have hs0 := hs w.heap.size (by omega)); (try have hs1 := hs (w.heap.size + 1) (by omega)); (try have hs2 := hs (w.heap.size + 1 + 1) (by omega)); (try have hs3 := hs (w.heap.size + 1 + 1 + 1) (by omega))
            (try simp only [IntWalk.i64_left])
            have hE10 : Ext W9 w1 := by assumption
            go_wp2
            go_meet
            all_goals
              refine ⟨?_, hE10⟩
              rw [← hmv]
              (try (first | rfl | (simp [ite_minS]; done)))
          case rest =>
            obtain ⟨rfl, hx⟩ := hcut
            have kc := kn9.ext hx zn9
            have p0c := (hx.ccell _ 0 zp).trans p0
            have p1c := (hx.ccell _ 1 zp).trans p1
            have zpc := hx.sz _ zp
            have hx9 : Ext wr wc := hE9.tr hx
            have hTc := tch_ext hT hx9
            have hOc := Lib.hid (hO.out.ext hx9)
            have hj := fun w => index2 (pa : Int) (pb : Int) w
            have hj0 := fun w => (hj w).1
            have hj1 := fun w => (hj w).2
            clear hj n0 n1 n2 n3 n4 n5 n6 la lb kn kn9 p0 p1 zp zg9 zn9 HAL9 HALW zg zn hx hE9 hx9 hT hO hva hvb hmv hmv0 hal2
            go_wp2
            go_loopg [7, 12, 52] 2 (fun g5 f _ jv wx => wp.grownBy wx (some g2) ∧ ∃ (j : Nat) (bb : Bool) (N : List Int), j + g5 = 2 ∧ jv = .int .i64 (j : Int) ∧ f = .bool bb ∧ Hid (N.length = g.L.length) ∧ Hid (OwnK 3 1 encZ wx g2 c2 N) ∧ Hid (Falls ps (alw g.S r) g.L N) ∧ Hid (bb = false → N = K ∧ b = false ∧ (1 ≤ j → gi K pa ≤ mm) ∧ (2 ≤ j → gi K pb ≤ mm)) ∧ Hid (bb = true → sumL N < sumS))
            case atStart => exact ⟨hTc, 0, b, K, by omega, rfl, rfl, hKl, hOc, hFK, Lib.hid (fun h => ⟨rfl, h, fun q => absurd q (by omega), fun q => absurd q (by omega)⟩), hsum⟩
            case round =>
              clear hOc
              obtain ⟨hT, j, bb, N, hj5, hjv, rfl, hNl, hO, hFN, hnb, hns⟩ := hrel
              rcases (by omega : j = 0 ∨ j = 1 ∨ j = 2) with rfl | rfl | rfl
              · have hji : u52 = .int .i64 0 := hjv
                subst hji
                clear hjv
                have zg := hO.out.lt
                have zn : nb < wr.heap.size := Nat.lt_of_lt_of_le hnb8 hT.size
                have lz := hO.out.z (i := pa) (by rw [hNl.out]; omega)
                have fg := hO.out.frozen encZ_len
                obtain ⟨n0, n1, n2, n3, n4, n5, n6⟩ := (CellsAt.grown hK8.out hT hnb8 (by intro e; injection e with e; exact hgn e.symm)).seven
                obtain ⟨xv, hxv⟩ : ∃ xv, gi N pa = xv := ⟨_, rfl⟩
                rw [hxv] at lz
                have HXV := Lib.hid hxv
                clear hxv hj1
                by_cases hgt : mm < xv
                · have hFS := Lib.hid (hFN.out.set pa mm (by assumption) HKA.out.1 (by rw [HXV.out]; exact hgt) HMM.out.1 (fun X h1 h2 => (HMM.out.2 X h1 h2).1))
                  have hOS := Lib.hid (hO.out.setZ pa (by rw [hNl.out]; omega) mm)
                  have hTS := tch_set hT pa (.int .i64 mm)
                  have hsl := sumL_set N pa mm (by rw [hNl.out]; omega)
                  have hsn : Hid (sumL (N.set pa mm) < sumS) := Lib.hid (by
                    rw [hsl, HXV.out]
                    cases bb
                    · have h1 := hnb.out rfl
                      rw [h1.1]
                      cases b
                      · rw [(hok.out rfl).1, HLS.out]; omega
                      · exact absurd h1.2.1 (by simp)
                    · have := hns.out rfl; omega)
                  clear hsl hO hT
                  go_wp2
                  go_roundg (gk - 1)
                  case measure => omega
                  case rel => exact ⟨hTS, 0 + 1, true, N.set pa mm, by omega, rfl, rfl, Lib.hid (by rw [List.length_set]; exact hNl.out), hOS, hFS, Lib.hid (fun h => by cases h), Lib.hid (fun _ => hsn.out)⟩
                · go_wp2
                  go_roundg (gk - 1)
                  case measure => omega
                  case rel => exact ⟨hT, 0 + 1, bb, N, by omega, rfl, rfl, hNl, hO, hFN, Lib.hid (fun h => by
                    obtain ⟨h1, h2, h3, h4⟩ := hnb.out h
                    have h5 := HXV.out
                    rw [h1] at h5
                    exact ⟨h1, h2, fun _ => by omega, fun q => absurd q (by omega)⟩), hns⟩
              · have hji : u52 = .int .i64 1 := hjv
                subst hji
                clear hjv
                have zg := hO.out.lt
                have zn : nb < wr.heap.size := Nat.lt_of_lt_of_le hnb8 hT.size
                have lz := hO.out.z (i := pb) (by rw [hNl.out]; omega)
                have fg := hO.out.frozen encZ_len
                obtain ⟨n0, n1, n2, n3, n4, n5, n6⟩ := (CellsAt.grown hK8.out hT hnb8 (by intro e; injection e with e; exact hgn e.symm)).seven
                obtain ⟨xv, hxv⟩ : ∃ xv, gi N pb = xv := ⟨_, rfl⟩
                rw [hxv] at lz
                have HXV := Lib.hid hxv
                clear hxv hj0
                by_cases hgt : mm < xv
                · have hFS := Lib.hid (hFN.out.set pb mm (by assumption) HKA.out.2 (by rw [HXV.out]; exact hgt) HMM.out.1 (fun X h1 h2 => (HMM.out.2 X h1 h2).2))
                  have hOS := Lib.hid (hO.out.setZ pb (by rw [hNl.out]; omega) mm)
                  have hTS := tch_set hT pb (.int .i64 mm)
                  have hsl := sumL_set N pb mm (by rw [hNl.out]; omega)
                  have hsn : Hid (sumL (N.set pb mm) < sumS) := Lib.hid (by
                    rw [hsl, HXV.out]
                    cases bb
                    · have h1 := hnb.out rfl
                      rw [h1.1]
                      cases b
                      · rw [(hok.out rfl).1, HLS.out]; omega
                      · exact absurd h1.2.1 (by simp)
                    · have := hns.out rfl; omega)
                  clear hsl hO hT
                  go_wp2
                  go_roundg (gk - 1)
                  case measure => omega
                  case rel => exact ⟨hTS, 1 + 1, true, N.set pb mm, by omega, rfl, rfl, Lib.hid (by rw [List.length_set]; exact hNl.out), hOS, hFS, Lib.hid (fun h => by cases h), Lib.hid (fun _ => hsn.out)⟩
                · go_wp2
                  go_roundg (gk - 1)
                  case measure => omega
                  case rel => exact ⟨hT, 1 + 1, bb, N, by omega, rfl, rfl, hNl, hO, hFN, Lib.hid (fun h => by
                    obtain ⟨h1, h2, h3, h4⟩ := hnb.out h
                    have h5 := HXV.out
                    rw [h1] at h5
                    exact ⟨h1, h2, fun _ => h3 (by omega), fun _ => by omega⟩), hns⟩
              · have hji : u52 = .int .i64 2 := hjv
                subst hji
                clear hjv hj0 hj1
                have hkl : k < ps.length := hlt
                have hrl2 : Hid (bb = false → N = L ∧ ∀ j (h : j < ps.length), j < k + 1 → okP L ps[j].1 ps[j].2 (alw g.S r ps[j].1 ps[j].2)) := Lib.hid (by
                  intro h
                  obtain ⟨h1, h2, h3, h4⟩ := hnb.out h
                  obtain ⟨h5, h6⟩ := hok.out h2
                  refine ⟨by rw [h1, h5], fun q hq hqk => ?_⟩
                  by_cases hqe : q = k
                  · subst hqe
                    rw [hPE.out]
                    refine okP_most ?_ ?_
                    · rw [← h5, HM.out]; exact h3 (by omega)
                    · rw [← h5, HM.out]; exact h4 (by omega)
                  · exact h6 q hq (by omega))
                go_wp2
                go_roundg (ps.length - (k + 1))
                case measure => omega
                case rel => exact ⟨hT, k + 1, bb, N, by omega, by go_num, rfl, hNl, hO, hFN, hrl2, hns⟩
end Go.Proofs.YtgbkjioajmnjbaaGreat

namespace Go.Proofs.YtgbkjioajmnjbaaGreat
open Go Go.RowKit Go.IntWalk

theorem sarea_c (g : Gr) (n : Nat) (w : World) (A : Option Addr) (c : Nat) (hS : 100 ≤ g.S ∧ g.S ≤ 10000) :
    Calls Tryz.prog 60 #[.agg #[.int .i64 g.X, .int .i64 g.Y, .int .i64 g.S, .int .i64 g.C, .int .i64 g.R, .slice A n c]] w fun e w' => e = .returned (.int .i64 (g.S * g.S)) ∧ Ext w w' := by
  have hb : 0 ≤ g.S * g.S ∧ g.S * g.S ≤ 10000 * 10000 := ⟨Int.mul_nonneg (by omega) (by omega), Int.mul_le_mul (by omega) (by omega) (by omega) (by omega)⟩
  go_enter Tryz.func60, Tryz.ntmps60
  go_wp2
  go_ret
  exact ⟨ret_int (by first | rfl | omega), by (repeat (first | with_reducible exact Ext.rfl' _ | with_reducible assumption | with_reducible refine Ext.al ?_ _ | with_reducible refine Ext.dr ?_ | with_reducible refine Ext.st ?_ (by simp) _ | with_reducible refine Ext.tr ?_ (by assumption)))⟩
/-- By how much levels differ together. -/
def dfN (L M : List Int) (n : Nat) : Int := sumN (fun i => gi L i - gi M i) n
theorem dfN_bound (L M : List Int) (h : ∀ i, -50000 ≤ gi L i - gi M i ∧ gi L i - gi M i ≤ 50000) : ∀ n : Nat, -50000 * (n : Int) ≤ dfN L M n ∧ dfN L M n ≤ 50000 * (n : Int)
  | 0 => by simp [dfN, sumN]
  | n + 1 => by
    have h1 := dfN_bound L M h n
    have h2 := h n
    unfold dfN at h1 ⊢
    rw [sumN]
    push_cast
    omega
set_option maxHeartbeats 4000000 in
theorem fallen_c (g : Gr) (M : List Int) (w : World) (A B : Option Addr) (c d : Nat) (hS : 100 ≤ g.S ∧ g.S ≤ 10000) (hl : g.L.length ≤ 1024) (hm : M.length = g.L.length) (hd : ∀ i, -50000 ≤ gi g.L i - gi M i ∧ gi g.L i - gi M i ≤ 50000) (hA : Row 1 encZ w A g.L) (hB : Row 1 encZ w B M)
    (hv : ∀ i, -60000 ≤ gi g.L i ∧ gi g.L i ≤ 60000) (hu : ∀ i, -60000 ≤ gi M i ∧ gi M i ≤ 60000) :
    Calls Tryz.prog 41 #[.agg #[.int .i64 g.X, .int .i64 g.Y, .int .i64 g.S, .int .i64 g.C, .int .i64 g.R, .slice A g.L.length c], .agg #[.int .i64 g.X, .int .i64 g.Y, .int .i64 g.S, .int .i64 g.C, .int .i64 g.R, .slice B M.length d]] w fun e w' => e = .returned (.int .i64 (dfN g.L M g.L.length * (g.S * g.S))) ∧ Ext w w' := by
  have HAR := Lib.hid (fun w' => sarea_c g g.L.length w' A c hS)
  have HDB := Lib.hid (dfN_bound g.L M hd)
  have hb : 0 ≤ g.S * g.S ∧ g.S * g.S ≤ 10000 * 10000 := ⟨Int.mul_nonneg (by omega) (by omega), Int.mul_le_mul (by omega) (by omega) (by omega) (by omega)⟩
  have hpr : Hid (∀ x : Int, -60000000 ≤ x → x ≤ 60000000 → -6000000000000000 ≤ x * (g.S * g.S) ∧ x * (g.S * g.S) ≤ 6000000000000000) := Lib.hid (by
    intro x h1 h2
    have := mul_bound (x := x) (y := g.S * g.S) (M := 60000000) (N := 100000000) (by omega) (by omega) (by omega) (by omega)
    omega)
  have HV := Lib.hid hv
  have HU := Lib.hid hu
  have HM := Lib.hid hm
  generalize g.S * g.S = ar at *
  clear hd hm hv hu
  go_enter Tryz.func41, Tryz.ntmps41
  go_upto_region 2 with fail
  refine wp_name (fun W hW => ?_)
  have hEW : Ext w W := by rw [hW]; (repeat (first | with_reducible exact Ext.rfl' _ | with_reducible assumption | with_reducible refine Ext.al ?_ _ | with_reducible refine Ext.dr ?_ | with_reducible refine Ext.st ?_ (by simp) _ | with_reducible refine Ext.tr ?_ (by assumption)))
  have kg : CellsAt W w.heap.size 0 [.int .i64 g.X, .int .i64 g.Y, .int .i64 g.S, .int .i64 g.C, .int .i64 g.R, .slice A g.L.length c] := by rw [hW]; refine cells_six ⟨?_, ?_, ?_, ?_, ?_, ?_⟩ <;> simp [go_sem]
  have b5 : W.cell? ⟨w.heap.size + 1, 5, none⟩ = some (.slice B M.length d) := by rw [hW]; simp [go_sem]
  have z1 : w.heap.size + 1 < W.heap.size := by rw [hW]; simp
  have z0 : w.heap.size < W.heap.size := by omega
  clear hW
  obtain ⟨m0, m1, m2, m3, m4, m5⟩ := kg.six
  go_wp2
  go_loopw [5, 11] (fun s i wr => Ext W wr ∧ ∃ k : Nat, k ≤ g.L.length ∧ i = .int .i64 k ∧ s = .int .i64 (dfN g.L M k)) (fun _ i _ => g.L.length - (intOf i).toNat)
  case atStart => exact ⟨Ext.rfl' _, 0, Nat.zero_le _, rfl, rfl⟩
  case round =>
    clear m0 m1 m2 m3 m4 m5
    obtain ⟨hE, k, hk, rfl, rfl⟩ := hrel
    have hEr := hEW.tr hE
    obtain ⟨m0, m1, m2, m3, m4, m5⟩ := (kg.ext hE z0).six
    have b5r := (hE.ccell _ 5 z1).trans b5
    have y0 := hE.sz _ z0
    have y1 := hE.sz _ z1
    have hbk := HDB.out k
    by_cases hlt : k < g.L.length
    · obtain ⟨b, off, rfl, hb0, hcell⟩ := hA.p1 hlt
      have c0 := hcell _ hEr
      obtain ⟨b', off', rfl, hb0', hcell'⟩ := hB.p1 (k := k) (by rw [HM.out]; exact hlt)
      have c1 := hcell' _ hEr
      rw [← gi_lt] at c0 c1
      have hz := hEr.sz _ hb0
      have hz' := hEr.sz _ hb0'
      have hvk := HV.out k
      have huk := HU.out k
      have hkm : (k : Int) < (M.length : Int) := by rw [HM.out]; omega
      have hX : Hid (dfN g.L M (k + 1) = dfN g.L M k + (gi g.L k - gi M k)) := rfl
      clear hcell hcell'
      generalize gi g.L k = x at *
      generalize gi M k = y at *
      generalize dfN g.L M k = s at *
      go_wp2
      exact ⟨⟨by (repeat (first | with_reducible exact Ext.rfl' _ | with_reducible assumption | with_reducible refine Ext.al ?_ _ | with_reducible refine Ext.dr ?_ | with_reducible refine Ext.st ?_ (by simp) _ | with_reducible refine Ext.tr ?_ (by assumption))), k + 1, by omega, by go_num, by rw [hX.out]⟩, by simp [intOf]; omega⟩
    · have hks : k = g.L.length := by omega
      subst hks
      have hp := hpr.out (dfN g.L M g.L.length) (by omega) (by omega)
      obtain ⟨s, hs9⟩ : ∃ s, dfN g.L M g.L.length = s := ⟨_, rfl⟩
      rw [hs9] at hp ⊢
      have HS9 := Lib.hid hs9
      clear hs9
      go_wp2_with (first | (go_at_call 60; with_reducible refine Calls.mono (HAR.out _) ?_; rintro e w3 ⟨rfl, hb⟩; have hc := hb.ccell; have hf := hb.frz; have hs := hb.sz; (try simp at hs); (try have t0 := hs (w.heap.size) (by first | assumption | omega)); (try have t1 := hs (w.heap.size) (by first | assumption | omega)); (try have t2 := hs (w.heap.size) (by first | assumption | omega)); (try have t3 := hs (w.heap.size) (by first | assumption | omega)); (try have t4 := hs (w.heap.size) (by first | assumption | omega)); (try have t5 := hs (w.heap.size) (by first | assumption | omega))))
      go_ret
      exact ⟨ret_int (by rw [HS9.out]), by (repeat (first | with_reducible exact Ext.rfl' _ | with_reducible assumption | with_reducible refine Ext.al ?_ _ | with_reducible refine Ext.dr ?_ | with_reducible refine Ext.st ?_ (by simp) _ | with_reducible refine Ext.tr ?_ (by assumption)))⟩
/-- The error of a ground, or of a grid. -/
def cbE (soils : List So) (bos : List Bo) (g : Gr) : Int := if chkGr soils bos ≠ 0 then chkGr soils bos else chkG g
theorem cbE_ok {soils : List So} {bos : List Bo} {g : Gr} (h : cbE soils bos g = 0) : VGd soils bos ∧ chkG g = 0 := by
  unfold cbE at h
  by_cases h1 : chkGr soils bos = 0
  · rw [if_neg (by omega)] at h; exact ⟨chkGr_ok h1, h⟩
  · rw [if_pos h1] at h; exact absurd h h1
set_option maxHeartbeats 4000000 in
theorem checkBed_c (soils : List So) (bos : List Bo) (g : Gr) (w : World) (AS AB A : Option Addr) (cS cB c : Nat) (gw : GrW w soils AS bos AB) (hl : g.L.length ≤ maxLen) (hA : Row 1 encZ w A g.L) :
    Calls Tryz.prog 39 #[.agg #[.slice AS soils.length cS, .slice AB bos.length cB], .agg #[.int .i64 g.X, .int .i64 g.Y, .int .i64 g.S, .int .i64 g.C, .int .i64 g.R, .slice A g.L.length c]] w fun e w' => e = .returned (.int .i64 (cbE soils bos g)) ∧ Ext w w' := by
  have HG := Lib.hid (fun w' (hw : Ext w w') => checkGround_c soils bos w' AS AB cS cB (gw.ext hw))
  have HC := Lib.hid (fun w' (hw : Ext w w') => check_c g w' A c hl (hA.ext hw))
  unfold cbE
  clear gw
  by_cases h0 : chkGr soils bos = 0
  case neg =>
    rw [if_pos h0]
    have h0' : (chkGr soils bos != 0) = true := by simp [h0]
    clear h0
    generalize chkGr soils bos = E at *
    go_enter Tryz.func39, Tryz.ntmps39
    go_wp2_with (first | (go_at_call 54; with_reducible refine Calls.mono (HG.out _ (by (repeat (first | with_reducible exact Ext.rfl' _ | with_reducible assumption | with_reducible refine Ext.al ?_ _ | with_reducible refine Ext.dr ?_ | with_reducible refine Ext.st ?_ (by simp) _ | with_reducible refine Ext.tr ?_ (by assumption))))) ?_; rintro e w1 ⟨rfl, hb⟩; have hc := hb.ccell; have hf := hb.frz; have hs := hb.sz; (try simp at hs); (try have hs0 := hs w.heap.size (by omega)); (try have hs1 := hs (w.heap.size + 1) (by omega)); (try have hs2 := hs (w.heap.size + 1 + 1) (by omega)); (try have hs3 := hs (w.heap.size + 1 + 1 + 1) (by omega))))
    go_ret
    exact ⟨rfl, by (repeat (first | with_reducible exact Ext.rfl' _ | with_reducible assumption | with_reducible refine Ext.al ?_ _ | with_reducible refine Ext.dr ?_ | with_reducible refine Ext.st ?_ (by simp) _ | with_reducible refine Ext.tr ?_ (by assumption)))⟩
  rw [if_neg (by omega)]
  rw [h0] at HG
  generalize chkG g = E at *
  clear h0
  go_enter Tryz.func39, Tryz.ntmps39
  go_wp2_with (first | (go_at_call 54; with_reducible refine Calls.mono (HG.out _ (by (repeat (first | with_reducible exact Ext.rfl' _ | with_reducible assumption | with_reducible refine Ext.al ?_ _ | with_reducible refine Ext.dr ?_ | with_reducible refine Ext.st ?_ (by simp) _ | with_reducible refine Ext.tr ?_ (by assumption))))) ?_; rintro e w1 ⟨rfl, hb⟩; have hc := hb.ccell; have hf := hb.frz; have hs := hb.sz; (try simp at hs); (try have t0 := hs (w.heap.size) (by first | assumption | omega)); (try have t1 := hs (w.heap.size + 1) (by first | assumption | omega)); (try have t2 := hs (w.heap.size) (by first | assumption | omega)); (try have t3 := hs (w.heap.size) (by first | assumption | omega)); (try have t4 := hs (w.heap.size) (by first | assumption | omega)); (try have t5 := hs (w.heap.size) (by first | assumption | omega))) | (go_at_call 42; with_reducible refine Calls.mono (HC.out _ (by (repeat (first | with_reducible exact Ext.rfl' _ | with_reducible assumption | with_reducible refine Ext.al ?_ _ | with_reducible refine Ext.dr ?_ | with_reducible refine Ext.st ?_ (by simp) _ | with_reducible refine Ext.tr ?_ (by assumption))))) ?_; rintro e w1 ⟨rfl, hb⟩; have hc := hb.ccell; have hf := hb.frz; have hs := hb.sz; (try simp at hs); (try have hs0 := hs w.heap.size (by omega)); (try have hs1 := hs (w.heap.size + 1) (by omega)); (try have hs2 := hs (w.heap.size + 1 + 1) (by omega)); (try have hs3 := hs (w.heap.size + 1 + 1 + 1) (by omega))))
  go_ret
  exact ⟨rfl, by (repeat (first | with_reducible exact Ext.rfl' _ | with_reducible assumption | with_reducible refine Ext.al ?_ _ | with_reducible refine Ext.dr ?_ | with_reducible refine Ext.st ?_ (by simp) _ | with_reducible refine Ext.tr ?_ (by assumption)))⟩
/-- What Slump returns. -/
def OutSu (base : Nat) (ps : List (Nat × Nat)) (al : Nat → Nat → Int) (g : Gr) (e : Ending) (w' : World) : Prop :=
  ∃ L A c, e = .returned (.tuple #[.agg #[.int .i64 g.X, .int .i64 g.Y, .int .i64 g.S, .int .i64 g.C, .int .i64 g.R, .slice A L.length c], .int .i64 (dfN g.L L g.L.length * (g.S * g.S)), .int .i64 0]) ∧ NewZ base w' A c L ∧ IsSl ps al g.L L
set_option maxHeartbeats 8000000 in
set_option maxRecDepth 100000 in
theorem gslump_ok_c (soils : List So) (bos : List Bo) (g : Gr) (cn rn : Nat) (w : World) (AS AB A : Option Addr) (cS cB c : Nat) (gw : GrW w soils AS bos AB) (h0 : cbE soils bos g = 0) (hC : g.C = cn) (hR : g.R = rn) (hA : Row 1 encZ w A g.L) :
    Calls Tryz.prog 19 #[.agg #[.slice AS soils.length cS, .slice AB bos.length cB], .agg #[.int .i64 g.X, .int .i64 g.Y, .int .i64 g.S, .int .i64 g.C, .int .i64 g.R, .slice A g.L.length c]] w fun e w' => OutSu w.heap.size (prsN cn g.L.length (knB g.L) g.L.length) (alw g.S (rL soils bos g cn)) g e w' ∧ Ext w w' := by
  obtain ⟨v, hg0⟩ := cbE_ok h0
  have vg := chkG_ok hg0
  have hn : g.L.length ≤ 1024 := by
    obtain ⟨_, _, _, _, _, _, _, _, e7, e8⟩ := vg.nat
    omega
  have HC := Lib.hid (fun w' (hw : Ext w w') => by
    have h := checkBed_c soils bos g w' AS AB A cS cB c (gw.ext hw) (by unfold maxLen; omega) (hA.ext hw)
    rw [h0] at h
    exact h)
  have HS := Lib.hid (fun w' (hw : Ext w w') => slump_c soils bos g cn rn w' AS AB A cS cB c (gw.ext hw) v hg0 hC hR (hA.ext hw))
  generalize prsN cn g.L.length (knB g.L) g.L.length = ps at *
  generalize alw g.S (rL soils bos g cn) = al at *
  have hlv : ∀ i, -60000 ≤ gi g.L i ∧ gi g.L i ≤ 60000 := by
    intro i
    by_cases hi : i < g.L.length
    · rcases vg.lev i hi with h | h <;> omega
    · rw [gi_out _ _ (by omega)]; omega
  have HF := Lib.hid (fun (L : List Int) B d w' (hw : Ext w w') (hs : IsSl ps al g.L L) hB => fallen_c g L w' A B c d vg.hs hn hs.1.len (by
    intro i
    have h1 := hs.1.le i
    have h2 := hlv i
    by_cases hq : gi g.L i = 30000
    · rw [hs.1.unk i hq, hq]; omega
    · have h3 := hs.1.lo i hq
      by_cases hi : i < g.L.length
      · rcases vg.lev i hi with h | h <;> omega
      · rw [gi_out g.L _ (by omega)] at *; omega) (hA.ext hw) hB hlv (by
    intro i
    have h1 := hs.1.le i
    have h2 := hlv i
    by_cases hq : gi g.L i = 30000
    · rw [hs.1.unk i hq]; omega
    · have h3 := hs.1.lo i hq
      omega))
  clear hlv vg hg0 h0 v gw hA hC hR
  go_enter Tryz.func19, Tryz.ntmps19
  go_upto_region 5 with (first | (go_at_call 39; with_reducible refine Calls.mono (HC.out _ (by (repeat (first | with_reducible exact Ext.rfl' _ | with_reducible assumption | with_reducible refine Ext.al ?_ _ | with_reducible refine Ext.dr ?_ | with_reducible refine Ext.st ?_ (by simp) _ | with_reducible refine Ext.tr ?_ (by assumption))))) ?_; rintro e wk ⟨rfl, hb⟩; have hc := hb.ccell; have hf := hb.frz; have hs := hb.sz; (try simp at hs); (try have t0 := hs (w.heap.size) (by first | assumption | omega)); (try have t1 := hs (w.heap.size + 1) (by first | assumption | omega)); (try have t2 := hs (w.heap.size + 1 + 1) (by first | assumption | omega)); (try have t3 := hs (w.heap.size) (by first | assumption | omega)); (try have t4 := hs (w.heap.size) (by first | assumption | omega)); (try have t5 := hs (w.heap.size) (by first | assumption | omega))) | (go_at_call 40; (with_reducible refine Calls.mono (HS.out _ (by (repeat (first | with_reducible exact Ext.rfl' _ | with_reducible assumption | with_reducible refine Ext.al ?_ _ | with_reducible refine Ext.dr ?_ | with_reducible refine Ext.st ?_ (by simp) _ | with_reducible refine Ext.tr ?_ (by assumption))))) ?_); rintro e w2 ⟨⟨L, A2, c2, rfl, hN2, hIS⟩, hb⟩; have hc := hb.ccell; have hf := hb.frz; have hs := hb.sz; (try simp at hs); (try have t0 := hs (w.heap.size) (by first | assumption | omega)); (try have t1 := hs (w.heap.size + 1) (by first | assumption | omega)); (try have t2 := hs (w.heap.size + 1 + 1) (by first | assumption | omega)); (try have t3 := hs (w.heap.size) (by first | assumption | omega)); (try have t4 := hs (w.heap.size) (by first | assumption | omega)); (try have t5 := hs (w.heap.size) (by first | assumption | omega))))
  refine wp_name (fun W hW => ?_)
  have hE2 : Ext w2 W := by rw [hW]; (repeat (first | with_reducible exact Ext.rfl' _ | with_reducible assumption | with_reducible refine Ext.al ?_ _ | with_reducible refine Ext.dr ?_ | with_reducible refine Ext.st ?_ (by simp) _ | with_reducible refine Ext.tr ?_ (by assumption)))
  have hEW : Ext w W := by rw [hW]; (repeat (first | with_reducible exact Ext.rfl' _ | with_reducible assumption | with_reducible refine Ext.al ?_ _ | with_reducible refine Ext.dr ?_ | with_reducible refine Ext.st ?_ (by simp) _ | with_reducible refine Ext.tr ?_ (by assumption)))
  have km : CellsAt W (w.heap.size + 1) 0 [.int .i64 g.X, .int .i64 g.Y, .int .i64 g.S, .int .i64 g.C, .int .i64 g.R, .slice A g.L.length c] := by rw [hW]; refine cells_six ⟨?_, ?_, ?_, ?_, ?_, ?_⟩ <;> simp [*, go_sem]
  have kz : CellsAt W (w.heap.size + 1 + 1) 0 [.int .i64 0, .int .i64 0, .int .i64 0, .int .i64 0, .int .i64 0, .slice none 0 0] := by rw [hW]; refine cells_six ⟨?_, ?_, ?_, ?_, ?_, ?_⟩ <;> simp [*, go_sem]
  have ka : CellsAt W w2.heap.size 0 [.int .i64 g.X, .int .i64 g.Y, .int .i64 g.S, .int .i64 g.C, .int .i64 g.R, .slice A2 L.length c2] := by rw [hW]; refine cells_six ⟨?_, ?_, ?_, ?_, ?_, ?_⟩ <;> simp [*, go_sem]
  have fz : ∀ o, W.frozen? ⟨w.heap.size + 1 + 1, o, none⟩ = false := by intro o; rw [hW]; simp [*, go_sem]
  have z1 : w.heap.size + 1 < W.heap.size := by rw [hW]; simp; omega
  have z2 : w.heap.size + 1 + 1 < W.heap.size := by rw [hW]; simp; omega
  have z3 : w2.heap.size < W.heap.size := by rw [hW]; simp
  have hNW := Lib.hid (hN2.ext hE2)
  have hzw : w.heap.size + 1 + 1 < wk.heap.size := by assumption
  have HIS := Lib.hid hIS
  clear hW hb hc hf hs t0 t1 t2 t3 t4 t5 hE2 hN2 hIS
  have HFX := Lib.hid (fun w' (hw : Ext W w') => HF.out L A2 c2 w' (hEW.tr hw) HIS.out (hNW.out.row.ext hw))
  obtain ⟨m0, m1, m2, m3, m4, m5⟩ := km.six
  obtain ⟨a0, a1, a2, a3, a4, a5⟩ := ka.six
  obtain ⟨q0, q1, q2, q3, q4, q5⟩ := kz.six
  obtain ⟨fv, hfv⟩ : ∃ fv, dfN g.L L g.L.length * (g.S * g.S) = fv := ⟨_, rfl⟩
  rw [hfv] at HFX
  have HFV := Lib.hid hfv
  clear hfv
  refine region_grow_tail 4 (by kernel_rfl) (by kernel_rfl) ?_
  simp only [List.take_succ_cons, List.take_zero, List.drop_succ_cons, List.drop_zero]
  repeat (first | go_big_quiet_step (first | (go_at_call 41; with_reducible exact callsGrow (HFX.out _ (Grow.ok _))) | fail) | quiet_step (first | (go_at_call 41; with_reducible exact callsGrow (HFX.out _ (Grow.ok _))) | fail))
  refine wpQuiet_nil ?_
  intro w1 hb
  have hc := hb.ccell
  have hf := hb.frz
  have hs := hb.sz
  (try simp at hs); (try have hs0 := hs w.heap.size (by omega)); (try have hs1 := hs (w.heap.size + 1) (by omega)); (try have hs2 := hs (w.heap.size + 1 + 1) (by omega)); (try have hs3 := hs (w.heap.size + 1 + 1 + 1) (by omega))
  have hE1 : Ext W w1 := by assumption
  have kz1 := Lib.hid (kz.ext hE1 z2)
  have hEw1 := hEW.tr hE1
  have hN1 := Lib.hid (hNW.out.ext hE1)
  clear km ka kz
  go_wp2
  have hSL := stL_at (w.heap.size + 1 + 1) [.int .i64 g.X, .int .i64 g.Y, .int .i64 g.S, .int .i64 g.C, .int .i64 g.R, .slice A2 L.length c2] _ 0 w1 kz1.out rfl
  have hXL := stL_ext (w.heap.size + 1 + 1) (by omega) [.int .i64 g.X, .int .i64 g.Y, .int .i64 g.S, .int .i64 g.C, .int .i64 g.R, .slice A2 L.length c2] 0 w1 hEw1
  have hNL := hN1.out.stL hzw 0 [.int .i64 g.X, .int .i64 g.Y, .int .i64 g.S, .int .i64 g.C, .int .i64 g.R, .slice A2 L.length c2]
  show bodyPost _ _ _ _ _ (stL w1 (w.heap.size + 1 + 1) 0 [.int .i64 g.X, .int .i64 g.Y, .int .i64 g.S, .int .i64 g.C, .int .i64 g.R, .slice A2 L.length c2])
  generalize stL w1 (w.heap.size + 1 + 1) 0 [.int .i64 g.X, .int .i64 g.Y, .int .i64 g.S, .int .i64 g.C, .int .i64 g.R, .slice A2 L.length c2] = WL at hSL hXL hNL ⊢
  obtain ⟨s0, s1, s2, s3, s4, s5⟩ := hSL.six
  refine bodyPost_ret (v := .tuple #[.agg #[.int .i64 g.X, .int .i64 g.Y, .int .i64 g.S, .int .i64 g.C, .int .i64 g.R, .slice A2 L.length c2], .int .i64 fv, .int .i64 0]) (by simp [results, Tryz.results19, go_sem, s0, s1, s2, s3, s4, s5]) rfl ⟨⟨L, A2, c2, by rw [HFV.out], hNL.mono (by omega), HIS.out⟩, hXL⟩
end Go.Proofs.YtgbkjioajmnjbaaGreat

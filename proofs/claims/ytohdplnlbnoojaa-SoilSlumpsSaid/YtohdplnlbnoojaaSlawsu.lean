/- SoilSlumps: the law returns true for every input. Conditions: none. -/
import Derived.Test.YtohdplnlbnoojaaSst6
import Derived.Test.YtohdplnlbnoojaaSrefg
namespace Go.Proofs.Ytohdplnlbnoojaa
open Go Go.RowKit Go.IntWalk

theorem first_cb2 (soils : List So) (bos : List Bo) (g : Gr) : firstE (gi [chkGr soils bos, chkG g]) 2 = cbE soils bos g := by
  unfold cbE
  have h0 : gi [chkGr soils bos, chkG g] 0 = chkGr soils bos := rfl
  have h1 : gi [chkGr soils bos, chkG g] 1 = chkG g := rfl
  by_cases h2 : chkGr soils bos = 0
  · rw [if_neg (by omega)]
    have hs := firstE_step (gi [chkGr soils bos, chkG g]) (k := 0) rfl (h0.trans h2)
    by_cases h3 : chkG g = 0
    · rw [h3] at h1 ⊢; exact firstE_step _ hs (by rw [← h3] at h1; rw [h3] at h1; exact h1)
    · rw [← h1] at h3 ⊢; exact firstE_at _ hs h3 (by omega)
  · rw [if_pos h2, ← h0]
    exact firstE_at _ rfl (by rw [h0]; exact h2) (by omega)
theorem keepZ2 {W w' : World} {b c : Nat} (h : Ext W w') (hb : b < W.heap.size) (hc : c < W.heap.size) : (∀ j : Nat, w'.cell? ⟨b, j, none⟩ = W.cell? ⟨b, j, none⟩) ∧ (∀ j : Nat, w'.cell? ⟨c, j, none⟩ = W.cell? ⟨c, j, none⟩) ∧ Ext W w' := ⟨fun _ => h.ccell _ _ hb, fun _ => h.ccell _ _ hc, h⟩
/-- What Slump returns, for the law. -/
def OutSv (soils : List So) (bos : List Bo) (g : Gr) (cn : Nat) (e : Ending) (w' : World) : Prop :=
  ∃ L A c, e = .returned (.tuple #[.agg #[.int .i64 g.X, .int .i64 g.Y, .int .i64 g.S, .int .i64 g.C, .int .i64 g.R, .slice A g.L.length c], .int .i64 (dfN g.L L g.L.length * (g.S * g.S)), .int .i64 0]) ∧ Row 1 encZ w' A L ∧ IsSl (psG g cn) (alG soils bos g cn) g.L L
theorem gslump_v (soils : List So) (bos : List Bo) (g : Gr) (cn rn : Nat) (w : World) (AS AB A : Option Addr) (cS cB c : Nat) (gw : GrW w soils AS bos AB) (h0 : cbE soils bos g = 0) (hC : g.C = cn) (hR : g.R = rn) (hA : Row 1 encZ w A g.L) :
    Calls Try.prog 43 #[.agg #[.slice AS soils.length cS, .slice AB bos.length cB], .agg #[.int .i64 g.X, .int .i64 g.Y, .int .i64 g.S, .int .i64 g.C, .int .i64 g.R, .slice A g.L.length c]] w fun e w' => OutSv soils bos g cn e w' ∧ Ext w w' := by
  refine (gslump_ok_c soils bos g cn rn w AS AB A cS cB c gw h0 hC hR hA).mono ?_
  rintro e w' ⟨⟨L, A', c', he, hN, hS⟩, hE⟩
  have hl : L.length = g.L.length := hS.1.len
  exact ⟨⟨L, A', c', by rw [he, hl], hN.row, hS⟩, hE⟩
theorem rslump_v (soils : List So) (bos : List Bo) (g : Gr) (cn : Nat) (L : List Int) (hS : IsSl (psG g cn) (alG soils bos g cn) g.L L) (w : World) (AS AB A : Option Addr) (cS cB c : Nat) (gw : GrW w soils AS bos AB) (h0 : cbE soils bos g = 0) (hC : g.C = cn) (hA : Row 1 encZ w A g.L) :
    Calls Try.prog 46 #[.agg #[.slice AS soils.length cS, .slice AB bos.length cB], .agg #[.int .i64 g.X, .int .i64 g.Y, .int .i64 g.S, .int .i64 g.C, .int .i64 g.R, .slice A g.L.length c]] w fun e w' => OutGL w.heap.size g L e w' ∧ Ext w w' := by
  refine (rslump_c soils bos g cn w AS AB A cS cB c gw h0 hC hA).mono ?_
  rintro e w' ⟨⟨L', A', c', he, hN, hS'⟩, hE⟩
  have := hS'.one hS
  subst this
  exact ⟨⟨A', c', he, hN⟩, hE⟩
theorem rheap_v (soils : List So) (bos : List Bo) (g : Gr) (cn : Nat) (K : List Int) (hS : IsSl (psG g cn) (alG soils bos g cn) (ngL g.L) K) (w : World) (AS AB A : Option Addr) (cS cB c : Nat) (gw : GrW w soils AS bos AB) (h0 : cbE soils bos g = 0) (hC : g.C = cn) (hA : Row 1 encZ w A g.L) :
    Calls Try.prog 47 #[.agg #[.slice AS soils.length cS, .slice AB bos.length cB], .agg #[.int .i64 g.X, .int .i64 g.Y, .int .i64 g.S, .int .i64 g.C, .int .i64 g.R, .slice A g.L.length c]] w fun e w' => OutGL w.heap.size g (ngL K) e w' ∧ Ext w w' := by
  refine (rheap_c soils bos g cn w AS AB A cS cB c gw h0 hC hA).mono ?_
  rintro e w' ⟨⟨L', A', c', he, hN, hk, hS'⟩, hE⟩
  have h1 := hS'.one hS
  have h2 : L' = ngL K := by rw [← h1, ngL_ngL hk]
  subst h2
  exact ⟨⟨A', c', he, hN⟩, hE⟩
theorem sameGrid_w (g : Gr) (L : List Int) (w : World) (A B : Option Addr) (c d : Nat) (hl : g.L.length ≤ maxLen) (hn : L.length = g.L.length) (hA : Row 1 encZ w A L) (hB : Row 1 encZ w B L) :
    Calls Try.prog 48 #[.agg #[.int .i64 g.X, .int .i64 g.Y, .int .i64 g.S, .int .i64 g.C, .int .i64 g.R, .slice A g.L.length c], .agg #[.int .i64 g.X, .int .i64 g.Y, .int .i64 g.S, .int .i64 g.C, .int .i64 g.R, .slice B g.L.length d]] w fun e w' => e = .returned (.bool true) ∧ Ext w w' := sameGrid_self g L w A B c d hl hn hA hB

set_option maxHeartbeats 64000000 in
set_option maxRecDepth 100000 in
theorem su_err (soils : List So) (bos : List Bo) (g : Gr) (w : World) (AS AB : Option Addr) (cS cB : Nat) (gg : GrAny w soils AS bos AB) (hB : slB soils bos = true) (gw : GrW w soils AS bos AB) (A : Option Addr) (c : Nat) (hl : g.L.length ≤ maxLen) (h30 : g.L.length ≤ 30) (hA : Row 1 encZ w A g.L) (h0 : cbE soils bos g ≠ 0) :
    Calls Try.prog 8 #[.agg #[.slice AS soils.length cS, .slice AB bos.length cB], .agg #[.int .i64 g.X, .int .i64 g.Y, .int .i64 g.S, .int .i64 g.C, .int .i64 g.R, .slice A g.L.length c]] w fun e w' => e = .returned (.bool true) ∧ Ext w w' := by
  have HL := Lib.hid (fun w' (hw : Ext w w') => slight_c soils bos w' AS AB cS cB (gg.ext hw))
  have HSM := Lib.hid (fun w' => small6_c g w' A c hl)
  rw [hB] at HL
  rw [decide_eq_true h30] at HSM
  clear hB gg
  have HQ := Lib.hid (fun w' (hw : Ext w w') => rcheckGround_c soils bos w' AS AB cS cB (gw.ext hw))
  have HRC := Lib.hid (fun w' (hw : Ext w w') => rcheck_c g w' A c hl (hA.ext hw))
  have HF := Lib.hid (fun w' A2 c2 hr => by have h := first6_c [chkGr soils bos, chkG g] w' A2 c2 (by simp) hr; rw [show [chkGr soils bos, chkG g].length = 2 from rfl, first_cb2] at h; exact h)
  have HSL := Lib.hid (fun w' (hw : Ext w w') => gslump_err soils bos g w' AS AB A cS cB c (gw.ext hw) hl (hA.ext hw) h0)
  have HSH := Lib.hid (fun w' (hw : Ext w w') => gheap_err soils bos g w' AS AB A cS cB c (gw.ext hw) hl (hA.ext hw) h0)
  have h0' : (cbE soils bos g != 0) = true := by simp [h0]
  generalize chkGr soils bos = E1 at *
  generalize chkG g = E2 at *
  clear hl hA gw h0 h30
  generalize cbE soils bos g = E at *
  go_enter Try.func8, Try.ntmps8
  go_upto_region 7 with (first | (go_at_call 14; with_reducible refine Calls.mono (awake_c _) ?_; rintro e wa ⟨rfl, hb⟩; have hc := hb.ccell; have hf := hb.frz; have hs := hb.sz; (try simp at hs); (try have t0 := hs (w.heap.size) (by first | assumption | omega)); (try have t1 := hs (w.heap.size + 1) (by first | assumption | omega)); (try have t2 := hs (w.heap.size) (by first | assumption | omega)); (try have t3 := hs (w.heap.size) (by first | assumption | omega)); (try have t4 := hs (w.heap.size) (by first | assumption | omega)); (try have t5 := hs (w.heap.size) (by first | assumption | omega))) | (go_at_call 15; with_reducible refine Calls.mono (HL.out _ (by (repeat (first | with_reducible exact Ext.rfl' _ | with_reducible assumption | with_reducible refine Ext.al ?_ _ | with_reducible refine Ext.dr ?_ | with_reducible refine Ext.st ?_ (by simp) _ | with_reducible refine Ext.tr ?_ (by assumption))))) ?_; rintro e ws ⟨rfl, hb⟩; have hc := hb.ccell; have hf := hb.frz; have hs := hb.sz; (try simp at hs); (try have t0 := hs (w.heap.size) (by first | assumption | omega)); (try have t1 := hs (w.heap.size + 1) (by first | assumption | omega)); (try have t2 := hs (w.heap.size) (by first | assumption | omega)); (try have t3 := hs (w.heap.size) (by first | assumption | omega)); (try have t4 := hs (w.heap.size) (by first | assumption | omega)); (try have t5 := hs (w.heap.size) (by first | assumption | omega))) | (go_at_call 30; with_reducible refine Calls.mono (HSM.out _) ?_; rintro e wm ⟨rfl, hb⟩; have hc := hb.ccell; have hf := hb.frz; have hs := hb.sz; (try simp at hs); (try have t0 := hs (w.heap.size) (by first | assumption | omega)); (try have t1 := hs (w.heap.size + 1) (by first | assumption | omega)); (try have t2 := hs (w.heap.size) (by first | assumption | omega)); (try have t3 := hs (w.heap.size) (by first | assumption | omega)); (try have t4 := hs (w.heap.size) (by first | assumption | omega)); (try have t5 := hs (w.heap.size) (by first | assumption | omega))) | (go_at_call 43; with_reducible refine Calls.mono (HSL.out _ (by (repeat (first | with_reducible exact Ext.rfl' _ | with_reducible assumption | with_reducible refine Ext.al ?_ _ | with_reducible refine Ext.dr ?_ | with_reducible refine Ext.st ?_ (by simp) _ | with_reducible refine Ext.tr ?_ (by assumption))))) ?_; rintro e w2 ⟨rfl, hb⟩; have hc := hb.ccell; have hf := hb.frz; have hs := hb.sz; (try simp at hs); (try have t0 := hs (w.heap.size) (by first | assumption | omega)); (try have t1 := hs (w.heap.size + 1) (by first | assumption | omega)); (try have t2 := hs (w.heap.size) (by first | assumption | omega)); (try have t3 := hs (w.heap.size) (by first | assumption | omega)); (try have t4 := hs (w.heap.size) (by first | assumption | omega)); (try have t5 := hs (w.heap.size) (by first | assumption | omega))) | (go_at_call 44; with_reducible refine Calls.mono (HSH.out _ (by (repeat (first | with_reducible exact Ext.rfl' _ | with_reducible assumption | with_reducible refine Ext.al ?_ _ | with_reducible refine Ext.dr ?_ | with_reducible refine Ext.st ?_ (by simp) _ | with_reducible refine Ext.tr ?_ (by assumption))))) ?_; rintro e w3 ⟨rfl, hb⟩; have hc := hb.ccell; have hf := hb.frz; have hs := hb.sz; (try simp at hs); (try have t0 := hs (w.heap.size) (by first | assumption | omega)); (try have t1 := hs (w.heap.size + 1) (by first | assumption | omega)); (try have t2 := hs (w2.heap.size) (by first | assumption | omega)); (try have t3 := hs (w.heap.size) (by first | assumption | omega)); (try have t4 := hs (w.heap.size) (by first | assumption | omega)); (try have t5 := hs (w.heap.size) (by first | assumption | omega))))
  refine wp_name (fun W hW => ?_)
  have hEW : Ext w W := by rw [hW]; (repeat (first | with_reducible exact Ext.rfl' _ | with_reducible assumption | with_reducible refine Ext.al ?_ _ | with_reducible refine Ext.dr ?_ | with_reducible refine Ext.st ?_ (by simp) _ | with_reducible refine Ext.tr ?_ (by assumption)))
  have r0 : W.cell? ⟨w.heap.size, 0, none⟩ = some (.slice AS soils.length cS) := by rw [hW]; simp [*, go_sem]
  have r1 : W.cell? ⟨w.heap.size, 1, none⟩ = some (.slice AB bos.length cB) := by rw [hW]; simp [*, go_sem]
  have kg : CellsAt W (w.heap.size + 1) 0 [.int .i64 g.X, .int .i64 g.Y, .int .i64 g.S, .int .i64 g.C, .int .i64 g.R, .slice A g.L.length c] := by rw [hW]; refine cells_six ⟨?_, ?_, ?_, ?_, ?_, ?_⟩ <;> simp [*, go_sem]
  have ks : CellsAt W w2.heap.size 0 [.int .i64 0, .int .i64 0, .int .i64 0, .int .i64 0, .int .i64 0, .slice none 0 0] := by rw [hW]; refine cells_six ⟨?_, ?_, ?_, ?_, ?_, ?_⟩ <;> simp [*, go_sem]
  have kh : CellsAt W w3.heap.size 0 [.int .i64 0, .int .i64 0, .int .i64 0, .int .i64 0, .int .i64 0, .slice none 0 0] := by rw [hW]; refine cells_six ⟨?_, ?_, ?_, ?_, ?_, ?_⟩ <;> simp [*, go_sem]
  have zs : w2.heap.size < W.heap.size := by rw [hW]; simp; omega
  have zh : w3.heap.size < W.heap.size := by rw [hW]; simp
  have hz1 : w.heap.size + 1 < W.heap.size := by rw [hW]; simp; omega
  have hz0 : w.heap.size < W.heap.size := by omega
  clear hW hb hc hf hs t0 t1 t2 t3 t4 t5 HSL HSH HL HSM
  generalize w2.heap.size = ns at *
  generalize w3.heap.size = nh at *
  generalize w.heap.size + 1 = nm at *
  go_cut [11] (fun x wx => x = .int .i64 E ∧ Ext W wx)
  case first =>
    obtain ⟨m0, m1, m2, m3, m4, m5⟩ := kg.six
    clear ks kh zs zh
    go_region_held3 (fun w' => (∀ j : Nat, w'.cell? ⟨w.heap.size, j, none⟩ = W.cell? ⟨w.heap.size, j, none⟩) ∧ (∀ j : Nat, w'.cell? ⟨nm, j, none⟩ = W.cell? ⟨nm, j, none⟩) ∧ Ext W w') ((refine keepZ2 ?_ hz0 hz1; (repeat (first | with_reducible exact Ext.rfl' _ | with_reducible assumption | with_reducible refine Ext.al ?_ _ | with_reducible refine Ext.dr ?_ | with_reducible refine Ext.st ?_ (by first | (simp; done) | ((try have h9 := Below.size hb2); (try have h8 := Below.size hb3); (try have h7 := Below.size hb4); (try simp at h9); (try simp at h8); (try simp at h7); (try simp); omega)) _ | with_reducible refine Ext.tr ?_ (by with_reducible assumption) | (with_reducible exact (by with_reducible assumption : _ ∧ _ ∧ Ext W _).2.2))))) (first | (go_at_call 19; (with_reducible refine Calls.mono (HQ.out _ (hEW.tr (by (repeat (first | with_reducible exact Ext.rfl' _ | with_reducible assumption | with_reducible refine Ext.al ?_ _ | with_reducible refine Ext.dr ?_ | with_reducible refine Ext.st ?_ (by simp) _ | with_reducible refine Ext.tr ?_ (by assumption)))))) ?_); rintro e w2 ⟨rfl, hb2⟩; have hc2 := hb2.ccell; have hf2 := hb2.frz; have hs2 := hb2.sz) | (go_at_call 33; (with_reducible refine Calls.mono (HRC.out _ (hEW.tr (by (repeat (first | with_reducible exact Ext.rfl' _ | with_reducible assumption | with_reducible refine Ext.al ?_ _ | with_reducible refine Ext.dr ?_ | with_reducible refine Ext.st ?_ (by simp) _ | with_reducible refine Ext.tr ?_ (by assumption)))))) ?_); rintro e w3 ⟨rfl, hb3⟩; have hc3 := hb3.ccell; have hf3 := hb3.frz; have hs3 := hb3.sz) | (go_at_call 32; (with_reducible refine Calls.mono (HF.out _ _ _ (Row.new' encZ_len _ _ _ _ _ (by simp) rfl)) ?_); rintro e w4 ⟨rfl, hb4⟩; have hc4 := hb4.ccell; have hf4 := hb4.frz; have hs4 := hb4.sz))
    all_goals
      rename_i hJ hK h1 h2 hH
      clear hH
      refine h2 _ _ (Met.intro (h1 _ _ ?_))
      (repeat apply Exists.intro)
      refine ⟨?_, rfl⟩
      exact ⟨rfl, by (repeat (first | with_reducible exact Ext.rfl' _ | with_reducible assumption | with_reducible refine Ext.al ?_ _ | with_reducible refine Ext.dr ?_ | with_reducible refine Ext.st ?_ (by simp) _ | with_reducible refine Ext.tr ?_ (by assumption)))⟩
  case rest =>
  obtain ⟨rfl, hx⟩ := hcut
  have hEc := hEW.tr hx
  obtain ⟨s0, s1, s2, s3, s4, s5⟩ := (ks.ext hx zs).six
  obtain ⟨p0, p1, p2, p3, p4, p5⟩ := (kh.ext hx zh).six
  have ys := hx.sz _ zs
  have yh := hx.sz _ zh
  clear kg ks kh zs zh hz0 hz1 r0 r1 hx hEW HQ HRC HF
  go_wp2_with (first | (go_at_call 45; with_reducible refine Calls.mono (nothing0_c _) ?_; rintro e w5 ⟨rfl, hb⟩; have hc := hb.ccell; have hf := hb.frz; have hs := hb.sz; (try simp at hs); (try have t0 := hs (ns) (by first | assumption | omega)); (try have t1 := hs (nh) (by first | assumption | omega)); (try have t2 := hs (w.heap.size) (by first | assumption | omega)); (try have t3 := hs (w.heap.size) (by first | assumption | omega)); (try have t4 := hs (w.heap.size) (by first | assumption | omega)); (try have t5 := hs (w.heap.size) (by first | assumption | omega))))
  go_ret
  exact ⟨rfl, hEc.tr (by (repeat (first | with_reducible exact Ext.rfl' _ | with_reducible assumption | with_reducible refine Ext.al ?_ _ | with_reducible refine Ext.dr ?_ | with_reducible refine Ext.st ?_ (by simp) _ | with_reducible refine Ext.tr ?_ (by assumption))))⟩
set_option maxHeartbeats 64000000 in
set_option maxRecDepth 100000 in
theorem su_ok (soils : List So) (bos : List Bo) (g : Gr) (w : World) (AS AB : Option Addr) (cS cB : Nat) (gg : GrAny w soils AS bos AB) (hB : slB soils bos = true) (gw : GrW w soils AS bos AB) (A : Option Addr) (c : Nat) (hl : g.L.length ≤ maxLen) (h30 : g.L.length ≤ 30) (hA : Row 1 encZ w A g.L) (h0 : cbE soils bos g = 0) :
    Calls Try.prog 8 #[.agg #[.slice AS soils.length cS, .slice AB bos.length cB], .agg #[.int .i64 g.X, .int .i64 g.Y, .int .i64 g.S, .int .i64 g.C, .int .i64 g.R, .slice A g.L.length c]] w fun e w' => e = .returned (.bool true) ∧ Ext w w' := by
  have HL := Lib.hid (fun w' (hw : Ext w w') => slight_c soils bos w' AS AB cS cB (gg.ext hw))
  have HSM := Lib.hid (fun w' => small6_c g w' A c hl)
  rw [hB] at HL
  rw [decide_eq_true h30] at HSM
  clear hB gg
  have HQ := Lib.hid (fun w' (hw : Ext w w') => rcheckGround_c soils bos w' AS AB cS cB (gw.ext hw))
  have HRC := Lib.hid (fun w' (hw : Ext w w') => rcheck_c g w' A c hl (hA.ext hw))
  obtain ⟨v, hg⟩ := cbE_ok h0
  have vg := chkG_ok hg
  have hgr := cbE_gr h0
  obtain ⟨cn, rn, e1, e2, e3, e4, e5, e6, e7, e8⟩ := vg.nat
  have hn : g.L.length ≤ 1024 := by omega
  have hv : LvOk g.L := vg.lev
  rw [hgr] at HQ
  rw [hg] at HRC
  have HF := Lib.hid (fun w' A2 c2 hr => by have h := first6_c [0, 0] w' A2 c2 (by simp) hr; rw [show [(0 : Int), 0].length = 2 from rfl, show firstE (gi [0, 0]) 2 = 0 from rfl] at h; exact h)
  have HSL := Lib.hid (fun w' (hw : Ext w w') => gslump_v soils bos g cn rn w' AS AB A cS cB c (gw.ext hw) h0 e1 e2 (hA.ext hw))
  have HSH := Lib.hid (fun w' (hw : Ext w w') => gheap_c soils bos g cn rn w' AS AB A cS cB c (gw.ext hw) h0 e1 e2 (hA.ext hw))
  have HRS := Lib.hid (fun L (hS : IsSl (psG g cn) (alG soils bos g cn) g.L L) w' (hw : Ext w w') => rslump_v soils bos g cn L hS w' AS AB A cS cB c (gw.ext hw) h0 e1 (hA.ext hw))
  have HRH := Lib.hid (fun K (hS : IsSl (psG g cn) (alG soils bos g cn) (ngL g.L) K) w' (hw : Ext w w') => rheap_v soils bos g cn K hS w' AS AB A cS cB c (gw.ext hw) h0 e1 (hA.ext hw))
  have HSG := Lib.hid (fun L (hS : IsSl (psG g cn) (alG soils bos g cn) g.L L) w' A2 A3 c2 c3 hr2 hr3 => sameGrid_self g L w' A2 A3 c2 c3 hl hS.1.len hr2 hr3)
  have HSK := Lib.hid (fun K (hS : IsSl (psG g cn) (alG soils bos g cn) (ngL g.L) K) w' A2 A3 c2 c3 hr2 hr3 => sameGrid_self g (ngL K) w' A2 A3 c2 c3 hl (by rw [ngL_len, hS.1.len, ngL_len]) hr2 hr3)
  have hbg : Bd g g.L := ⟨rfl, hv, rfl⟩
  have HFL := Lib.hid (fun L (hS : IsSl (psG g cn) (alG soils bos g cn) g.L L) w' A2 c2 (hw : Ext w w') hr => rfallen_c g g.L L w' A A2 c c2 vg.hs hn hbg (hS.1.bd vg) (hA.ext hw) hr)
  have HFK := Lib.hid (fun K (hS : IsSl (psG g cn) (alG soils bos g cn) (ngL g.L) K) w' A2 c2 (hw : Ext w w') hr => by
    have hlk : LvOk K := hS.1.lev (ngL_ok hv)
    have hbk : Bd g (ngL K) := ⟨by rw [ngL_len, hS.1.len, ngL_len], ngL_ok hlk, by rw [kn_ngL hlk, hS.1.kn (ngL_ok hv), kn_ngL hv]⟩
    exact rfallen_c g (ngL K) g.L w' A2 A c2 c vg.hs hn hbk hbg hr (hA.ext hw))
  clear vg e1 e2 e3 e4 e5 e6 e7 e8 hg hgr v h0 gw hA hl h30 hn hv hbg
  go_enter Try.func8, Try.ntmps8
  go_upto_region 7 with (first | (go_at_call 14; with_reducible refine Calls.mono (awake_c _) ?_; rintro e wa ⟨rfl, hb⟩; have hc := hb.ccell; have hf := hb.frz; have hs := hb.sz; (try simp at hs); (try have t0 := hs (w.heap.size) (by first | assumption | omega)); (try have t1 := hs (w.heap.size + 1) (by first | assumption | omega)); (try have t2 := hs (w.heap.size) (by first | assumption | omega)); (try have t3 := hs (w.heap.size) (by first | assumption | omega)); (try have t4 := hs (w.heap.size) (by first | assumption | omega)); (try have t5 := hs (w.heap.size) (by first | assumption | omega))) | (go_at_call 15; with_reducible refine Calls.mono (HL.out _ (by (repeat (first | with_reducible exact Ext.rfl' _ | with_reducible assumption | with_reducible refine Ext.al ?_ _ | with_reducible refine Ext.dr ?_ | with_reducible refine Ext.st ?_ (by simp) _ | with_reducible refine Ext.tr ?_ (by assumption))))) ?_; rintro e ws ⟨rfl, hb⟩; have hc := hb.ccell; have hf := hb.frz; have hs := hb.sz; (try simp at hs); (try have t0 := hs (w.heap.size) (by first | assumption | omega)); (try have t1 := hs (w.heap.size + 1) (by first | assumption | omega)); (try have t2 := hs (w.heap.size) (by first | assumption | omega)); (try have t3 := hs (w.heap.size) (by first | assumption | omega)); (try have t4 := hs (w.heap.size) (by first | assumption | omega)); (try have t5 := hs (w.heap.size) (by first | assumption | omega))) | (go_at_call 30; with_reducible refine Calls.mono (HSM.out _) ?_; rintro e wm ⟨rfl, hb⟩; have hc := hb.ccell; have hf := hb.frz; have hs := hb.sz; (try simp at hs); (try have t0 := hs (w.heap.size) (by first | assumption | omega)); (try have t1 := hs (w.heap.size + 1) (by first | assumption | omega)); (try have t2 := hs (w.heap.size) (by first | assumption | omega)); (try have t3 := hs (w.heap.size) (by first | assumption | omega)); (try have t4 := hs (w.heap.size) (by first | assumption | omega)); (try have t5 := hs (w.heap.size) (by first | assumption | omega))) | (go_at_call 43; (with_reducible refine Calls.mono (HSL.out _ (by (repeat (first | with_reducible exact Ext.rfl' _ | with_reducible assumption | with_reducible refine Ext.al ?_ _ | with_reducible refine Ext.dr ?_ | with_reducible refine Ext.st ?_ (by simp) _ | with_reducible refine Ext.tr ?_ (by assumption))))) ?_); rintro e w2 ⟨⟨L, A2, c2, rfl, hR2, hIL⟩, hb⟩; have hc := hb.ccell; have hf := hb.frz; have hs := hb.sz; (try simp at hs); (try have t0 := hs (w.heap.size) (by first | assumption | omega)); (try have t1 := hs (w.heap.size + 1) (by first | assumption | omega)); (try have t2 := hs (w.heap.size) (by first | assumption | omega)); (try have t3 := hs (w.heap.size) (by first | assumption | omega)); (try have t4 := hs (w.heap.size) (by first | assumption | omega)); (try have t5 := hs (w.heap.size) (by first | assumption | omega))) | (go_at_call 44; (with_reducible refine Calls.mono (HSH.out _ (by (repeat (first | with_reducible exact Ext.rfl' _ | with_reducible assumption | with_reducible refine Ext.al ?_ _ | with_reducible refine Ext.dr ?_ | with_reducible refine Ext.st ?_ (by simp) _ | with_reducible refine Ext.tr ?_ (by assumption))))) ?_); rintro e w3 ⟨⟨K, A3, c3, rfl, hR3, hIK⟩, hb⟩; have hc := hb.ccell; have hf := hb.frz; have hs := hb.sz; (try simp at hs); (try have t0 := hs (w.heap.size) (by first | assumption | omega)); (try have t1 := hs (w.heap.size + 1) (by first | assumption | omega)); (try have t2 := hs (w2.heap.size) (by first | assumption | omega)); (try have t3 := hs (w.heap.size) (by first | assumption | omega)); (try have t4 := hs (w.heap.size) (by first | assumption | omega)); (try have t5 := hs (w.heap.size) (by first | assumption | omega))))
  refine wp_name (fun W hW => ?_)
  have hEW : Ext w W := by rw [hW]; (repeat (first | with_reducible exact Ext.rfl' _ | with_reducible assumption | with_reducible refine Ext.al ?_ _ | with_reducible refine Ext.dr ?_ | with_reducible refine Ext.st ?_ (by simp) _ | with_reducible refine Ext.tr ?_ (by assumption)))
  have hRS := Lib.hid (show Row 1 encZ W A2 L from hR2.ext (by rw [hW]; (repeat (first | with_reducible exact Ext.rfl' _ | with_reducible assumption | with_reducible refine Ext.al ?_ _ | with_reducible refine Ext.dr ?_ | with_reducible refine Ext.st ?_ (by simp) _ | with_reducible refine Ext.tr ?_ (by assumption)))))
  have hRH := Lib.hid (show Row 1 encZ W A3 (ngL K) from hR3.ext (by rw [hW]; (repeat (first | with_reducible exact Ext.rfl' _ | with_reducible assumption | with_reducible refine Ext.al ?_ _ | with_reducible refine Ext.dr ?_ | with_reducible refine Ext.st ?_ (by simp) _ | with_reducible refine Ext.tr ?_ (by assumption)))))
  have r0 : W.cell? ⟨w.heap.size, 0, none⟩ = some (.slice AS soils.length cS) := by rw [hW]; simp [*, go_sem]
  have r1 : W.cell? ⟨w.heap.size, 1, none⟩ = some (.slice AB bos.length cB) := by rw [hW]; simp [*, go_sem]
  have kg : CellsAt W (w.heap.size + 1) 0 [.int .i64 g.X, .int .i64 g.Y, .int .i64 g.S, .int .i64 g.C, .int .i64 g.R, .slice A g.L.length c] := by rw [hW]; refine cells_six ⟨?_, ?_, ?_, ?_, ?_, ?_⟩ <;> simp [*, go_sem]
  have ks : CellsAt W w2.heap.size 0 [.int .i64 g.X, .int .i64 g.Y, .int .i64 g.S, .int .i64 g.C, .int .i64 g.R, .slice A2 g.L.length c2] := by rw [hW]; refine cells_six ⟨?_, ?_, ?_, ?_, ?_, ?_⟩ <;> simp [*, go_sem]
  have kh : CellsAt W w3.heap.size 0 [.int .i64 g.X, .int .i64 g.Y, .int .i64 g.S, .int .i64 g.C, .int .i64 g.R, .slice A3 g.L.length c3] := by rw [hW]; refine cells_six ⟨?_, ?_, ?_, ?_, ?_, ?_⟩ <;> simp [*, go_sem]
  have zs : w2.heap.size < W.heap.size := by rw [hW]; simp; omega
  have zh : w3.heap.size < W.heap.size := by rw [hW]; simp
  have hz1 : w.heap.size + 1 < W.heap.size := by rw [hW]; simp; omega
  have hz0 : w.heap.size < W.heap.size := by omega
  have IL := Lib.hid hIL
  have IK := Lib.hid hIK
  clear hW hb hc hf hs t0 t1 t2 t3 t4 t5 HSL HSH HL HSM hR2 hR3 hIL hIK
  generalize w2.heap.size = ns at *
  generalize w3.heap.size = nh at *
  have HFLx := Lib.hid (fun w' A2 c2 hw hr => HFL.out L IL.out w' A2 c2 hw hr)
  have HFKx := Lib.hid (fun w' A2 c2 hw hr => HFK.out K IK.out w' A2 c2 hw hr)
  have HRSx := Lib.hid (fun w' hw => HRS.out L IL.out w' hw)
  have HRHx := Lib.hid (fun w' hw => HRH.out K IK.out w' hw)
  have HSGx := Lib.hid (fun w' A2 A3 c2 c3 hr2 hr3 => HSG.out L IL.out w' A2 A3 c2 c3 hr2 hr3)
  have HSKx := Lib.hid (fun w' A2 A3 c2 c3 hr2 hr3 => HSK.out K IK.out w' A2 A3 c2 c3 hr2 hr3)
  clear HFL HFK HRS HRH HSG HSK
  generalize dfN g.L L g.L.length * (g.S * g.S) = v1 at *
  generalize dfN (ngL K) g.L g.L.length * (g.S * g.S) = v2 at *
  generalize w.heap.size + 1 = nm at *
  go_cut [11] (fun x wx => x = .int .i64 0 ∧ Ext W wx)
  case first =>
    obtain ⟨m0, m1, m2, m3, m4, m5⟩ := kg.six
    clear ks kh zs zh HFLx HFKx HRSx HRHx HSGx HSKx
    go_region_held3 (fun w' => (∀ j : Nat, w'.cell? ⟨w.heap.size, j, none⟩ = W.cell? ⟨w.heap.size, j, none⟩) ∧ (∀ j : Nat, w'.cell? ⟨nm, j, none⟩ = W.cell? ⟨nm, j, none⟩) ∧ Ext W w') ((refine keepZ2 ?_ hz0 hz1; (repeat (first | with_reducible exact Ext.rfl' _ | with_reducible assumption | with_reducible refine Ext.al ?_ _ | with_reducible refine Ext.dr ?_ | with_reducible refine Ext.st ?_ (by first | (simp; done) | ((try have h9 := Below.size hb2); (try have h8 := Below.size hb3); (try have h7 := Below.size hb4); (try simp at h9); (try simp at h8); (try simp at h7); (try simp); omega)) _ | with_reducible refine Ext.tr ?_ (by with_reducible assumption) | (with_reducible exact (by with_reducible assumption : _ ∧ _ ∧ Ext W _).2.2))))) (first | (go_at_call 19; (with_reducible refine Calls.mono (HQ.out _ (hEW.tr (by (repeat (first | with_reducible exact Ext.rfl' _ | with_reducible assumption | with_reducible refine Ext.al ?_ _ | with_reducible refine Ext.dr ?_ | with_reducible refine Ext.st ?_ (by simp) _ | with_reducible refine Ext.tr ?_ (by assumption)))))) ?_); rintro e w2 ⟨rfl, hb2⟩; have hc2 := hb2.ccell; have hf2 := hb2.frz; have hs2 := hb2.sz) | (go_at_call 33; (with_reducible refine Calls.mono (HRC.out _ (hEW.tr (by (repeat (first | with_reducible exact Ext.rfl' _ | with_reducible assumption | with_reducible refine Ext.al ?_ _ | with_reducible refine Ext.dr ?_ | with_reducible refine Ext.st ?_ (by simp) _ | with_reducible refine Ext.tr ?_ (by assumption)))))) ?_); rintro e w3 ⟨rfl, hb3⟩; have hc3 := hb3.ccell; have hf3 := hb3.frz; have hs3 := hb3.sz) | (go_at_call 32; (with_reducible refine Calls.mono (HF.out _ _ _ (Row.new' encZ_len _ _ _ _ _ (by simp) rfl)) ?_); rintro e w4 ⟨rfl, hb4⟩; have hc4 := hb4.ccell; have hf4 := hb4.frz; have hs4 := hb4.sz))
    all_goals
      rename_i hJ hK h1 h2 hH
      clear hH
      refine h2 _ _ (Met.intro (h1 _ _ ?_))
      (repeat apply Exists.intro)
      refine ⟨?_, rfl⟩
      exact ⟨rfl, by (repeat (first | with_reducible exact Ext.rfl' _ | with_reducible assumption | with_reducible refine Ext.al ?_ _ | with_reducible refine Ext.dr ?_ | with_reducible refine Ext.st ?_ (by simp) _ | with_reducible refine Ext.tr ?_ (by assumption)))⟩
  case rest =>
  obtain ⟨rfl, hx⟩ := hcut
  obtain ⟨wd, hwd⟩ : ∃ x, x = wc := ⟨_, rfl⟩
  subst hwd
  have hEd := hEW.tr hx
  have kgd := kg.ext hx hz1
  have ksd := ks.ext hx zs
  have khd := kh.ext hx zh
  have hRSd := Lib.hid (hRS.out.ext hx)
  have hRHd := Lib.hid (hRH.out.ext hx)
  have q0 := (hx.ccell _ 0 hz0).trans r0
  have q1 := (hx.ccell _ 1 hz0).trans r1
  have ys := hx.sz _ zs
  have yh := hx.sz _ zh
  have y1 := hx.sz _ hz1
  have y0 := hx.sz _ hz0
  clear kg ks kh zs zh hz0 hz1 r0 r1 hx hEW HQ HRC HF hRS hRH
  go_upto_region 10 with fail
  go_cut [12, 13] (fun s5 s6 wx => ∃ (b5 b6 : Nat) (A5 A6 : Option Addr) (c5 c6 : Nat), s5 = .pointer (some ⟨b5, 0, none⟩) ∧ s6 = .pointer (some ⟨b6, 0, none⟩) ∧ Ext wd wx ∧ b5 < wx.heap.size ∧ b6 < wx.heap.size ∧ CellsAt wx b5 0 [.int .i64 g.X, .int .i64 g.Y, .int .i64 g.S, .int .i64 g.C, .int .i64 g.R, .slice A5 g.L.length c5] ∧ CellsAt wx b6 0 [.int .i64 g.X, .int .i64 g.Y, .int .i64 g.S, .int .i64 g.C, .int .i64 g.R, .slice A6 g.L.length c6] ∧ Row 1 encZ wx A5 L ∧ Row 1 encZ wx A6 (ngL K))
  case first =>
    clear HFLx HFKx HSGx HSKx
    obtain ⟨m0, m1, m2, m3, m4, m5⟩ := kgd.six
    go_region_held3 (fun w' => (∀ j : Nat, w'.cell? ⟨w.heap.size, j, none⟩ = wd.cell? ⟨w.heap.size, j, none⟩) ∧ (∀ j : Nat, w'.cell? ⟨nm, j, none⟩ = wd.cell? ⟨nm, j, none⟩) ∧ Ext wd w') ((refine keepZ2 ?_ y0 y1; (repeat (first | with_reducible exact Ext.rfl' _ | with_reducible assumption | with_reducible refine Ext.al ?_ _ | with_reducible refine Ext.dr ?_ | with_reducible refine Ext.st ?_ (by first | (simp; done) | ((try have h9 := Below.size hb2); (try have h8 := Below.size hb3); (try have h7 := Below.size hb4); (try simp at h9); (try simp at h8); (try simp at h7); (try simp); omega)) _ | with_reducible refine Ext.tr ?_ (by with_reducible assumption) | (with_reducible exact (by with_reducible assumption : _ ∧ _ ∧ Ext wd _).2.2))))) (first | (go_at_call 46; (with_reducible refine Calls.mono (HRSx.out _ (hEd.tr (by (repeat (first | with_reducible exact Ext.rfl' _ | with_reducible assumption | with_reducible refine Ext.al ?_ _ | with_reducible refine Ext.dr ?_ | with_reducible refine Ext.st ?_ (by simp) _ | with_reducible refine Ext.tr ?_ (by assumption)))))) ?_); rintro e w2 ⟨⟨A5, c5, rfl, hN2⟩, hb2⟩; have hc2 := hb2.ccell; have hf2 := hb2.frz; have hs2 := hb2.sz; (try have t2 := hs2 wd.heap.size (by first | assumption | (simp; done) | (simp; omega))); (try have t2' := hs2 w3.heap.size (by first | assumption | (simp; done) | (simp; omega)))) | (go_at_call 47; (with_reducible refine Calls.mono (HRHx.out _ (hEd.tr (by (repeat (first | with_reducible exact Ext.rfl' _ | with_reducible assumption | with_reducible refine Ext.al ?_ _ | with_reducible refine Ext.dr ?_ | with_reducible refine Ext.st ?_ (by simp) _ | with_reducible refine Ext.tr ?_ (by assumption)))))) ?_); rintro e w3 ⟨⟨A6, c6, rfl, hN3⟩, hb3⟩; have hc3 := hb3.ccell; have hf3 := hb3.frz; have hs3 := hb3.sz; (try have t3 := hs3 wd.heap.size (by first | assumption | (simp; done) | (simp; omega))); (try have t3' := hs3 w2.heap.size (by first | assumption | (simp; done) | (simp; omega)))))
    all_goals
      rename_i hJ hK h1 h2 hH
      clear hH
      refine h2 _ _ (Met.intro (h1 _ _ ?_))
      (repeat apply Exists.intro)
      refine ⟨?_, rfl⟩
      refine ⟨_, _, A5, A6, c5, c6, rfl, rfl, ?_, ?_, ?_, ?_, ?_, ?_, ?_⟩
      · (repeat (first | with_reducible exact Ext.rfl' _ | with_reducible assumption | with_reducible refine Ext.al ?_ _ | with_reducible refine Ext.dr ?_ | with_reducible refine Ext.st ?_ (by first | (simp; done) | ((try have h9 := Below.size hb2); (try have h8 := Below.size hb3); (try have h7 := Below.size hb4); (try simp at h9); (try simp at h8); (try simp at h7); (try simp); omega)) _ | with_reducible refine Ext.tr ?_ (by with_reducible assumption) | (with_reducible exact (by with_reducible assumption : _ ∧ _ ∧ Ext wd _).2.2)))
      · first | (simp; done) | ((try have h9 := Below.size hb2); (try have h8 := Below.size hb3); (try have h7 := Below.size hb4); (try simp at h9); (try simp at h8); (try simp at h7); (try simp); omega)
      · first | (simp; done) | ((try have h9 := Below.size hb2); (try have h8 := Below.size hb3); (try have h7 := Below.size hb4); (try simp at h9); (try simp at h8); (try simp at h7); (try simp); omega)
      · (repeat (first | (with_reducible exact box_cells' _ _ _ _ (by first | rfl | (simp; done) | fail)) | (with_reducible refine st6_at ?_) | (with_reducible refine st6_far (by first | (simp; done) | ((try have h9 := Below.size hb2); (try have h8 := Below.size hb3); (try have h7 := Below.size hb4); (try simp at h9); (try simp at h8); (try simp at h7); (try simp); omega)) ?_) | (with_reducible refine CellsAt.al ?_ (by first | (simp; done) | ((try have h9 := Below.size hb2); (try have h8 := Below.size hb3); (try have h7 := Below.size hb4); (try simp at h9); (try simp at h8); (try simp at h7); (try simp); omega))) | (with_reducible refine CellsAt.ext ?_ hb3 (by first | (simp; done) | ((try have h9 := Below.size hb2); (try have h8 := Below.size hb3); (try have h7 := Below.size hb4); (try simp at h9); (try simp at h8); (try simp at h7); (try simp); omega))) | (with_reducible refine CellsAt.ext ?_ hb2 (by first | (simp; done) | ((try have h9 := Below.size hb2); (try have h8 := Below.size hb3); (try have h7 := Below.size hb4); (try simp at h9); (try simp at h8); (try simp at h7); (try simp); omega))) | (with_reducible refine CellsAt.dr ?_ (by first | (simp; done) | ((try have h9 := Below.size hb2); (try have h8 := Below.size hb3); (try have h7 := Below.size hb4); (try simp at h9); (try simp at h8); (try simp at h7); (try simp); omega))))); done
      · (repeat (first | (with_reducible exact box_cells' _ _ _ _ (by first | rfl | (simp; done) | fail)) | (with_reducible refine st6_at ?_) | (with_reducible refine st6_far (by first | (simp; done) | ((try have h9 := Below.size hb2); (try have h8 := Below.size hb3); (try have h7 := Below.size hb4); (try simp at h9); (try simp at h8); (try simp at h7); (try simp); omega)) ?_) | (with_reducible refine CellsAt.al ?_ (by first | (simp; done) | ((try have h9 := Below.size hb2); (try have h8 := Below.size hb3); (try have h7 := Below.size hb4); (try simp at h9); (try simp at h8); (try simp at h7); (try simp); omega))) | (with_reducible refine CellsAt.ext ?_ hb3 (by first | (simp; done) | ((try have h9 := Below.size hb2); (try have h8 := Below.size hb3); (try have h7 := Below.size hb4); (try simp at h9); (try simp at h8); (try simp at h7); (try simp); omega))) | (with_reducible refine CellsAt.ext ?_ hb2 (by first | (simp; done) | ((try have h9 := Below.size hb2); (try have h8 := Below.size hb3); (try have h7 := Below.size hb4); (try simp at h9); (try simp at h8); (try simp at h7); (try simp); omega))) | (with_reducible refine CellsAt.dr ?_ (by first | (simp; done) | ((try have h9 := Below.size hb2); (try have h8 := Below.size hb3); (try have h7 := Below.size hb4); (try simp at h9); (try simp at h8); (try simp at h7); (try simp); omega))))); done
      · (refine NbZ.like (NbZ.of hN2) ?_); (repeat (first | (with_reducible exact NbZ.of hN2) | (with_reducible refine nb6 ?_ (by first | (left; first | (simp; done) | ((try have h9 := Below.size hb2); (try have h8 := Below.size hb3); (try have h7 := Below.size hb4); (try simp at h9); (try simp at h8); (try simp at h7); (try simp); omega)) | (right; first | (simp; done) | ((try have h9 := Below.size hb2); (try have h8 := Below.size hb3); (try have h7 := Below.size hb4); (try simp at h9); (try simp at h8); (try simp at h7); (try simp); omega)))) | (with_reducible refine NbZ.al ?_) | (with_reducible refine NbZ.ext ?_ hb3) | (with_reducible refine NbZ.ext ?_ hb2) | (with_reducible refine NbZ.dr ?_))); done
      · (refine NbZ.like (NbZ.of hN3) ?_); (repeat (first | (with_reducible exact NbZ.of hN3) | (with_reducible refine nb6 ?_ (by first | (left; first | (simp; done) | ((try have h9 := Below.size hb2); (try have h8 := Below.size hb3); (try have h7 := Below.size hb4); (try simp at h9); (try simp at h8); (try simp at h7); (try simp); omega)) | (right; first | (simp; done) | ((try have h9 := Below.size hb2); (try have h8 := Below.size hb3); (try have h7 := Below.size hb4); (try simp at h9); (try simp at h8); (try simp at h7); (try simp); omega)))) | (with_reducible refine NbZ.al ?_) | (with_reducible refine NbZ.ext ?_ hb3) | (with_reducible refine NbZ.ext ?_ hb2) | (with_reducible refine NbZ.dr ?_))); done
  case rest =>
  obtain ⟨b5, b6, A5, A6, c5, c6, rfl, rfl, hx, hz5, hz6, k5, k6, hR5, hR6⟩ := hcut
  have hEc := hEd.tr hx
  have hR5 := Lib.hid hR5
  have hR6 := Lib.hid hR6
  have hRSd := Lib.hid (hRSd.out.ext hx)
  have hRHd := Lib.hid (hRHd.out.ext hx)
  obtain ⟨m0, m1, m2, m3, m4, m5⟩ := (kgd.ext hx y1).six
  obtain ⟨s0, s1, s2, s3, s4, s5⟩ := (ksd.ext hx ys).six
  obtain ⟨p0, p1, p2, p3, p4, p5⟩ := (khd.ext hx yh).six
  obtain ⟨n0, n1, n2, n3, n4, n5⟩ := k5.six
  obtain ⟨o0, o1, o2, o3, o4, o5⟩ := k6.six
  have x1 := hx.sz _ y1
  have xs := hx.sz _ ys
  have xh := hx.sz _ yh
  clear kgd ksd khd q0 q1 ys yh y1 y0 hx hEd HRSx HRHx k5 k6
  go_wp2_with (first | (go_at_call 48; with_reducible refine Calls.mono (HSGx.out _ _ _ _ _ (hRSd.out.ext (by (repeat (first | with_reducible exact Ext.rfl' _ | with_reducible assumption | with_reducible refine Ext.al ?_ _ | with_reducible refine Ext.dr ?_ | with_reducible refine Ext.st ?_ (by simp) _ | with_reducible refine Ext.tr ?_ (by assumption))))) (hR5.out.ext (by (repeat (first | with_reducible exact Ext.rfl' _ | with_reducible assumption | with_reducible refine Ext.al ?_ _ | with_reducible refine Ext.dr ?_ | with_reducible refine Ext.st ?_ (by simp) _ | with_reducible refine Ext.tr ?_ (by assumption)))))) ?_; rintro e wa ⟨rfl, hb⟩; have hc := hb.ccell; have hf := hb.frz; have hs := hb.sz; (try simp at hs); (try have t0 := hs (nm) (by first | assumption | omega)); (try have t1 := hs (ns) (by first | assumption | omega)); (try have t2 := hs (nh) (by first | assumption | omega)); (try have t3 := hs (b5) (by first | assumption | omega)); (try have t4 := hs (b6) (by first | assumption | omega)); (try have t5 := hs (nm) (by first | assumption | omega))) | (go_at_call 48; with_reducible refine Calls.mono (HSKx.out _ _ _ _ _ (hRHd.out.ext (by (repeat (first | with_reducible exact Ext.rfl' _ | with_reducible assumption | with_reducible refine Ext.al ?_ _ | with_reducible refine Ext.dr ?_ | with_reducible refine Ext.st ?_ (by simp) _ | with_reducible refine Ext.tr ?_ (by assumption))))) (hR6.out.ext (by (repeat (first | with_reducible exact Ext.rfl' _ | with_reducible assumption | with_reducible refine Ext.al ?_ _ | with_reducible refine Ext.dr ?_ | with_reducible refine Ext.st ?_ (by simp) _ | with_reducible refine Ext.tr ?_ (by assumption)))))) ?_; rintro e wb ⟨rfl, hb⟩; have hc := hb.ccell; have hf := hb.frz; have hs := hb.sz; (try simp at hs); (try have t0 := hs (nm) (by first | assumption | omega)); (try have t1 := hs (ns) (by first | assumption | omega)); (try have t2 := hs (nh) (by first | assumption | omega)); (try have t3 := hs (b5) (by first | assumption | omega)); (try have t4 := hs (b6) (by first | assumption | omega)); (try have t5 := hs (nm) (by first | assumption | omega))) | (go_at_call 49; with_reducible refine Calls.mono (HFLx.out _ _ _ (hEc.tr (by (repeat (first | with_reducible exact Ext.rfl' _ | with_reducible assumption | with_reducible refine Ext.al ?_ _ | with_reducible refine Ext.dr ?_ | with_reducible refine Ext.st ?_ (by simp) _ | with_reducible refine Ext.tr ?_ (by assumption))))) (hR5.out.ext (by (repeat (first | with_reducible exact Ext.rfl' _ | with_reducible assumption | with_reducible refine Ext.al ?_ _ | with_reducible refine Ext.dr ?_ | with_reducible refine Ext.st ?_ (by simp) _ | with_reducible refine Ext.tr ?_ (by assumption)))))) ?_; rintro e we ⟨rfl, hb⟩; have hc := hb.ccell; have hf := hb.frz; have hs := hb.sz; (try simp at hs); (try have t0 := hs (nm) (by first | assumption | omega)); (try have t1 := hs (ns) (by first | assumption | omega)); (try have t2 := hs (nh) (by first | assumption | omega)); (try have t3 := hs (b5) (by first | assumption | omega)); (try have t4 := hs (b6) (by first | assumption | omega)); (try have t5 := hs (nm) (by first | assumption | omega))) | (go_at_call 49; with_reducible refine Calls.mono (HFKx.out _ _ _ (hEc.tr (by (repeat (first | with_reducible exact Ext.rfl' _ | with_reducible assumption | with_reducible refine Ext.al ?_ _ | with_reducible refine Ext.dr ?_ | with_reducible refine Ext.st ?_ (by simp) _ | with_reducible refine Ext.tr ?_ (by assumption))))) (hR6.out.ext (by (repeat (first | with_reducible exact Ext.rfl' _ | with_reducible assumption | with_reducible refine Ext.al ?_ _ | with_reducible refine Ext.dr ?_ | with_reducible refine Ext.st ?_ (by simp) _ | with_reducible refine Ext.tr ?_ (by assumption)))))) ?_; rintro e wf ⟨rfl, hb⟩; have hc := hb.ccell; have hf := hb.frz; have hs := hb.sz; (try simp at hs); (try have t0 := hs (nm) (by first | assumption | omega)); (try have t1 := hs (ns) (by first | assumption | omega)); (try have t2 := hs (nh) (by first | assumption | omega)); (try have t3 := hs (b5) (by first | assumption | omega)); (try have t4 := hs (b6) (by first | assumption | omega)); (try have t5 := hs (nm) (by first | assumption | omega))))
  go_ret
  exact ⟨ret_bool (by first | rfl | (simp; done)), hEc.tr (by (repeat (first | with_reducible exact Ext.rfl' _ | with_reducible assumption | with_reducible refine Ext.al ?_ _ | with_reducible refine Ext.dr ?_ | with_reducible refine Ext.st ?_ (by simp) _ | with_reducible refine Ext.tr ?_ (by assumption))))⟩
set_option maxHeartbeats 64000000 in
set_option maxRecDepth 100000 in
theorem su_walk (soils : List So) (bos : List Bo) (g : Gr) (w : World) (AS AB : Option Addr) (cS cB : Nat) (gg : GrAny w soils AS bos AB) (A : Option Addr) (c : Nat) (hl : g.L.length ≤ maxLen) (hA : Row 1 encZ w A g.L) :
    Calls Try.prog 8 #[.agg #[.slice AS soils.length cS, .slice AB bos.length cB], .agg #[.int .i64 g.X, .int .i64 g.Y, .int .i64 g.S, .int .i64 g.C, .int .i64 g.R, .slice A g.L.length c]] w fun e w' => e = .returned (.bool true) ∧ Ext w w' := by
  have HL := Lib.hid (fun w' (hw : Ext w w') => slight_c soils bos w' AS AB cS cB (gg.ext hw))
  have HSM := Lib.hid (fun w' => small6_c g w' A c hl)
  cases hB : slB soils bos
  · rw [hB] at HL
    clear hB gg hl hA HSM
    go_enter Try.func8, Try.ntmps8
    go_wp2_with (first | (go_at_call 14; with_reducible refine Calls.mono (awake_c _) ?_; rintro e wa ⟨rfl, hb⟩; have hc := hb.ccell; have hf := hb.frz; have hs := hb.sz; (try simp at hs); (try have t0 := hs (w.heap.size) (by first | assumption | omega)); (try have t1 := hs (w.heap.size + 1) (by first | assumption | omega)); (try have t2 := hs (w.heap.size) (by first | assumption | omega)); (try have t3 := hs (w.heap.size) (by first | assumption | omega)); (try have t4 := hs (w.heap.size) (by first | assumption | omega)); (try have t5 := hs (w.heap.size) (by first | assumption | omega))) | (go_at_call 15; with_reducible refine Calls.mono (HL.out _ (by (repeat (first | with_reducible exact Ext.rfl' _ | with_reducible assumption | with_reducible refine Ext.al ?_ _ | with_reducible refine Ext.dr ?_ | with_reducible refine Ext.st ?_ (by simp) _ | with_reducible refine Ext.tr ?_ (by assumption))))) ?_; rintro e ws ⟨rfl, hb⟩; have hc := hb.ccell; have hf := hb.frz; have hs := hb.sz; (try simp at hs); (try have t0 := hs (w.heap.size) (by first | assumption | omega)); (try have t1 := hs (w.heap.size + 1) (by first | assumption | omega)); (try have t2 := hs (w.heap.size) (by first | assumption | omega)); (try have t3 := hs (w.heap.size) (by first | assumption | omega)); (try have t4 := hs (w.heap.size) (by first | assumption | omega)); (try have t5 := hs (w.heap.size) (by first | assumption | omega))))
    go_ret
    exact ⟨rfl, by (repeat (first | with_reducible exact Ext.rfl' _ | with_reducible assumption | with_reducible refine Ext.al ?_ _ | with_reducible refine Ext.dr ?_ | with_reducible refine Ext.st ?_ (by simp) _ | with_reducible refine Ext.tr ?_ (by assumption)))⟩
  have gw := gg.small (slB_small hB)
  by_cases h30 : g.L.length ≤ 30
  case neg =>
    rw [hB] at HL
    rw [decide_eq_false h30] at HSM
    clear h30 gw hl hA hB gg
    go_enter Try.func8, Try.ntmps8
    go_wp2_with (first | (go_at_call 14; with_reducible refine Calls.mono (awake_c _) ?_; rintro e wa ⟨rfl, hb⟩; have hc := hb.ccell; have hf := hb.frz; have hs := hb.sz; (try simp at hs); (try have t0 := hs (w.heap.size) (by first | assumption | omega)); (try have t1 := hs (w.heap.size + 1) (by first | assumption | omega)); (try have t2 := hs (w.heap.size) (by first | assumption | omega)); (try have t3 := hs (w.heap.size) (by first | assumption | omega)); (try have t4 := hs (w.heap.size) (by first | assumption | omega)); (try have t5 := hs (w.heap.size) (by first | assumption | omega))) | (go_at_call 15; with_reducible refine Calls.mono (HL.out _ (by (repeat (first | with_reducible exact Ext.rfl' _ | with_reducible assumption | with_reducible refine Ext.al ?_ _ | with_reducible refine Ext.dr ?_ | with_reducible refine Ext.st ?_ (by simp) _ | with_reducible refine Ext.tr ?_ (by assumption))))) ?_; rintro e ws ⟨rfl, hb⟩; have hc := hb.ccell; have hf := hb.frz; have hs := hb.sz; (try simp at hs); (try have t0 := hs (w.heap.size) (by first | assumption | omega)); (try have t1 := hs (w.heap.size + 1) (by first | assumption | omega)); (try have t2 := hs (w.heap.size) (by first | assumption | omega)); (try have t3 := hs (w.heap.size) (by first | assumption | omega)); (try have t4 := hs (w.heap.size) (by first | assumption | omega)); (try have t5 := hs (w.heap.size) (by first | assumption | omega))) | (go_at_call 30; with_reducible refine Calls.mono (HSM.out _) ?_; rintro e wm ⟨rfl, hb⟩; have hc := hb.ccell; have hf := hb.frz; have hs := hb.sz; (try simp at hs); (try have t0 := hs (w.heap.size) (by first | assumption | omega)); (try have t1 := hs (w.heap.size + 1) (by first | assumption | omega)); (try have t2 := hs (w.heap.size) (by first | assumption | omega)); (try have t3 := hs (w.heap.size) (by first | assumption | omega)); (try have t4 := hs (w.heap.size) (by first | assumption | omega)); (try have t5 := hs (w.heap.size) (by first | assumption | omega))))
    go_ret
    exact ⟨rfl, by (repeat (first | with_reducible exact Ext.rfl' _ | with_reducible assumption | with_reducible refine Ext.al ?_ _ | with_reducible refine Ext.dr ?_ | with_reducible refine Ext.st ?_ (by simp) _ | with_reducible refine Ext.tr ?_ (by assumption)))⟩
  by_cases h0 : cbE soils bos g = 0
  · exact su_ok soils bos g w AS AB cS cB gg hB gw A c hl h30 hA h0
  · exact su_err soils bos g w AS AB cS cB gg hB gw A c hl h30 hA h0
end Go.Proofs.Ytohdplnlbnoojaa

/- The contract of Heap. -/
import Derived.Test.YtohdplnlbnoojaaSupd
namespace Go.Proofs.Ytohdplnlbnoojaa
open Go Go.RowKit Go.IntWalk

theorem box6 (w : World) (t : TypeId) (v0 v1 v2 v3 v4 v5 : Value) : CellsAt (w.alloc (.cells #[v0, v1, v2, v3, v4, v5] t)) w.heap.size 0 [v0, v1, v2, v3, v4, v5] := by
  refine cells_six ⟨?_, ?_, ?_, ?_, ?_, ?_⟩ <;> simp [go_sem]
theorem new6 {base base' : Nat} {w : World} {b : Nat} {v0 v1 v2 v3 v4 v5 : Value} {A : Option Addr} {c : Nat} {l : List Int} (h : NewZ base w A c l) (hb : b < base) (hm : base' ≤ base) :
    NewZ base' ((((((w.setCell ⟨b, 0, none⟩ v0).setCell ⟨b, 1, none⟩ v1).setCell ⟨b, 2, none⟩ v2).setCell ⟨b, 3, none⟩ v3).setCell ⟨b, 4, none⟩ v4).setCell ⟨b, 5, none⟩ v5) A c l :=
  NewZ.mono ((((((h.st hb _).st hb _).st hb _).st hb _).st hb _).st hb _) hm
theorem upside_w (g : Gr) (L : List Int) (w : World) (A : Option Addr) (c : Nat) (hpos : 0 < g.L.length) (hn : g.L.length ≤ 1024) (hl : L.length = g.L.length) (hv : LvOk L) (hA : Row 1 encZ w A L) :
    Calls Try.prog 89 #[.agg #[.int .i64 g.X, .int .i64 g.Y, .int .i64 g.S, .int .i64 g.C, .int .i64 g.R, .slice A g.L.length c]] w fun e w' => OutGL w.heap.size g (ngL L) e w' ∧ Ext w w' := by
  have h := upsideDown_c (withL g L) w A c (by show 0 < L.length; omega) (by show L.length ≤ 1024; omega) hv hA
  unfold OutGL at h ⊢
  rw [show (withL g L).L = L from rfl, hl] at h
  exact h
theorem turned_w (g : Gr) (L : List Int) (w : World) (A : Option Addr) (c : Nat) (hpos : 0 < g.L.length) (hn : g.L.length ≤ 1024) (hl : L.length = g.L.length) (hv : LvOk L) (hA : Row 1 encZ w A L) :
    Calls Try.prog 52 #[.agg #[.int .i64 g.X, .int .i64 g.Y, .int .i64 g.S, .int .i64 g.C, .int .i64 g.R, .slice A g.L.length c]] w fun e w' => OutGL w.heap.size g (ngL L) e w' ∧ Ext w w' := by
  have h := turned_c (withL g L) w A c (by show 0 < L.length; omega) (by show L.length ≤ 1024; omega) hv hA
  unfold OutGL at h ⊢
  rw [show (withL g L).L = L from rfl, hl] at h
  exact h
theorem fallen_w (g : Gr) (M N : List Int) (w : World) (A B : Option Addr) (c d : Nat) (hS : 100 ≤ g.S ∧ g.S ≤ 10000) (hl : g.L.length ≤ 1024) (hm : M.length = g.L.length) (hn : N.length = g.L.length) (hd : ∀ i, -50000 ≤ gi M i - gi N i ∧ gi M i - gi N i ≤ 50000) (hv : ∀ i, -60000 ≤ gi M i ∧ gi M i ≤ 60000) (hu : ∀ i, -60000 ≤ gi N i ∧ gi N i ≤ 60000) (hA : Row 1 encZ w A M) (hB : Row 1 encZ w B N) :
    Calls Try.prog 88 #[.agg #[.int .i64 g.X, .int .i64 g.Y, .int .i64 g.S, .int .i64 g.C, .int .i64 g.R, .slice A g.L.length c], .agg #[.int .i64 g.X, .int .i64 g.Y, .int .i64 g.S, .int .i64 g.C, .int .i64 g.R, .slice B g.L.length d]] w fun e w' => e = .returned (.int .i64 (dfN M N g.L.length * (g.S * g.S))) ∧ Ext w w' := by
  have h := fallen_c (withL g M) N w A B c d hS (by show M.length ≤ 1024; omega) (by show N.length = M.length; omega) hd hA hB hv hu
  rw [show (withL g M).L = M from rfl, hm, hn] at h
  exact h
theorem ngL_bed {soils : List So} {bos : List Bo} {g : Gr} (h0 : cbE soils bos g = 0) : cbE soils bos (withL g (ngL g.L)) = 0 :=
  cbE_mk (cbE_gr h0) (withL_ok (cbE_ok h0).2 (ngL_len _) (ngL_ok (chkG_ok (cbE_ok h0).2).lev))
theorem ngL_is {soils : List So} {bos : List Bo} {g : Gr} {cn : Nat} {K : List Int} (h0 : cbE soils bos g = 0) (h : IsSl (psG (withL g (ngL g.L)) cn) (alG soils bos (withL g (ngL g.L)) cn) (ngL g.L) K) : IsSl (psG g cn) (alG soils bos g cn) (ngL g.L) K := by
  have hv : LvOk g.L := (chkG_ok (cbE_ok h0).2).lev
  rw [psG_withL g cn (ngL_len _) (kn_ngL hv), alG_withL soils bos g cn (ngL_len _)] at h
  exact h
/-- The bed to which a turned bed slumps. -/
def OutNg (base : Nat) (soils : List So) (bos : List Bo) (g : Gr) (cn : Nat) (e : Ending) (w' : World) : Prop :=
  ∃ K A c, e = .returned (.agg #[.int .i64 g.X, .int .i64 g.Y, .int .i64 g.S, .int .i64 g.C, .int .i64 g.R, .slice A g.L.length c]) ∧ NewZ base w' A c K ∧ IsSl (psG g cn) (alG soils bos g cn) (ngL g.L) K
theorem slump_w (soils : List So) (bos : List Bo) (g : Gr) (cn rn : Nat) (w : World) (AS AB A : Option Addr) (cS cB c : Nat) (gw : GrW w soils AS bos AB) (h0 : cbE soils bos g = 0) (hC : g.C = cn) (hR : g.R = rn) (hA : Row 1 encZ w A (ngL g.L)) :
    Calls Try.prog 87 #[.agg #[.slice AS soils.length cS, .slice AB bos.length cB], .agg #[.int .i64 g.X, .int .i64 g.Y, .int .i64 g.S, .int .i64 g.C, .int .i64 g.R, .slice A g.L.length c]] w fun e w' => OutNg w.heap.size soils bos g cn e w' ∧ Ext w w' := by
  have hb := ngL_bed h0
  have h := slump_c soils bos (withL g (ngL g.L)) cn rn w AS AB A cS cB c gw (cbE_ok h0).1 (cbE_ok hb).2 hC hR hA
  rw [show (withL g (ngL g.L)).L = ngL g.L from rfl, ngL_len] at h
  refine h.mono ?_
  rintro e w' ⟨⟨K, A', c', he, hN, hS⟩, hE⟩
  have hS' := ngL_is h0 (by
    show IsSl (prsN cn (ngL g.L).length (knB (ngL g.L)) (ngL g.L).length) _ (ngL g.L) K
    rw [ngL_len]
    exact hS)
  refine ⟨⟨K, A', c', ?_, hN, hS'⟩, hE⟩
  rw [he, hS'.1.len, ngL_len]
  rfl
/-- What Heap returns of a bed without error. -/
def OutHp (soils : List So) (bos : List Bo) (g : Gr) (cn : Nat) (e : Ending) (w' : World) : Prop :=
  ∃ K A c, e = .returned (.tuple #[.agg #[.int .i64 g.X, .int .i64 g.Y, .int .i64 g.S, .int .i64 g.C, .int .i64 g.R, .slice A g.L.length c], .int .i64 (dfN (ngL K) g.L g.L.length * (g.S * g.S)), .int .i64 0]) ∧ Row 1 encZ w' A (ngL K) ∧ IsSl (psG g cn) (alG soils bos g cn) (ngL g.L) K
set_option maxHeartbeats 8000000 in
theorem gheap_err (soils : List So) (bos : List Bo) (g : Gr) (w : World) (AS AB A : Option Addr) (cS cB c : Nat) (gw : GrW w soils AS bos AB) (hl : g.L.length ≤ maxLen) (hA : Row 1 encZ w A g.L) (h0 : cbE soils bos g ≠ 0) :
    Calls Try.prog 44 #[.agg #[.slice AS soils.length cS, .slice AB bos.length cB], .agg #[.int .i64 g.X, .int .i64 g.Y, .int .i64 g.S, .int .i64 g.C, .int .i64 g.R, .slice A g.L.length c]] w fun e w' => e = .returned (.tuple #[.agg #[.int .i64 0, .int .i64 0, .int .i64 0, .int .i64 0, .int .i64 0, .slice none 0 0], .int .i64 0, .int .i64 (cbE soils bos g)]) ∧ Ext w w' := by
  have HC := Lib.hid (fun w' (hw : Ext w w') => checkBed_c soils bos g w' AS AB A cS cB c (gw.ext hw) hl (hA.ext hw))
  have h0' : (cbE soils bos g != 0) = true := by simp [h0]
  clear h0 gw hA
  generalize cbE soils bos g = E at *
  go_enter Try.func44, Try.ntmps44
  go_wp2_with (first | (go_at_call 77; with_reducible refine Calls.mono (HC.out _ (by (repeat (first | with_reducible exact Ext.rfl' _ | with_reducible assumption | with_reducible refine Ext.al ?_ _ | with_reducible refine Ext.dr ?_ | with_reducible refine Ext.st ?_ (by simp) _ | with_reducible refine Ext.tr ?_ (by assumption))))) ?_; rintro e wk ⟨rfl, hb⟩; have hc := hb.ccell; have hf := hb.frz; have hs := hb.sz; (try simp at hs); (try have t0 := hs (w.heap.size) (by first | assumption | omega)); (try have t1 := hs (w.heap.size + 1) (by first | assumption | omega)); (try have t2 := hs (w.heap.size + 1 + 1) (by first | assumption | omega)); (try have t3 := hs (w.heap.size) (by first | assumption | omega)); (try have t4 := hs (w.heap.size) (by first | assumption | omega)); (try have t5 := hs (w.heap.size) (by first | assumption | omega))))
  have hE2 : Ext w wk := by (repeat (first | with_reducible exact Ext.rfl' _ | with_reducible assumption | with_reducible refine Ext.al ?_ _ | with_reducible refine Ext.dr ?_ | with_reducible refine Ext.st ?_ (by simp) _ | with_reducible refine Ext.tr ?_ (by assumption)))
  have kz : CellsAt wk (w.heap.size + 1 + 1) 0 [.int .i64 0, .int .i64 0, .int .i64 0, .int .i64 0, .int .i64 0, .slice none 0 0] := by refine cells_six ⟨?_, ?_, ?_, ?_, ?_, ?_⟩ <;> simp [*, go_sem]
  have hSL := stL_at (w.heap.size + 1 + 1) [.int .i64 0, .int .i64 0, .int .i64 0, .int .i64 0, .int .i64 0, .slice none 0 0] _ 0 _ kz rfl
  have hXL := stL_ext (w.heap.size + 1 + 1) (by first | omega | (simp; done) | (simp; omega)) [.int .i64 0, .int .i64 0, .int .i64 0, .int .i64 0, .int .i64 0, .slice none 0 0] 0 _ hE2
  show bodyPost _ _ _ _ _ (stL (wk) (w.heap.size + 1 + 1) 0 [.int .i64 0, .int .i64 0, .int .i64 0, .int .i64 0, .int .i64 0, .slice none 0 0])
  generalize stL (wk) (w.heap.size + 1 + 1) 0 [.int .i64 0, .int .i64 0, .int .i64 0, .int .i64 0, .int .i64 0, .slice none 0 0] = WL at *
  obtain ⟨s0, s1, s2, s3, s4, s5⟩ := hSL.six
  refine bodyPost_ret (v := .tuple #[.agg #[.int .i64 0, .int .i64 0, .int .i64 0, .int .i64 0, .int .i64 0, .slice none 0 0], .int .i64 0, .int .i64 E]) (by simp [results, Try.results44, go_sem, s0, s1, s2, s3, s4, s5]) rfl ⟨rfl, hXL⟩
set_option maxHeartbeats 16000000 in
set_option maxRecDepth 100000 in
theorem gheap_c (soils : List So) (bos : List Bo) (g : Gr) (cn rn : Nat) (w : World) (AS AB A : Option Addr) (cS cB c : Nat) (gw : GrW w soils AS bos AB) (h0 : cbE soils bos g = 0) (hC : g.C = cn) (hR : g.R = rn) (hA : Row 1 encZ w A g.L) :
    Calls Try.prog 44 #[.agg #[.slice AS soils.length cS, .slice AB bos.length cB], .agg #[.int .i64 g.X, .int .i64 g.Y, .int .i64 g.S, .int .i64 g.C, .int .i64 g.R, .slice A g.L.length c]] w fun e w' => OutHp soils bos g cn e w' ∧ Ext w w' := by
  have vg := chkG_ok (cbE_ok h0).2
  obtain ⟨cn', rn', e1, e2, e3, e4, e5, e6, e7, e8⟩ := vg.nat
  have hn : g.L.length ≤ 1024 := by omega
  have hpos : 0 < g.L.length := by rw [e7]; exact Nat.mul_pos e3 e5
  have hv : LvOk g.L := vg.lev
  have HC := Lib.hid (fun w' (hw : Ext w w') => by
    have h := checkBed_c soils bos g w' AS AB A cS cB c (gw.ext hw) (by unfold maxLen; omega) (hA.ext hw)
    rw [h0] at h
    exact h)
  have HU1 := Lib.hid (fun w' (hw : Ext w w') => upsideDown_c g w' A c hpos hn hv (hA.ext hw))
  have HSP := Lib.hid (fun w' A2 c2 (hw : Ext w w') hr => slump_w soils bos g cn rn w' AS AB A2 cS cB c2 (gw.ext hw) h0 hC hR hr)
  have HU2 := Lib.hid (fun (K : List Int) (hs : IsSl (psG g cn) (alG soils bos g cn) (ngL g.L) K) w' A2 c2 hr => upside_w g K w' A2 c2 hpos hn (by rw [hs.1.len, ngL_len]) (hs.1.lev (ngL_ok hv)) hr)
  have HF := Lib.hid (fun (K : List Int) (hs : IsSl (psG g cn) (alG soils bos g cn) (ngL g.L) K) A2 c2 w' (hw : Ext w w') hr => by
    have hkl : K.length = g.L.length := by rw [hs.1.len, ngL_len]
    have hlk : LvOk K := hs.1.lev (ngL_ok hv)
    have hbnd : ∀ i, -50000 ≤ gi (ngL K) i - gi g.L i ∧ gi (ngL K) i - gi g.L i ≤ 50000 := by
      intro i
      rw [gi_ngL]
      have h1 := hv.all i
      have h2 := hlk.all i
      rcases h1 with h1 | h1
      · have h3 := hs.1.unk i (by rw [gi_ngL, h1]; rfl)
        rw [h3, h1]
        decide
      · have h3 : gi K i ≠ 30000 := by
          have h4 := hs.1.le i
          rw [gi_ngL, ngV_k (by omega)] at h4
          omega
        rw [ngV_k h3]
        omega
    exact fallen_w g (ngL K) g.L w' A2 A c2 c vg.hs hn (by rw [ngL_len, hkl]) rfl hbnd (fun i => by have := (ngL_ok hlk).all i; omega) (fun i => by have := hv.all i; omega) hr (hA.ext hw))
  clear hv vg e1 e2 e3 e4 e5 e6 e7 e8 h0 gw hA hC hR hpos hn
  go_enter Try.func44, Try.ntmps44
  go_upto_region 4 with (first | (go_at_call 77; with_reducible refine Calls.mono (HC.out _ (by (repeat (first | with_reducible exact Ext.rfl' _ | with_reducible assumption | with_reducible refine Ext.al ?_ _ | with_reducible refine Ext.dr ?_ | with_reducible refine Ext.st ?_ (by simp) _ | with_reducible refine Ext.tr ?_ (by assumption))))) ?_; rintro e wk ⟨rfl, hb⟩; have hc := hb.ccell; have hf := hb.frz; have hs := hb.sz; (try simp at hs); (try have t0 := hs (w.heap.size) (by first | assumption | omega)); (try have t1 := hs (w.heap.size + 1) (by first | assumption | omega)); (try have t2 := hs (w.heap.size + 1 + 1) (by first | assumption | omega)); (try have t3 := hs (w.heap.size) (by first | assumption | omega)); (try have t4 := hs (w.heap.size) (by first | assumption | omega)); (try have t5 := hs (w.heap.size) (by first | assumption | omega))))
  refine wp_name (fun W hW => ?_)
  have hEW : Ext w W := by rw [hW]; (repeat (first | with_reducible exact Ext.rfl' _ | with_reducible assumption | with_reducible refine Ext.al ?_ _ | with_reducible refine Ext.dr ?_ | with_reducible refine Ext.st ?_ (by simp) _ | with_reducible refine Ext.tr ?_ (by assumption)))
  have a0 : W.cell? ⟨w.heap.size, 0, none⟩ = some (.slice AS soils.length cS) := by rw [hW]; simp [*, go_sem]
  have a1 : W.cell? ⟨w.heap.size, 1, none⟩ = some (.slice AB bos.length cB) := by rw [hW]; simp [*, go_sem]
  have km : CellsAt W (w.heap.size + 1) 0 [.int .i64 g.X, .int .i64 g.Y, .int .i64 g.S, .int .i64 g.C, .int .i64 g.R, .slice A g.L.length c] := by rw [hW]; refine cells_six ⟨?_, ?_, ?_, ?_, ?_, ?_⟩ <;> simp [*, go_sem]
  have kz : CellsAt W (w.heap.size + 1 + 1) 0 [.int .i64 0, .int .i64 0, .int .i64 0, .int .i64 0, .int .i64 0, .slice none 0 0] := by rw [hW]; refine cells_six ⟨?_, ?_, ?_, ?_, ?_, ?_⟩ <;> simp [*, go_sem]
  have fz : ∀ o, W.frozen? ⟨w.heap.size + 1 + 1, o, none⟩ = false := by intro o; rw [hW]; simp [*, go_sem]
  have z2 : w.heap.size + 1 + 1 < W.heap.size := by rw [hW]; assumption
  have z1 : w.heap.size + 1 < W.heap.size := by omega
  have z0 : w.heap.size < W.heap.size := by omega
  clear hW hb hc hf hs t0 t1 t2 t3 t4 t5
  obtain ⟨m0, m1, m2, m3, m4, m5⟩ := km.six
  go_cut [8] (fun s wx => ∃ (nb c4 : Nat) (A4 : Option Addr) (K : List Int), s = .pointer (some ⟨nb, 0, none⟩) ∧ Ext W wx ∧ W.heap.size ≤ nb ∧ nb < wx.heap.size ∧ Hid (CellsAt wx nb 0 [.int .i64 g.X, .int .i64 g.Y, .int .i64 g.S, .int .i64 g.C, .int .i64 g.R, .slice A4 g.L.length c4]) ∧ Hid (NewZ W.heap.size wx A4 c4 (ngL K)) ∧ Hid (IsSl (psG g cn) (alG soils bos g cn) (ngL g.L) K))
  case first =>
    clear HF
    go_region_held3 (fun w' => (∀ j : Nat, w'.cell? ⟨w.heap.size, j, none⟩ = W.cell? ⟨w.heap.size, j, none⟩) ∧ (∀ j : Nat, w'.cell? ⟨w.heap.size + 1, j, none⟩ = W.cell? ⟨w.heap.size + 1, j, none⟩)) ((refine Kp.of ?_ z0 z1; (repeat (first | with_reducible exact Ext.rfl' _ | with_reducible assumption | with_reducible refine Ext.al ?_ _ | with_reducible refine Ext.dr ?_ | with_reducible refine Ext.st ?_ (by first | (simp; done) | ((try have s2 := Below.size hb2); (try have s3 := Below.size hb3); (try have s4 := Below.size hb4); (try simp at s2); (try simp at s3); (try simp at s4); (try simp); omega)) _ | with_reducible refine Ext.tr ?_ (by with_reducible assumption))))) (first | (go_at_call 89; (with_reducible refine Calls.mono (HU1.out _ (hEW.tr (by (repeat (first | with_reducible exact Ext.rfl' _ | with_reducible assumption | with_reducible refine Ext.al ?_ _ | with_reducible refine Ext.dr ?_ | with_reducible refine Ext.st ?_ (by simp) _ | with_reducible refine Ext.tr ?_ (by assumption)))))) ?_); rintro e w2 ⟨⟨A2, c2, rfl, hN2⟩, hb2⟩; have hc2 := hb2.ccell; have hf2 := hb2.frz; have hs2 := hb2.sz; (try have t2 := hs2 W.heap.size (by first | assumption | (simp; done) | (simp; omega))); (try have t2' := hs2 w3.heap.size (by first | assumption | (simp; done) | (simp; omega)))) | (go_at_call 87; (with_reducible refine Calls.mono (HSP.out _ _ _ (hEW.tr (by (repeat (first | with_reducible exact Ext.rfl' _ | with_reducible assumption | with_reducible refine Ext.al ?_ _ | with_reducible refine Ext.dr ?_ | with_reducible refine Ext.st ?_ (by first | (simp; done) | ((try have s2 := Below.size hb2); (try have s3 := Below.size hb3); (try have s4 := Below.size hb4); (try simp at s2); (try simp at s3); (try simp at s4); (try simp); omega)) _ | with_reducible refine Ext.tr ?_ (by with_reducible assumption))))) (hN2.row.ext (by (repeat (first | with_reducible exact Ext.rfl' _ | with_reducible assumption | with_reducible refine Ext.al ?_ _ | with_reducible refine Ext.dr ?_ | with_reducible refine Ext.st ?_ (by first | (simp; done) | ((try have s2 := Below.size hb2); (try have s3 := Below.size hb3); (try have s4 := Below.size hb4); (try simp at s2); (try simp at s3); (try simp at s4); (try simp); omega)) _ | with_reducible refine Ext.tr ?_ (by with_reducible assumption)))))) ?_); rintro e w3 ⟨⟨K, A3, c3, rfl, hN3, hIS⟩, hb3⟩; have hc3 := hb3.ccell; have hf3 := hb3.frz; have hs3 := hb3.sz; (try have t3 := hs3 W.heap.size (by first | assumption | (simp; done) | (simp; omega))); (try have t3' := hs3 w2.heap.size (by first | assumption | (simp; done) | (simp; omega)))) | (go_at_call 89; (with_reducible refine Calls.mono (HU2.out K hIS _ _ _ (hN3.row.ext (by (repeat (first | with_reducible exact Ext.rfl' _ | with_reducible assumption | with_reducible refine Ext.al ?_ _ | with_reducible refine Ext.dr ?_ | with_reducible refine Ext.st ?_ (by first | (simp; done) | ((try have s2 := Below.size hb2); (try have s3 := Below.size hb3); (try have s4 := Below.size hb4); (try simp at s2); (try simp at s3); (try simp at s4); (try simp); omega)) _ | with_reducible refine Ext.tr ?_ (by with_reducible assumption)))))) ?_); rintro e w4 ⟨⟨A4, c4, rfl, hN4⟩, hb4⟩; have hc4 := hb4.ccell; have hf4 := hb4.frz; have hs4 := hb4.sz; (try have t4 := hs4 W.heap.size (by first | assumption | (simp; done) | (simp; omega))); (try have t4' := hs4 w2.heap.size (by first | assumption | (simp; done) | (simp; omega))); (try have t4'' := hs4 w3.heap.size (by first | assumption | (simp; done) | (simp; omega)))))
    all_goals
      rename_i hJ hK h1 h2 hH
      clear hH
      refine h2 _ _ (Met.intro (h1 _ _ ?_))
      (repeat apply Exists.intro)
      refine ⟨?_, rfl⟩
      refine ⟨_, c4, A4, K, rfl, ?_, ?_, ?_, Lib.hid ?_, Lib.hid ?_, Lib.hid hIS⟩
      · (repeat (first | with_reducible exact Ext.rfl' _ | with_reducible assumption | with_reducible refine Ext.al ?_ _ | with_reducible refine Ext.dr ?_ | with_reducible refine Ext.st ?_ (by first | (simp; done) | ((try have s2 := Below.size hb2); (try have s3 := Below.size hb3); (try have s4 := Below.size hb4); (try simp at s2); (try simp at s3); (try simp at s4); (try simp); omega)) _ | with_reducible refine Ext.tr ?_ (by with_reducible assumption)))
      · first | (simp; done) | ((try have s2 := Below.size hb2); (try have s3 := Below.size hb3); (try have s4 := Below.size hb4); (try simp at s2); (try simp at s3); (try simp at s4); (try simp); omega)
      · first | (simp; done) | ((try have s2 := Below.size hb2); (try have s3 := Below.size hb3); (try have s4 := Below.size hb4); (try simp at s2); (try simp at s3); (try simp at s4); (try simp); omega)
      · first
          | with_reducible exact box6 _ _ _ _ _ _ _ _
          | (refine stL_at _ [.int .i64 g.X, .int .i64 g.Y, .int .i64 g.S, .int .i64 g.C, .int .i64 g.R, .slice A4 g.L.length c4] [.int .i64 0, .int .i64 0, .int .i64 0, .int .i64 0, .int .i64 0, .slice none 0 0] 0 w4 ?_ rfl; (repeat (first | with_reducible exact box6 _ _ _ _ _ _ _ _ | with_reducible refine CellsAt.ext ?_ hb4 (by first | (simp; done) | ((try have s2 := Below.size hb2); (try have s3 := Below.size hb3); (try have s4 := Below.size hb4); (try simp at s2); (try simp at s3); (try simp at s4); (try simp); omega)) | with_reducible refine CellsAt.ext ?_ hb3 (by first | (simp; done) | ((try have s2 := Below.size hb2); (try have s3 := Below.size hb3); (try have s4 := Below.size hb4); (try simp at s2); (try simp at s3); (try simp at s4); (try simp); omega)) | with_reducible refine CellsAt.ext ?_ hb2 (by first | (simp; done) | ((try have s2 := Below.size hb2); (try have s3 := Below.size hb3); (try have s4 := Below.size hb4); (try simp at s2); (try simp at s3); (try simp at s4); (try simp); omega)) | with_reducible refine CellsAt.ext ?_ (Ext.dr (Ext.rfl' _)) (by first | (simp; done) | ((try have s2 := Below.size hb2); (try have s3 := Below.size hb3); (try have s4 := Below.size hb4); (try simp at s2); (try simp at s3); (try simp at s4); (try simp); omega)))); done)
      · first
          | (with_reducible refine new6 hN4 ?_ ?_; (focus (first | (simp; done) | ((try have s2 := Below.size hb2); (try have s3 := Below.size hb3); (try have s4 := Below.size hb4); (try simp at s2); (try simp at s3); (try simp at s4); (try simp); omega))); (focus (first | (simp; done) | ((try have s2 := Below.size hb2); (try have s3 := Below.size hb3); (try have s4 := Below.size hb4); (try simp at s2); (try simp at s3); (try simp at s4); (try simp); omega))))
          | (with_reducible refine NewZ.mono (NewZ.ext hN4 ?_) ?_; (focus ((repeat (first | with_reducible exact Ext.rfl' _ | with_reducible assumption | with_reducible refine Ext.al ?_ _ | with_reducible refine Ext.dr ?_ | with_reducible refine Ext.st ?_ (by first | (simp; done) | ((try have s2 := Below.size hb2); (try have s3 := Below.size hb3); (try have s4 := Below.size hb4); (try simp at s2); (try simp at s3); (try simp at s4); (try simp); omega)) _ | with_reducible refine Ext.tr ?_ (by with_reducible assumption))); done)); (focus (first | (simp; done) | ((try have s2 := Below.size hb2); (try have s3 := Below.size hb3); (try have s4 := Below.size hb4); (try simp at s2); (try simp at s3); (try simp at s4); (try simp); omega))))
  case rest =>
    obtain ⟨nb, c4, A4, K, rfl, hx, hnW, hnb, hK6, hR4, hIS⟩ := hcut
    have hEc := hEW.tr hx
    have kzc := kz.ext hx z2
    have fzc : ∀ o, wc.frozen? ⟨w.heap.size + 1 + 1, o, none⟩ = false := fun o => (hx.frz _ o z2).trans (fz o)
    have z2c := hx.sz _ z2
    have z1c := hx.sz _ z1
    obtain ⟨m0, m1, m2, m3, m4, m5⟩ := (km.ext hx z1).six
    obtain ⟨n0, n1, n2, n3, n4, n5⟩ := hK6.out.six
    have HFX := Lib.hid (fun w' (hw : Ext wc w') => HF.out K hIS.out A4 c4 w' (hEc.tr hw) (hR4.out.row.ext hw))
    obtain ⟨fv, hfv⟩ : ∃ fv, dfN (ngL K) g.L g.L.length * (g.S * g.S) = fv := ⟨_, rfl⟩
    rw [hfv] at HFX
    have HFV := Lib.hid hfv
    clear hfv km kz fz z0 z1 a0 a1 hx hnW hEW HF HU1 HU2 HSP HC
    obtain ⟨q0, q1, q2, q3, q4, q5⟩ := kzc.six
    go_upto_region 5 with fail
    refine region_grow_tail 4 (by kernel_rfl) (by kernel_rfl) ?_
    simp only [List.take_succ_cons, List.take_zero, List.drop_succ_cons, List.drop_zero]
    repeat (first | go_big_quiet_step (first | (go_at_call 88; with_reducible exact callsGrow (HFX.out _ (Grow.ok _))) | fail) | quiet_step (first | (go_at_call 88; with_reducible exact callsGrow (HFX.out _ (Grow.ok _))) | fail))
    refine wpQuiet_nil ?_
    intro w1 hb
    have hc := hb.ccell
    have hf := hb.frz
    have hs := hb.sz
    (try simp at hs); (try have hs0 := hs w.heap.size (by omega)); (try have hs1 := hs (w.heap.size + 1) (by omega)); (try have hs2 := hs (w.heap.size + 1 + 1) (by omega)); (try have hs3 := hs (w.heap.size + 1 + 1 + 1) (by omega))
    have hE1 : Ext wc w1 := by assumption
    have kz1 := Lib.hid (kzc.ext hE1 z2c)
    have hEw1 := hEc.tr hE1
    have hR1 := Lib.hid (hR4.out.ext hE1)
    clear kzc
    go_wp2
    have hSL := stL_at (w.heap.size + 1 + 1) [.int .i64 g.X, .int .i64 g.Y, .int .i64 g.S, .int .i64 g.C, .int .i64 g.R, .slice A4 g.L.length c4] _ 0 w1 kz1.out rfl
    have hXL := stL_ext (w.heap.size + 1 + 1) (by omega) [.int .i64 g.X, .int .i64 g.Y, .int .i64 g.S, .int .i64 g.C, .int .i64 g.R, .slice A4 g.L.length c4] 0 w1 hEw1
    have hNL := hR1.out.stL z2 0 [.int .i64 g.X, .int .i64 g.Y, .int .i64 g.S, .int .i64 g.C, .int .i64 g.R, .slice A4 g.L.length c4]
    show bodyPost _ _ _ _ _ (stL w1 (w.heap.size + 1 + 1) 0 [.int .i64 g.X, .int .i64 g.Y, .int .i64 g.S, .int .i64 g.C, .int .i64 g.R, .slice A4 g.L.length c4])
    generalize stL w1 (w.heap.size + 1 + 1) 0 [.int .i64 g.X, .int .i64 g.Y, .int .i64 g.S, .int .i64 g.C, .int .i64 g.R, .slice A4 g.L.length c4] = WL at hSL hXL hNL ⊢
    obtain ⟨s0, s1, s2, s3, s4, s5⟩ := hSL.six
    refine bodyPost_ret (v := .tuple #[.agg #[.int .i64 g.X, .int .i64 g.Y, .int .i64 g.S, .int .i64 g.C, .int .i64 g.R, .slice A4 g.L.length c4], .int .i64 fv, .int .i64 0]) (by simp [results, Try.results44, go_sem, s0, s1, s2, s3, s4, s5]) rfl ⟨⟨K, A4, c4, by rw [HFV.out], hNL.row, hIS.out⟩, hXL⟩
end Go.Proofs.Ytohdplnlbnoojaa

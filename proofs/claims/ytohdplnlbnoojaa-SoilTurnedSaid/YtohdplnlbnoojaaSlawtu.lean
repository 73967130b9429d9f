/- SoilTurned: the law returns true for every input. Conditions: none. -/
import Derived.Test.YtohdplnlbnoojaaSheap
namespace Go.Proofs.Ytohdplnlbnoojaa
open Go Go.RowKit Go.IntWalk

/-- What the law asks of the bed to which g heaps. -/
structure Htm (soils : List So) (bos : List Bo) (g : Gr) (cn : Nat) (K : List Int) : Prop where
  len : K.length = g.L.length
  lv : LvOk K
  one : ∀ J, IsSl (psG g cn) (alG soils bos g cn) (ngL g.L) J → J = K
  ge : ∀ i, gi g.L i ≤ gi (ngL K) i
  df : dfN (ngL K) g.L g.L.length = dfN (ngL g.L) K g.L.length
theorem Htm.of {soils : List So} {bos : List Bo} {g : Gr} {cn : Nat} {K : List Int} (h0 : cbE soils bos g = 0) (h : IsSl (psG g cn) (alG soils bos g cn) (ngL g.L) K) : Htm soils bos g cn K := by
  have hv : LvOk g.L := (chkG_ok (cbE_ok h0).2).lev
  have hlk : LvOk K := h.1.lev (ngL_ok hv)
  have key : ∀ i, (gi g.L i = 30000 ∧ gi K i = 30000) ∨ (gi g.L i ≠ 30000 ∧ gi K i ≠ 30000 ∧ gi K i ≤ - gi g.L i) := by
    intro i
    have h1 := hv.all i
    rcases h1 with h1 | h1
    · exact .inl ⟨h1, h.1.unk i (by rw [gi_ngL, h1]; rfl)⟩
    · have h4 := h.1.le i
      rw [gi_ngL, ngV_k (by omega)] at h4
      exact .inr ⟨by omega, by omega, h4⟩
  refine ⟨by rw [h.1.len, ngL_len], hlk, fun J hJ => hJ.one h, fun i => ?_, ?_⟩
  · rw [gi_ngL]
    rcases key i with ⟨h1, h2⟩ | ⟨h1, h2, h3⟩
    · rw [h1, h2]; decide
    · rw [ngV_k h2]; omega
  · have : ∀ n, dfN (ngL K) g.L n = dfN (ngL g.L) K n := by
      intro n
      induction n with
      | zero => rfl
      | succ n ih =>
        unfold dfN at ih ⊢
        rw [sumN, sumN, ih]
        have e : gi (ngL K) n - gi g.L n = gi (ngL g.L) n - gi K n := by
          rw [gi_ngL, gi_ngL]
          rcases key n with ⟨h1, h2⟩ | ⟨h1, h2, h3⟩
          · rw [h1, h2]
          · rw [ngV_k h1, ngV_k h2]; omega
        rw [e]
    exact this _
/-- What Heap returns, for the law. -/
def OutHt (soils : List So) (bos : List Bo) (g : Gr) (cn : Nat) (e : Ending) (w' : World) : Prop :=
  ∃ K A c, e = .returned (.tuple #[.agg #[.int .i64 g.X, .int .i64 g.Y, .int .i64 g.S, .int .i64 g.C, .int .i64 g.R, .slice A g.L.length c], .int .i64 (dfN (ngL g.L) K g.L.length * (g.S * g.S)), .int .i64 0]) ∧ Row 1 encZ w' A (ngL K) ∧ Htm soils bos g cn K
theorem gheap_t (soils : List So) (bos : List Bo) (g : Gr) (cn rn : Nat) (w : World) (AS AB A : Option Addr) (cS cB c : Nat) (gw : GrW w soils AS bos AB) (h0 : cbE soils bos g = 0) (hC : g.C = cn) (hR : g.R = rn) (hA : Row 1 encZ w A g.L) :
    Calls Try.prog 44 #[.agg #[.slice AS soils.length cS, .slice AB bos.length cB], .agg #[.int .i64 g.X, .int .i64 g.Y, .int .i64 g.S, .int .i64 g.C, .int .i64 g.R, .slice A g.L.length c]] w fun e w' => OutHt soils bos g cn e w' ∧ Ext w w' := by
  refine (gheap_c soils bos g cn rn w AS AB A cS cB c gw h0 hC hR hA).mono ?_
  rintro e w' ⟨⟨K, A', c', he, hN, hS⟩, hE⟩
  have hm := Htm.of h0 hS
  exact ⟨⟨K, A', c', by rw [he, hm.df], hN, hm⟩, hE⟩
/-- What Slump returns of the turned bed. -/
def OutSn (base : Nat) (g : Gr) (K : List Int) (e : Ending) (w' : World) : Prop :=
  ∃ A c, e = .returned (.tuple #[.agg #[.int .i64 g.X, .int .i64 g.Y, .int .i64 g.S, .int .i64 g.C, .int .i64 g.R, .slice A g.L.length c], .int .i64 (dfN (ngL g.L) K g.L.length * (g.S * g.S)), .int .i64 0]) ∧ NewZ base w' A c K
theorem gslump_n (soils : List So) (bos : List Bo) (g : Gr) (cn rn : Nat) (K : List Int) (w : World) (AS AB A : Option Addr) (cS cB c : Nat) (gw : GrW w soils AS bos AB) (h0 : cbE soils bos g = 0) (hm : Htm soils bos g cn K) (hC : g.C = cn) (hR : g.R = rn) (hA : Row 1 encZ w A (ngL g.L)) :
    Calls Try.prog 43 #[.agg #[.slice AS soils.length cS, .slice AB bos.length cB], .agg #[.int .i64 g.X, .int .i64 g.Y, .int .i64 g.S, .int .i64 g.C, .int .i64 g.R, .slice A g.L.length c]] w fun e w' => OutSn w.heap.size g K e w' ∧ Ext w w' := by
  have h := gslump_ok_c soils bos (withL g (ngL g.L)) cn rn w AS AB A cS cB c gw (ngL_bed h0) hC hR hA
  rw [show (withL g (ngL g.L)).L = ngL g.L from rfl, ngL_len] at h
  refine h.mono ?_
  rintro e w' ⟨⟨J, A', c', he, hN, hS⟩, hE⟩
  have hS' := ngL_is h0 (by
    show IsSl (prsN cn (ngL g.L).length (knB (ngL g.L)) (ngL g.L).length) _ (ngL g.L) J
    rw [ngL_len]
    exact hS)
  have hJ := hm.one J hS'
  subst hJ
  refine ⟨⟨A', c', ?_, hN⟩, hE⟩
  rw [he, hm.len, show (withL g (ngL g.L)).L = ngL g.L from rfl, ngL_len]
  rfl

theorem keepQ4 {W w' : World} {a b c d : Nat} (h : Ext W w') (ha : a < W.heap.size) (hb : b < W.heap.size) (hc : c < W.heap.size) (hd : d < W.heap.size) :
    (∀ j : Nat, w'.cell? ⟨a, j, none⟩ = W.cell? ⟨a, j, none⟩) ∧ (∀ j : Nat, w'.cell? ⟨b, j, none⟩ = W.cell? ⟨b, j, none⟩) ∧ (∀ j : Nat, w'.cell? ⟨c, j, none⟩ = W.cell? ⟨c, j, none⟩) ∧ (∀ j : Nat, w'.cell? ⟨d, j, none⟩ = W.cell? ⟨d, j, none⟩) :=
  ⟨fun _ => h.ccell _ _ ha, fun _ => h.ccell _ _ hb, fun _ => h.ccell _ _ hc, fun _ => h.ccell _ _ hd⟩
set_option maxHeartbeats 64000000 in
set_option maxRecDepth 100000 in
theorem tu_walk (soils : List So) (bos : List Bo) (g : Gr) (w : World) (AS AB : Option Addr) (cS cB : Nat) (gg : GrAny w soils AS bos AB) (A : Option Addr) (c : Nat) (hl : g.L.length ≤ maxLen) (hA : Row 1 encZ w A g.L) :
    Calls Try.prog 10 #[.agg #[.slice AS soils.length cS, .slice AB bos.length cB], .agg #[.int .i64 g.X, .int .i64 g.Y, .int .i64 g.S, .int .i64 g.C, .int .i64 g.R, .slice A g.L.length c]] w fun e w' => e = .returned (.bool true) ∧ Ext w w' := by
  have HL := Lib.hid (fun w' (hw : Ext w w') => slight_c soils bos w' AS AB cS cB (gg.ext hw))
  have hl1 := hl
  unfold maxLen at hl1
  cases hBB : slB soils bos
  · rw [hBB] at HL
    clear hBB gg hl hA
    go_enter Try.func10, Try.ntmps10
    go_wp2_with (first | (go_at_call 14; with_reducible refine Calls.mono (awake_c _) ?_; rintro e wa ⟨rfl, hb⟩; have hc := hb.ccell; have hf := hb.frz; have hs := hb.sz; (try simp at hs); (try have t0 := hs (w.heap.size) (by first | assumption | omega)); (try have t1 := hs (w.heap.size + 1) (by first | assumption | omega)); (try have t2 := hs (w.heap.size) (by first | assumption | omega)); (try have t3 := hs (w.heap.size) (by first | assumption | omega)); (try have t4 := hs (w.heap.size) (by first | assumption | omega)); (try have t5 := hs (w.heap.size) (by first | assumption | omega))) | (go_at_call 15; with_reducible refine Calls.mono (HL.out _ (by (repeat (first | with_reducible exact Ext.rfl' _ | with_reducible assumption | with_reducible refine Ext.al ?_ _ | with_reducible refine Ext.dr ?_ | with_reducible refine Ext.st ?_ (by simp) _ | with_reducible refine Ext.tr ?_ (by assumption))))) ?_; rintro e ws ⟨rfl, hb⟩; have hc := hb.ccell; have hf := hb.frz; have hs := hb.sz; (try simp at hs); (try have t0 := hs (w.heap.size) (by first | assumption | omega)); (try have t1 := hs (w.heap.size + 1) (by first | assumption | omega)); (try have t2 := hs (w.heap.size) (by first | assumption | omega)); (try have t3 := hs (w.heap.size) (by first | assumption | omega)); (try have t4 := hs (w.heap.size) (by first | assumption | omega)); (try have t5 := hs (w.heap.size) (by first | assumption | omega))))
    go_ret
    exact ⟨rfl, by (repeat (first | with_reducible exact Ext.rfl' _ | with_reducible assumption | with_reducible refine Ext.al ?_ _ | with_reducible refine Ext.dr ?_ | with_reducible refine Ext.st ?_ (by simp) _ | with_reducible refine Ext.tr ?_ (by assumption)))⟩
  rw [hBB] at HL
  have gw := gg.small (slB_small hBB)
  clear hBB gg
  by_cases h200 : (200 : Int) < (g.L.length : Int)
  · clear hl hA gw
    go_enter Try.func10, Try.ntmps10
    go_wp2_with (first | (go_at_call 14; with_reducible refine Calls.mono (awake_c _) ?_; rintro e wa ⟨rfl, hb⟩; have hc := hb.ccell; have hf := hb.frz; have hs := hb.sz; (try simp at hs); (try have t0 := hs (w.heap.size) (by first | assumption | omega)); (try have t1 := hs (w.heap.size + 1) (by first | assumption | omega)); (try have t2 := hs (w.heap.size) (by first | assumption | omega)); (try have t3 := hs (w.heap.size) (by first | assumption | omega)); (try have t4 := hs (w.heap.size) (by first | assumption | omega)); (try have t5 := hs (w.heap.size) (by first | assumption | omega))) | (go_at_call 15; with_reducible refine Calls.mono (HL.out _ (by (repeat (first | with_reducible exact Ext.rfl' _ | with_reducible assumption | with_reducible refine Ext.al ?_ _ | with_reducible refine Ext.dr ?_ | with_reducible refine Ext.st ?_ (by simp) _ | with_reducible refine Ext.tr ?_ (by assumption))))) ?_; rintro e ws ⟨rfl, hb⟩; have hc := hb.ccell; have hf := hb.frz; have hs := hb.sz; (try simp at hs); (try have t0 := hs (w.heap.size) (by first | assumption | omega)); (try have t1 := hs (w.heap.size + 1) (by first | assumption | omega)); (try have t2 := hs (w.heap.size) (by first | assumption | omega)); (try have t3 := hs (w.heap.size) (by first | assumption | omega)); (try have t4 := hs (w.heap.size) (by first | assumption | omega)); (try have t5 := hs (w.heap.size) (by first | assumption | omega))))
    go_ret
    exact ⟨rfl, by (repeat (first | with_reducible exact Ext.rfl' _ | with_reducible assumption | with_reducible refine Ext.al ?_ _ | with_reducible refine Ext.dr ?_ | with_reducible refine Ext.st ?_ (by simp) _ | with_reducible refine Ext.tr ?_ (by assumption)))⟩
  by_cases h0 : cbE soils bos g = 0
  case neg =>
    have HSL := Lib.hid (fun w' (hw : Ext w w') => gslump_err soils bos g w' AS AB A cS cB c (gw.ext hw) hl (hA.ext hw) h0)
    have HSH := Lib.hid (fun w' (hw : Ext w w') => gheap_err soils bos g w' AS AB A cS cB c (gw.ext hw) hl (hA.ext hw) h0)
    have h0' : (cbE soils bos g != 0) = true := by simp [h0]
    clear hl hA gw h0
    generalize cbE soils bos g = E at *
    go_enter Try.func10, Try.ntmps10
    go_wp2_with (first | (go_at_call 14; with_reducible refine Calls.mono (awake_c _) ?_; rintro e wa ⟨rfl, hb⟩; have hc := hb.ccell; have hf := hb.frz; have hs := hb.sz; (try simp at hs); (try have t0 := hs (w.heap.size) (by first | assumption | omega)); (try have t1 := hs (w.heap.size + 1) (by first | assumption | omega)); (try have t2 := hs (w.heap.size) (by first | assumption | omega)); (try have t3 := hs (w.heap.size) (by first | assumption | omega)); (try have t4 := hs (w.heap.size) (by first | assumption | omega)); (try have t5 := hs (w.heap.size) (by first | assumption | omega))) | (go_at_call 15; with_reducible refine Calls.mono (HL.out _ (by (repeat (first | with_reducible exact Ext.rfl' _ | with_reducible assumption | with_reducible refine Ext.al ?_ _ | with_reducible refine Ext.dr ?_ | with_reducible refine Ext.st ?_ (by simp) _ | with_reducible refine Ext.tr ?_ (by assumption))))) ?_; rintro e ws ⟨rfl, hb⟩; have hc := hb.ccell; have hf := hb.frz; have hs := hb.sz; (try simp at hs); (try have t0 := hs (w.heap.size) (by first | assumption | omega)); (try have t1 := hs (w.heap.size + 1) (by first | assumption | omega)); (try have t2 := hs (w.heap.size) (by first | assumption | omega)); (try have t3 := hs (w.heap.size) (by first | assumption | omega)); (try have t4 := hs (w.heap.size) (by first | assumption | omega)); (try have t5 := hs (w.heap.size) (by first | assumption | omega))) | (go_at_call 43; with_reducible refine Calls.mono (HSL.out _ (by (repeat (first | with_reducible exact Ext.rfl' _ | with_reducible assumption | with_reducible refine Ext.al ?_ _ | with_reducible refine Ext.dr ?_ | with_reducible refine Ext.st ?_ (by simp) _ | with_reducible refine Ext.tr ?_ (by assumption))))) ?_; rintro e w2 ⟨rfl, hb⟩; have hc := hb.ccell; have hf := hb.frz; have hs := hb.sz; (try simp at hs); (try have t0 := hs (w.heap.size) (by first | assumption | omega)); (try have t1 := hs (w.heap.size + 1) (by first | assumption | omega)); (try have t2 := hs (w.heap.size) (by first | assumption | omega)); (try have t3 := hs (w.heap.size) (by first | assumption | omega)); (try have t4 := hs (w.heap.size) (by first | assumption | omega)); (try have t5 := hs (w.heap.size) (by first | assumption | omega))) | (go_at_call 44; with_reducible refine Calls.mono (HSH.out _ (by (repeat (first | with_reducible exact Ext.rfl' _ | with_reducible assumption | with_reducible refine Ext.al ?_ _ | with_reducible refine Ext.dr ?_ | with_reducible refine Ext.st ?_ (by simp) _ | with_reducible refine Ext.tr ?_ (by assumption))))) ?_; rintro e w3 ⟨rfl, hb⟩; have hc := hb.ccell; have hf := hb.frz; have hs := hb.sz; (try simp at hs); (try have t0 := hs (w.heap.size) (by first | assumption | omega)); (try have t1 := hs (w.heap.size + 1) (by first | assumption | omega)); (try have t2 := hs (w2.heap.size) (by first | assumption | omega)); (try have t3 := hs (w.heap.size) (by first | assumption | omega)); (try have t4 := hs (w.heap.size) (by first | assumption | omega)); (try have t5 := hs (w.heap.size) (by first | assumption | omega))))
    go_ret
    exact ⟨rfl, by (repeat (first | with_reducible exact Ext.rfl' _ | with_reducible assumption | with_reducible refine Ext.al ?_ _ | with_reducible refine Ext.dr ?_ | with_reducible refine Ext.st ?_ (by simp) _ | with_reducible refine Ext.tr ?_ (by assumption)))⟩
  have vg := chkG_ok (cbE_ok h0).2
  obtain ⟨cn, rn, e1, e2, e3, e4, e5, e6, e7, e8⟩ := vg.nat
  have hn : g.L.length ≤ 1024 := by omega
  have hpos : 0 < g.L.length := by rw [e7]; exact Nat.mul_pos e3 e5
  have hv : LvOk g.L := vg.lev
  have HSL := Lib.hid (fun w' (hw : Ext w w') => gslump_sm soils bos g cn rn w' AS AB A cS cB c (gw.ext hw) h0 e1 e2 (hA.ext hw))
  have HSH := Lib.hid (fun w' (hw : Ext w w') => gheap_t soils bos g cn rn w' AS AB A cS cB c (gw.ext hw) h0 e1 e2 (hA.ext hw))
  have HSN := Lib.hid (fun K (hm : Htm soils bos g cn K) w' A2 c2 (hw : Ext w w') hr => gslump_n soils bos g cn rn K w' AS AB A2 cS cB c2 (gw.ext hw) h0 hm e1 e2 hr)
  have HTU := Lib.hid (fun w' (hw : Ext w w') => turned_c g w' A c hpos hn hv (hA.ext hw))
  have HTK := Lib.hid (fun K (hm : Htm soils bos g cn K) w' A2 c2 hr => turned_w g K w' A2 c2 hpos hn hm.len hm.lv hr)
  have HSG := Lib.hid (fun K (hm : Htm soils bos g cn K) w' A2 A3 c2 c3 hr2 hr3 => sameGrid_self g (ngL K) w' A2 A3 c2 c3 hl (by rw [ngL_len]; exact hm.len) hr2 hr3)
  clear hl hA gw h0 e1 e2 e3 e4 e5 e6 e7 e8 hv vg hn hpos
  go_enter Try.func10, Try.ntmps10
  go_upto_region 9 with (first | (go_at_call 14; with_reducible refine Calls.mono (awake_c _) ?_; rintro e wa ⟨rfl, hb⟩; have hc := hb.ccell; have hf := hb.frz; have hs := hb.sz; (try simp at hs); (try have t0 := hs (w.heap.size) (by first | assumption | omega)); (try have t1 := hs (w.heap.size + 1) (by first | assumption | omega)); (try have t2 := hs (w.heap.size) (by first | assumption | omega)); (try have t3 := hs (w.heap.size) (by first | assumption | omega)); (try have t4 := hs (w.heap.size) (by first | assumption | omega)); (try have t5 := hs (w.heap.size) (by first | assumption | omega))) | (go_at_call 15; with_reducible refine Calls.mono (HL.out _ (by (repeat (first | with_reducible exact Ext.rfl' _ | with_reducible assumption | with_reducible refine Ext.al ?_ _ | with_reducible refine Ext.dr ?_ | with_reducible refine Ext.st ?_ (by simp) _ | with_reducible refine Ext.tr ?_ (by assumption))))) ?_; rintro e ws ⟨rfl, hb⟩; have hc := hb.ccell; have hf := hb.frz; have hs := hb.sz; (try simp at hs); (try have t0 := hs (w.heap.size) (by first | assumption | omega)); (try have t1 := hs (w.heap.size + 1) (by first | assumption | omega)); (try have t2 := hs (w.heap.size) (by first | assumption | omega)); (try have t3 := hs (w.heap.size) (by first | assumption | omega)); (try have t4 := hs (w.heap.size) (by first | assumption | omega)); (try have t5 := hs (w.heap.size) (by first | assumption | omega))) | (go_at_call 43; (with_reducible refine Calls.mono (HSL.out _ (by (repeat (first | with_reducible exact Ext.rfl' _ | with_reducible assumption | with_reducible refine Ext.al ?_ _ | with_reducible refine Ext.dr ?_ | with_reducible refine Ext.st ?_ (by simp) _ | with_reducible refine Ext.tr ?_ (by assumption))))) ?_); rintro e w2 ⟨⟨L, A2, c2, v, rfl, hR2, hv, sm⟩, hb⟩; have hc := hb.ccell; have hf := hb.frz; have hs := hb.sz; (try simp at hs); (try have t0 := hs (w.heap.size) (by first | assumption | omega)); (try have t1 := hs (w.heap.size + 1) (by first | assumption | omega)); (try have t2 := hs (w.heap.size) (by first | assumption | omega)); (try have t3 := hs (w.heap.size) (by first | assumption | omega)); (try have t4 := hs (w.heap.size) (by first | assumption | omega)); (try have t5 := hs (w.heap.size) (by first | assumption | omega))) | (go_at_call 44; (with_reducible refine Calls.mono (HSH.out _ (by (repeat (first | with_reducible exact Ext.rfl' _ | with_reducible assumption | with_reducible refine Ext.al ?_ _ | with_reducible refine Ext.dr ?_ | with_reducible refine Ext.st ?_ (by simp) _ | with_reducible refine Ext.tr ?_ (by assumption))))) ?_); rintro e w3 ⟨⟨K, A3, c3, rfl, hR3, hm⟩, hb⟩; have hc := hb.ccell; have hf := hb.frz; have hs := hb.sz; (try simp at hs); (try have t0 := hs (w.heap.size) (by first | assumption | omega)); (try have t1 := hs (w.heap.size + 1) (by first | assumption | omega)); (try have t2 := hs (w2.heap.size) (by first | assumption | omega)); (try have t3 := hs (w.heap.size) (by first | assumption | omega)); (try have t4 := hs (w.heap.size) (by first | assumption | omega)); (try have t5 := hs (w.heap.size) (by first | assumption | omega))))
  refine wp_name (fun W hW => ?_)
  have hEW : Ext w W := by rw [hW]; (repeat (first | with_reducible exact Ext.rfl' _ | with_reducible assumption | with_reducible refine Ext.al ?_ _ | with_reducible refine Ext.dr ?_ | with_reducible refine Ext.st ?_ (by simp) _ | with_reducible refine Ext.tr ?_ (by assumption)))
  have hRS := Lib.hid (show Row 1 encZ W A2 L from hR2.ext (by rw [hW]; (repeat (first | with_reducible exact Ext.rfl' _ | with_reducible assumption | with_reducible refine Ext.al ?_ _ | with_reducible refine Ext.dr ?_ | with_reducible refine Ext.st ?_ (by simp) _ | with_reducible refine Ext.tr ?_ (by assumption)))))
  have hRH := Lib.hid (show Row 1 encZ W A3 (ngL K) from hR3.ext (by rw [hW]; (repeat (first | with_reducible exact Ext.rfl' _ | with_reducible assumption | with_reducible refine Ext.al ?_ _ | with_reducible refine Ext.dr ?_ | with_reducible refine Ext.st ?_ (by simp) _ | with_reducible refine Ext.tr ?_ (by assumption)))))
  have r0 : W.cell? ⟨w.heap.size, 0, none⟩ = some (.slice AS soils.length cS) := by rw [hW]; simp [*, go_sem]
  have r1 : W.cell? ⟨w.heap.size, 1, none⟩ = some (.slice AB bos.length cB) := by rw [hW]; simp [*, go_sem]
  have km : CellsAt W (w.heap.size + 1) 0 [.int .i64 g.X, .int .i64 g.Y, .int .i64 g.S, .int .i64 g.C, .int .i64 g.R, .slice A g.L.length c] := by rw [hW]; refine cells_six ⟨?_, ?_, ?_, ?_, ?_, ?_⟩ <;> simp [*, go_sem]
  have ks : CellsAt W w2.heap.size 0 [.int .i64 g.X, .int .i64 g.Y, .int .i64 g.S, .int .i64 g.C, .int .i64 g.R, .slice A2 g.L.length c2] := by rw [hW]; refine cells_six ⟨?_, ?_, ?_, ?_, ?_, ?_⟩ <;> simp [*, go_sem]
  have kh : CellsAt W w3.heap.size 0 [.int .i64 g.X, .int .i64 g.Y, .int .i64 g.S, .int .i64 g.C, .int .i64 g.R, .slice A3 g.L.length c3] := by rw [hW]; refine cells_six ⟨?_, ?_, ?_, ?_, ?_, ?_⟩ <;> simp [*, go_sem]
  have zs : w2.heap.size < W.heap.size := by rw [hW]; simp; omega
  have zh : w3.heap.size < W.heap.size := by rw [hW]; simp
  have zm : w.heap.size + 1 < W.heap.size := by rw [hW]; simp; omega
  have zg : w.heap.size < W.heap.size := by omega
  have SM := Lib.hid sm
  have HM := Lib.hid hm
  clear hW hR2 hR3 sm hm hb hc hf hs t0 t1 t2 t3 t4 t5
  generalize w2.heap.size = ns at *
  generalize w3.heap.size = nh at *
  have HSNx := Lib.hid (fun w' A2 c2 (hw : Ext w w') hr => HSN.out K HM.out w' A2 c2 hw hr)
  unfold OutSn at HSNx
  clear HSN
  generalize dfN (ngL g.L) K g.L.length * (g.S * g.S) = dv at *
  obtain ⟨m0, m1, m2, m3, m4, m5⟩ := km.six
  go_cut [11, 12, 13] (fun s p q wx => ∃ (nb c5 : Nat) (A5 : Option Addr), s = .pointer (some ⟨nb, 0, none⟩) ∧ p = .int .i64 dv ∧ q = .int .i64 0 ∧ Ext W wx ∧ W.heap.size ≤ nb ∧ nb < wx.heap.size ∧ Hid (CellsAt wx nb 0 [.int .i64 g.X, .int .i64 g.Y, .int .i64 g.S, .int .i64 g.C, .int .i64 g.R, .slice A5 g.L.length c5]) ∧ Hid (NewZ W.heap.size wx A5 c5 K))
  case first =>
    clear HTK HSG
    go_region_held3 (fun w' => (∀ j : Nat, w'.cell? ⟨w.heap.size, j, none⟩ = W.cell? ⟨w.heap.size, j, none⟩) ∧ (∀ j : Nat, w'.cell? ⟨w.heap.size + 1, j, none⟩ = W.cell? ⟨w.heap.size + 1, j, none⟩)) ((refine Kp.of ?_ zg zm; (repeat (first | with_reducible exact Ext.rfl' _ | with_reducible assumption | with_reducible refine Ext.al ?_ _ | with_reducible refine Ext.dr ?_ | with_reducible refine Ext.st ?_ (by first | (simp; done) | ((try have s2 := Below.size hb2); (try have s3 := Below.size hb3); (try have s4 := Below.size hb4); (try simp at s2); (try simp at s3); (try simp at s4); (try simp); omega)) _ | with_reducible refine Ext.tr ?_ (by with_reducible assumption))))) (first | (go_at_call 52; (with_reducible refine Calls.mono (HTU.out _ (hEW.tr (by (repeat (first | with_reducible exact Ext.rfl' _ | with_reducible assumption | with_reducible refine Ext.al ?_ _ | with_reducible refine Ext.dr ?_ | with_reducible refine Ext.st ?_ (by simp) _ | with_reducible refine Ext.tr ?_ (by assumption)))))) ?_); rintro e w2 ⟨⟨A4, c4, rfl, hN2⟩, hb2⟩; have hc2 := hb2.ccell; have hf2 := hb2.frz; have hs2 := hb2.sz; (try have t2 := hs2 W.heap.size (by first | assumption | (simp; done) | (simp; omega))); (try have t2' := hs2 w3.heap.size (by first | assumption | (simp; done) | (simp; omega)))) | (go_at_call 43; (with_reducible refine Calls.mono (HSNx.out _ _ _ (hEW.tr (by (repeat (first | with_reducible exact Ext.rfl' _ | with_reducible assumption | with_reducible refine Ext.al ?_ _ | with_reducible refine Ext.dr ?_ | with_reducible refine Ext.st ?_ (by first | (simp; done) | ((try have s2 := Below.size hb2); (try have s3 := Below.size hb3); (try have s4 := Below.size hb4); (try simp at s2); (try simp at s3); (try simp at s4); (try simp); omega)) _ | with_reducible refine Ext.tr ?_ (by with_reducible assumption))))) (hN2.row.ext (by (repeat (first | with_reducible exact Ext.rfl' _ | with_reducible assumption | with_reducible refine Ext.al ?_ _ | with_reducible refine Ext.dr ?_ | with_reducible refine Ext.st ?_ (by first | (simp; done) | ((try have s2 := Below.size hb2); (try have s3 := Below.size hb3); (try have s4 := Below.size hb4); (try simp at s2); (try simp at s3); (try simp at s4); (try simp); omega)) _ | with_reducible refine Ext.tr ?_ (by with_reducible assumption)))))) ?_); rintro e w3 ⟨⟨A5, c5, rfl, hN3⟩, hb3⟩; have hc3 := hb3.ccell; have hf3 := hb3.frz; have hs3 := hb3.sz; (try have t3 := hs3 W.heap.size (by first | assumption | (simp; done) | (simp; omega))); (try have t3' := hs3 w2.heap.size (by first | assumption | (simp; done) | (simp; omega)))))
    all_goals
      rename_i hJ hK h1 h2 hH
      clear hH
      refine h2 _ _ (Met.intro (h1 _ _ ?_))
      (repeat apply Exists.intro)
      refine ⟨?_, rfl⟩
      refine ⟨_, c5, A5, rfl, rfl, rfl, ?_, ?_, ?_, Lib.hid ?_, Lib.hid ?_⟩
      · (repeat (first | with_reducible exact Ext.rfl' _ | with_reducible assumption | with_reducible refine Ext.al ?_ _ | with_reducible refine Ext.dr ?_ | with_reducible refine Ext.st ?_ (by first | (simp; done) | ((try have s2 := Below.size hb2); (try have s3 := Below.size hb3); (try have s4 := Below.size hb4); (try simp at s2); (try simp at s3); (try simp at s4); (try simp); omega)) _ | with_reducible refine Ext.tr ?_ (by with_reducible assumption)))
      · first | (simp; done) | ((try have s2 := Below.size hb2); (try have s3 := Below.size hb3); (try have s4 := Below.size hb4); (try simp at s2); (try simp at s3); (try simp at s4); (try simp); omega)
      · first | (simp; done) | ((try have s2 := Below.size hb2); (try have s3 := Below.size hb3); (try have s4 := Below.size hb4); (try simp at s2); (try simp at s3); (try simp at s4); (try simp); omega)
      · first
          | with_reducible exact box6 _ _ _ _ _ _ _ _
          | (refine stL_at _ [.int .i64 g.X, .int .i64 g.Y, .int .i64 g.S, .int .i64 g.C, .int .i64 g.R, .slice A5 g.L.length c5] [.int .i64 0, .int .i64 0, .int .i64 0, .int .i64 0, .int .i64 0, .slice none 0 0] 0 w3 ?_ rfl; (repeat (first | with_reducible exact box6 _ _ _ _ _ _ _ _ | with_reducible refine CellsAt.ext ?_ hb3 (by first | (simp; done) | ((try have s2 := Below.size hb2); (try have s3 := Below.size hb3); (try have s4 := Below.size hb4); (try simp at s2); (try simp at s3); (try simp at s4); (try simp); omega)) | with_reducible refine CellsAt.ext ?_ hb2 (by first | (simp; done) | ((try have s2 := Below.size hb2); (try have s3 := Below.size hb3); (try have s4 := Below.size hb4); (try simp at s2); (try simp at s3); (try simp at s4); (try simp); omega)) | with_reducible refine CellsAt.ext ?_ (Ext.dr (Ext.rfl' _)) (by first | (simp; done) | ((try have s2 := Below.size hb2); (try have s3 := Below.size hb3); (try have s4 := Below.size hb4); (try simp at s2); (try simp at s3); (try simp at s4); (try simp); omega)))); done)
      · first
          | (with_reducible refine new6 hN3 ?_ ?_; (focus (first | (simp; done) | ((try have s2 := Below.size hb2); (try have s3 := Below.size hb3); (try have s4 := Below.size hb4); (try simp at s2); (try simp at s3); (try simp at s4); (try simp); omega))); (focus (first | (simp; done) | ((try have s2 := Below.size hb2); (try have s3 := Below.size hb3); (try have s4 := Below.size hb4); (try simp at s2); (try simp at s3); (try simp at s4); (try simp); omega))))
          | (with_reducible refine NewZ.mono (NewZ.ext hN3 ?_) ?_; (focus ((repeat (first | with_reducible exact Ext.rfl' _ | with_reducible assumption | with_reducible refine Ext.al ?_ _ | with_reducible refine Ext.dr ?_ | with_reducible refine Ext.st ?_ (by first | (simp; done) | ((try have s2 := Below.size hb2); (try have s3 := Below.size hb3); (try have s4 := Below.size hb4); (try simp at s2); (try simp at s3); (try simp at s4); (try simp); omega)) _ | with_reducible refine Ext.tr ?_ (by with_reducible assumption))); done)); (focus (first | (simp; done) | ((try have s2 := Below.size hb2); (try have s3 := Below.size hb3); (try have s4 := Below.size hb4); (try simp at s2); (try simp at s3); (try simp at s4); (try simp); omega))))
  case rest =>
    obtain ⟨nt, c5, A5, rfl, rfl, rfl, hx, hnW, hnt, hK6, hN5⟩ := hcut
    obtain ⟨wd, hwd⟩ : ∃ x, x = wc := ⟨_, rfl⟩
    subst hwd
    have hRT := Lib.hid hN5.out.row
    have hRH := Lib.hid (hRH.out.ext hx)
    have hRS := Lib.hid (hRS.out.ext hx)
    have hEc := hEW.tr hx
    have kmc := km.ext hx zm
    have ksc := ks.ext hx zs
    have khc := kh.ext hx zh
    have ys := hx.sz _ zs
    have yh := hx.sz _ zh
    have ym := hx.sz _ zm
    obtain ⟨m0, m1, m2, m3, m4, m5⟩ := kmc.six
    obtain ⟨s0, s1, s2, s3, s4, s5⟩ := ksc.six
    obtain ⟨p0, p1, p2, p3, p4, p5⟩ := khc.six
    obtain ⟨q0, q1, q2, q3, q4, q5⟩ := hK6.out.six
    clear km ks kh zs zh zm zg r0 r1 hx hnW HSL HSH HSNx HTU hN5 hEW
    generalize w.heap.size + 1 = nm at *
    go_upto_region 10 with fail
    go_cut [92] (fun s wx => s = .bool false ∧ Ext wd wx)
    case first =>
      go_region_held3 (fun w' => (∀ j : Nat, w'.cell? ⟨nm, j, none⟩ = wd.cell? ⟨nm, j, none⟩) ∧ (∀ j : Nat, w'.cell? ⟨ns, j, none⟩ = wd.cell? ⟨ns, j, none⟩) ∧ (∀ j : Nat, w'.cell? ⟨nh, j, none⟩ = wd.cell? ⟨nh, j, none⟩) ∧ (∀ j : Nat, w'.cell? ⟨nt, j, none⟩ = wd.cell? ⟨nt, j, none⟩)) ((refine keepQ4 ?_ ym ys yh hnt; (repeat (first | with_reducible exact Ext.rfl' _ | with_reducible assumption | with_reducible refine Ext.al ?_ _ | with_reducible refine Ext.dr ?_ | with_reducible refine Ext.st ?_ (by first | (simp; done) | ((try have s2 := Below.size hb2); (try have s3 := Below.size hb3); (try have s4 := Below.size hb4); (try simp at s2); (try simp at s3); (try simp at s4); (try simp); omega)) _ | with_reducible refine Ext.tr ?_ (by with_reducible assumption))))) (first | (go_at_call 52; (with_reducible refine Calls.mono (HTK.out K HM.out _ _ _ (hRT.out.ext (by (repeat (first | with_reducible exact Ext.rfl' _ | with_reducible assumption | with_reducible refine Ext.al ?_ _ | with_reducible refine Ext.dr ?_ | with_reducible refine Ext.st ?_ (by first | (simp; done) | ((try have s2 := Below.size hb2); (try have s3 := Below.size hb3); (try have s4 := Below.size hb4); (try simp at s2); (try simp at s3); (try simp at s4); (try simp); omega)) _ | with_reducible refine Ext.tr ?_ (by with_reducible assumption)))))) ?_); rintro e w2 ⟨⟨A4, c4, rfl, hN2⟩, hb2⟩; have hc2 := hb2.ccell) | (go_at_call 48; (with_reducible refine Calls.mono (HSG.out K HM.out _ _ _ _ _ (hRH.out.ext (by (repeat (first | with_reducible exact Ext.rfl' _ | with_reducible assumption | with_reducible refine Ext.al ?_ _ | with_reducible refine Ext.dr ?_ | with_reducible refine Ext.st ?_ (by first | (simp; done) | ((try have s2 := Below.size hb2); (try have s3 := Below.size hb3); (try have s4 := Below.size hb4); (try simp at s2); (try simp at s3); (try simp at s4); (try simp); omega)) _ | with_reducible refine Ext.tr ?_ (by with_reducible assumption))))) (hN2.row.ext (by (repeat (first | with_reducible exact Ext.rfl' _ | with_reducible assumption | with_reducible refine Ext.al ?_ _ | with_reducible refine Ext.dr ?_ | with_reducible refine Ext.st ?_ (by first | (simp; done) | ((try have s2 := Below.size hb2); (try have s3 := Below.size hb3); (try have s4 := Below.size hb4); (try simp at s2); (try simp at s3); (try simp at s4); (try simp); omega)) _ | with_reducible refine Ext.tr ?_ (by with_reducible assumption)))))) ?_); rintro e w3 ⟨rfl, hb3⟩; have hc3 := hb3.ccell))
      all_goals
        rename_i hJ hK h1 h2 hH
        clear hH
        refine h2 _ _ (Met.intro (h1 _ _ ?_))
        (repeat apply Exists.intro)
        refine ⟨?_, rfl⟩
        exact ⟨rfl, by (repeat (first | with_reducible exact Ext.rfl' _ | with_reducible assumption | with_reducible refine Ext.al ?_ _ | with_reducible refine Ext.dr ?_ | with_reducible refine Ext.st ?_ (by first | (simp; done) | ((try have s2 := Below.size hb2); (try have s3 := Below.size hb3); (try have s4 := Below.size hb4); (try simp at s2); (try simp at s3); (try simp at s4); (try simp); omega)) _ | with_reducible refine Ext.tr ?_ (by with_reducible assumption)))⟩
    case rest =>
    obtain ⟨rfl, hx⟩ := hcut
    obtain ⟨m0, m1, m2, m3, m4, m5⟩ := (kmc.ext hx ym).six
    have ym' := hx.sz _ ym
    clear s0 s1 s2 s3 s4 s5 p0 p1 p2 p3 p4 p5 q0 q1 q2 q3 q4 q5 HTK HSG
    go_wp2
    clear m0 m1 m2 m3 m4 m5 ym'
    go_loopw [14] (fun i wr => Ext wd wr ∧ ∃ k : Nat, k ≤ g.L.length ∧ i = .int .i64 k) (fun i _ => g.L.length - (intOf i).toNat)
    case atStart => exact ⟨hx, 0, Nat.zero_le _, rfl⟩
    case round =>
      clear hx
      obtain ⟨hE, k, hk, rfl⟩ := hrel
      have hEr := hEc.tr hE
      obtain ⟨m0, m1, m2, m3, m4, m5⟩ := (kmc.ext hE ym).six
      obtain ⟨s0, s1, s2, s3, s4, s5⟩ := (ksc.ext hE ys).six
      obtain ⟨p0, p1, p2, p3, p4, p5⟩ := (khc.ext hE yh).six
      have x1 := hE.sz _ ym
      have x2 := hE.sz _ ys
      have x3 := hE.sz _ yh
      by_cases hlt : k < g.L.length
      · obtain ⟨bS, oS, rfl, hbS, hcS⟩ := hRS.out.p1 (k := k) (by rw [SM.out.len]; exact hlt)
        obtain ⟨bH, oH, rfl, hbH, hcH⟩ := hRH.out.p1 (k := k) (by rw [ngL_len, HM.out.len]; exact hlt)
        have xs := hcS _ hE
        have xh := hcH _ hE
        rw [← gi_lt] at xs xh
        have za := hE.sz _ hbS
        have zb := hE.sz _ hbH
        have hki : (k : Int) < (g.L.length : Int) := by omega
        have hle := SM.out.le k
        have hge := HM.out.ge k
        have hni : ¬ (gi (ngL K) k < gi L k) := by omega
        clear hcS hcH hle hge
        generalize gi (ngL K) k = la at *
        generalize gi L k = lb at *
        go_upto_region 15 with fail
        refine region_grow (by kernel_rfl) (by kernel_rfl) ?_
        repeat (first | go_big_quiet_step (first  | fail) | quiet_step (first  | fail))
        refine wpQuiet_nil ?_
        intro w1 hb
        have hc := hb.ccell
        have hf := hb.frz
        have hs := hb.sz
        (try simp at hs); (try have hs0 := hs w.heap.size (by omega)); (try have hs1 := hs (w.heap.size + 1) (by omega)); (try have hs2 := hs (w.heap.size + 1 + 1) (by omega)); (try have hs3 := hs (w.heap.size + 1 + 1 + 1) (by omega))
        (try simp only [IntWalk.i64_left])
        have hE1 : Ext wr w1 := by assumption
        go_wp2
        exact ⟨⟨hE.tr hE1, k + 1, by omega, by go_num⟩, by simp [intOf]; omega⟩
      · go_wp2
        go_ret
        exact ⟨rfl, hEr⟩
end Go.Proofs.Ytohdplnlbnoojaa

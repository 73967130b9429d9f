/- SoilSlopes: the law returns true for every input. Conditions: none. -/
import Derived.Test.YtohdplnlbnoojaaSstp
import Derived.Test.YtohdplnlbnoojaaSawake
import Derived.Test.YtohdplnlbnoojaaSslight
import Derived.Test.YtohdplnlbnoojaaSrefg
namespace Go.Proofs.Ytohdplnlbnoojaa
open Go Go.RowKit Go.IntWalk

theorem keepP6 {W w' : World} {b c : Nat} (h : Ext W w') (hb : b < W.heap.size) (hc : c < W.heap.size) : (∀ j : Nat, w'.cell? ⟨b, j, none⟩ = W.cell? ⟨b, j, none⟩) ∧ (∀ j : Nat, w'.cell? ⟨c, j, none⟩ = W.cell? ⟨c, j, none⟩) ∧ Ext W w' := ⟨fun _ => h.ccell _ _ hb, fun _ => h.ccell _ _ hc, h⟩
theorem Row.st {w : World} {A : Option Addr} {l : List St} (h : Row 3 encSt w A l) {k : Nat} (hk : k < l.length) :
    ∃ b off, A = some ⟨b, off, none⟩ ∧ b < w.heap.size ∧ ∀ w', Ext w w' → w'.cell? ⟨b, off + k * 3, none⟩ = some (.int .i64 ((el l k).h : Int)) ∧ w'.cell? ⟨b, off + k * 3 + 1, none⟩ = some (.int .i64 ((el l k).l : Int)) ∧ w'.cell? ⟨b, off + k * 3 + 2, none⟩ = some (.int .i64 (el l k).o) := by
  obtain ⟨b, off, h1, h2, h3⟩ := h.addr (by omega)
  rw [el_lt _ _ hk]
  exact ⟨b, off, h1, h2, fun w' hw => ⟨h3 w' hw k hk 0 _ rfl, h3 w' hw k hk 1 _ rfl, h3 w' hw k hk 2 _ rfl⟩⟩
theorem first_cb (soils : List So) (bos : List Bo) (g : Gr) : firstE (gi [chkGr soils bos, chkG g]) 2 = cbE soils bos g := by
  unfold cbE
  have h0 : gi [chkGr soils bos, chkG g] 0 = chkGr soils bos := rfl
  have h1 : gi [chkGr soils bos, chkG g] 1 = chkG g := rfl
  by_cases h2 : chkGr soils bos = 0
  · rw [if_neg (by omega)]
    have hs := firstE_step (gi [chkGr soils bos, chkG g]) (k := 0) rfl (h0.trans h2)
    by_cases h3 : chkG g = 0
    · rw [h3] at h1 ⊢; exact firstE_step _ hs (by rw [← h3] at h1; rw [h3] at h1; exact h1)
    · rw [← h1] at h3 ⊢; exact firstE_at _ hs h3 (by omega)
  · rw [if_pos h2, ← h0]
    exact firstE_at _ rfl (by rw [h0]; exact h2) (by omega)

set_option maxHeartbeats 64000000 in
set_option maxRecDepth 100000 in
theorem ss_err (soils : List So) (bos : List Bo) (g : Gr) (a b : Int) (w : World) (AS AB : Option Addr) (cS cB : Nat) (gg : GrAny w soils AS bos AB) (hB : slB soils bos = true) (gw : GrW w soils AS bos AB) (A : Option Addr) (c : Nat) (hl : g.L.length ≤ maxLen) (h30 : g.L.length ≤ 30) (hA : Row 1 encZ w A g.L) (h0 : cbE soils bos g ≠ 0) :
    Calls Try.prog 7 #[.agg #[.slice AS soils.length cS, .slice AB bos.length cB], .agg #[.int .i64 g.X, .int .i64 g.Y, .int .i64 g.S, .int .i64 g.C, .int .i64 g.R, .slice A g.L.length c], .agg #[.int .i64 a, .int .i64 b]] w fun e w' => e = .returned (.bool true) ∧ Ext w w' := by
  have HL := Lib.hid (fun w' (hw : Ext w w') => slight_c soils bos w' AS AB cS cB (gg.ext hw))
  have HSM := Lib.hid (fun w' => small6_c g w' A c hl)
  rw [hB] at HL
  rw [decide_eq_true h30] at HSM
  clear hB gg
  have HQ := Lib.hid (fun w' (hw : Ext w w') => rcheckGround_c soils bos w' AS AB cS cB (gw.ext hw))
  have HRC := Lib.hid (fun w' (hw : Ext w w') => rcheck_c g w' A c hl (hA.ext hw))
  have HF := Lib.hid (fun w' A2 c2 hr => by have h := first6_c [chkGr soils bos, chkG g] w' A2 c2 (by simp) hr; rw [show [chkGr soils bos, chkG g].length = 2 from rfl, first_cb] at h; exact h)
  have he : alE soils bos g g.C.toNat a b = cbE soils bos g := by unfold alE; rw [if_pos h0]
  have hv : alV soils bos g g.C.toNat a b = 0 := by unfold alV; rw [if_neg (by rw [he]; exact h0)]
  have HA := Lib.hid (fun w' (hw : Ext w w') => by have h := gallowed_c soils bos g g.C.toNat a b w' AS AB A cS cB c (gw.ext hw) hl (hA.ext hw) (fun h => absurd h h0); rw [he, hv] at h; exact h)
  have HST := Lib.hid (fun w' (hw : Ext w w') => gsteeps_err soils bos g w' AS AB A cS cB c (gw.ext hw) hl (hA.ext hw) h0)
  have h0' : (cbE soils bos g != 0) = true := by simp [h0]
  generalize chkGr soils bos = E1 at *
  generalize chkG g = E2 at *
  clear he hv h0 gw hA hl h30
  generalize cbE soils bos g = E at *
  go_enter Try.func7, Try.ntmps7
  go_upto_region 5 with (first | (go_at_call 14; with_reducible refine Calls.mono (awake_c _) ?_; rintro e wa ⟨rfl, hb⟩; have hc := hb.ccell; have hf := hb.frz; have hs := hb.sz; (try simp at hs); (try have t0 := hs (w.heap.size) (by first | assumption | omega)); (try have t1 := hs (w.heap.size + 1) (by first | assumption | omega)); (try have t2 := hs (w.heap.size + 1 + 1) (by first | assumption | omega)); (try have t3 := hs (w.heap.size) (by first | assumption | omega)); (try have t4 := hs (w.heap.size) (by first | assumption | omega)); (try have t5 := hs (w.heap.size) (by first | assumption | omega))) | (go_at_call 15; with_reducible refine Calls.mono (HL.out _ (by (repeat (first | with_reducible exact Ext.rfl' _ | with_reducible assumption | with_reducible refine Ext.al ?_ _ | with_reducible refine Ext.dr ?_ | with_reducible refine Ext.st ?_ (by simp) _ | with_reducible refine Ext.tr ?_ (by assumption))))) ?_; rintro e ws ⟨rfl, hb⟩; have hc := hb.ccell; have hf := hb.frz; have hs := hb.sz; (try simp at hs); (try have t0 := hs (w.heap.size) (by first | assumption | omega)); (try have t1 := hs (w.heap.size + 1) (by first | assumption | omega)); (try have t2 := hs (w.heap.size + 1 + 1) (by first | assumption | omega)); (try have t3 := hs (w.heap.size) (by first | assumption | omega)); (try have t4 := hs (w.heap.size) (by first | assumption | omega)); (try have t5 := hs (w.heap.size) (by first | assumption | omega))) | (go_at_call 30; with_reducible refine Calls.mono (HSM.out _) ?_; rintro e wm ⟨rfl, hb⟩; have hc := hb.ccell; have hf := hb.frz; have hs := hb.sz; (try simp at hs); (try have t0 := hs (w.heap.size) (by first | assumption | omega)); (try have t1 := hs (w.heap.size + 1) (by first | assumption | omega)); (try have t2 := hs (w.heap.size + 1 + 1) (by first | assumption | omega)); (try have t3 := hs (w.heap.size) (by first | assumption | omega)); (try have t4 := hs (w.heap.size) (by first | assumption | omega)); (try have t5 := hs (w.heap.size) (by first | assumption | omega))))
  refine wp_name (fun W0 hW0 => ?_)
  have hE0 : Ext w W0 := by rw [hW0]; (repeat (first | with_reducible exact Ext.rfl' _ | with_reducible assumption | with_reducible refine Ext.al ?_ _ | with_reducible refine Ext.dr ?_ | with_reducible refine Ext.st ?_ (by simp) _ | with_reducible refine Ext.tr ?_ (by assumption)))
  have r0 : W0.cell? ⟨w.heap.size, 0, none⟩ = some (.slice AS soils.length cS) := by rw [hW0]; simp [*, go_sem]
  have r1 : W0.cell? ⟨w.heap.size, 1, none⟩ = some (.slice AB bos.length cB) := by rw [hW0]; simp [*, go_sem]
  have kg : CellsAt W0 (w.heap.size + 1) 0 [.int .i64 g.X, .int .i64 g.Y, .int .i64 g.S, .int .i64 g.C, .int .i64 g.R, .slice A g.L.length c] := by rw [hW0]; refine cells_six ⟨?_, ?_, ?_, ?_, ?_, ?_⟩ <;> simp [*, go_sem]
  have p0 : W0.cell? ⟨w.heap.size + 1 + 1, 0, none⟩ = some (.int .i64 a) := by rw [hW0]; simp [*, go_sem]
  have p1 : W0.cell? ⟨w.heap.size + 1 + 1, 1, none⟩ = some (.int .i64 b) := by rw [hW0]; simp [*, go_sem]
  have hz2 : w.heap.size + 1 + 1 < W0.heap.size := by rw [hW0]; assumption
  have hz1 : w.heap.size + 1 < W0.heap.size := by omega
  have hz0 : w.heap.size < W0.heap.size := by omega
  clear hW0 hb hc hf hs t0 t1 t2 t3 t4 t5
  refine region_grow (by kernel_rfl) (by kernel_rfl) ?_
  repeat (first | go_big_quiet_step (first  | fail) | quiet_step (first  | fail))
  refine wpQuiet_nil ?_
  intro w1 hb
  have hc := hb.ccell
  have hf := hb.frz
  have hs := hb.sz
  (try simp at hs); (try have hs0 := hs w.heap.size (by omega)); (try have hs1 := hs (w.heap.size + 1) (by omega)); (try have hs2 := hs (w.heap.size + 1 + 1) (by omega)); (try have hs3 := hs (w.heap.size + 1 + 1 + 1) (by omega))
  (try simp only [IntWalk.i64_left])
  have hE01 : Ext W0 w1 := by assumption
  have hEw1 := hE0.tr hE01
  have r0 := (hE01.ccell _ 0 hz0).trans r0
  have r1 := (hE01.ccell _ 1 hz0).trans r1
  have kg := kg.ext hE01 hz1
  have hz2 := hE01.sz _ hz2
  have hz1 := hE01.sz _ hz1
  have hz0 := hE01.sz _ hz0
  clear p0 p1 hb hc hf hs hE01 hE0
  (try clear hs0); (try clear hs1); (try clear hs2); (try clear hs3)
  obtain ⟨m0, m1, m2, m3, m4, m5⟩ := kg.six
  go_upto_region 8 with (first | (go_at_call 37; with_reducible refine Calls.mono (HA.out _ (by (repeat (first | with_reducible exact Ext.rfl' _ | with_reducible assumption | with_reducible refine Ext.al ?_ _ | with_reducible refine Ext.dr ?_ | with_reducible refine Ext.st ?_ (by simp) _ | with_reducible refine Ext.tr ?_ (by assumption))))) ?_; rintro e wA ⟨rfl, hb⟩; have hc := hb.ccell; have hf := hb.frz; have hs := hb.sz; (try simp at hs); (try have t0 := hs (w.heap.size) (by first | assumption | omega)); (try have t1 := hs (w.heap.size + 1) (by first | assumption | omega)); (try have t2 := hs (w.heap.size + 1 + 1) (by first | assumption | omega)); (try have t3 := hs (w.heap.size) (by first | assumption | omega)); (try have t4 := hs (w.heap.size) (by first | assumption | omega)); (try have t5 := hs (w.heap.size) (by first | assumption | omega))) | (go_at_call 38; (with_reducible refine Calls.mono (HST.out _ (by (repeat (first | with_reducible exact Ext.rfl' _ | with_reducible assumption | with_reducible refine Ext.al ?_ _ | with_reducible refine Ext.dr ?_ | with_reducible refine Ext.st ?_ (by simp) _ | with_reducible refine Ext.tr ?_ (by assumption))))) ?_); rintro e w2 ⟨⟨Ac, cc, rfl, hRc⟩, hb⟩; have hc := hb.ccell; have hf := hb.frz; have hs := hb.sz; (try simp at hs); (try have t0 := hs (w.heap.size) (by first | assumption | omega)); (try have t1 := hs (w.heap.size + 1) (by first | assumption | omega)); (try have t2 := hs (w.heap.size + 1 + 1) (by first | assumption | omega)); (try have t3 := hs (w.heap.size) (by first | assumption | omega)); (try have t4 := hs (w.heap.size) (by first | assumption | omega)); (try have t5 := hs (w.heap.size) (by first | assumption | omega))))
  refine wp_name (fun W hW => ?_)
  have hEW : Ext w W := by rw [hW]; (repeat (first | with_reducible exact Ext.rfl' _ | with_reducible assumption | with_reducible refine Ext.al ?_ _ | with_reducible refine Ext.dr ?_ | with_reducible refine Ext.st ?_ (by simp) _ | with_reducible refine Ext.tr ?_ (by assumption)))
  have hRW := Lib.hid (show Row 3 encSt W Ac _ by rw [hW]; exact hRc)
  have r0 : W.cell? ⟨w.heap.size, 0, none⟩ = some (.slice AS soils.length cS) := by rw [hW]; simp [*, go_sem]
  have r1 : W.cell? ⟨w.heap.size, 1, none⟩ = some (.slice AB bos.length cB) := by rw [hW]; simp [*, go_sem]
  have kg : CellsAt W (w.heap.size + 1) 0 [.int .i64 g.X, .int .i64 g.Y, .int .i64 g.S, .int .i64 g.C, .int .i64 g.R, .slice A g.L.length c] := by rw [hW]; refine cells_six ⟨?_, ?_, ?_, ?_, ?_, ?_⟩ <;> simp [*, go_sem]
  have hz1 : w.heap.size + 1 < W.heap.size := by rw [hW]; assumption
  have hz0 : w.heap.size < W.heap.size := by omega
  clear m0 m1 m2 m3 m4 m5
  clear hW hRc hb hc hf hs t0 t1 t2 t3 t4 t5
  generalize w.heap.size + 1 = nh at *
  go_cut [13] (fun x wx => x = .int .i64 E ∧ Ext W wx)
  case first =>
    obtain ⟨m0, m1, m2, m3, m4, m5⟩ := kg.six
    go_region_held3 (fun w' => (∀ j : Nat, w'.cell? ⟨w.heap.size, j, none⟩ = W.cell? ⟨w.heap.size, j, none⟩) ∧ (∀ j : Nat, w'.cell? ⟨nh, j, none⟩ = W.cell? ⟨nh, j, none⟩) ∧ Ext W w') ((refine keepP6 ?_ hz0 hz1; (repeat (first | with_reducible exact Ext.rfl' _ | with_reducible assumption | with_reducible refine Ext.al ?_ _ | with_reducible refine Ext.dr ?_ | with_reducible refine Ext.st ?_ (by first | (simp; done) | ((try have h9 := Below.size hb2); (try have h8 := Below.size hb3); (try have h7 := Below.size hb4); (try simp at h9); (try simp at h8); (try simp at h7); (try simp); omega)) _ | with_reducible refine Ext.tr ?_ (by with_reducible assumption) | (with_reducible exact (by with_reducible assumption : _ ∧ _ ∧ Ext W _).2.2))))) (first | (go_at_call 19; (with_reducible refine Calls.mono (HQ.out _ (by (repeat (first | with_reducible exact Ext.rfl' _ | with_reducible assumption | with_reducible refine Ext.al ?_ _ | with_reducible refine Ext.dr ?_ | with_reducible refine Ext.st ?_ (by simp) _ | with_reducible refine Ext.tr ?_ (by assumption))))) ?_); rintro e w2 ⟨rfl, hb2⟩; have hc2 := hb2.ccell; have hf2 := hb2.frz; have hs2 := hb2.sz) | (go_at_call 33; (with_reducible refine Calls.mono (HRC.out _ (by (repeat (first | with_reducible exact Ext.rfl' _ | with_reducible assumption | with_reducible refine Ext.al ?_ _ | with_reducible refine Ext.dr ?_ | with_reducible refine Ext.st ?_ (by simp) _ | with_reducible refine Ext.tr ?_ (by assumption))))) ?_); rintro e w3 ⟨rfl, hb3⟩; have hc3 := hb3.ccell; have hf3 := hb3.frz; have hs3 := hb3.sz) | (go_at_call 32; (with_reducible refine Calls.mono (HF.out _ _ _ (Row.new' encZ_len _ _ _ _ _ (by simp) rfl)) ?_); rintro e w4 ⟨rfl, hb4⟩; have hc4 := hb4.ccell; have hf4 := hb4.frz; have hs4 := hb4.sz))
    all_goals
      rename_i hJ hK h1 h2 hH
      clear hH
      refine h2 _ _ (Met.intro (h1 _ _ ?_))
      (repeat apply Exists.intro)
      refine ⟨?_, rfl⟩
      exact ⟨rfl, by (repeat (first | with_reducible exact Ext.rfl' _ | with_reducible assumption | with_reducible refine Ext.al ?_ _ | with_reducible refine Ext.dr ?_ | with_reducible refine Ext.st ?_ (by simp) _ | with_reducible refine Ext.tr ?_ (by assumption)))⟩
  case rest =>
  obtain ⟨rfl, hx⟩ := hcut
  go_wp2
  go_ret
  exact ⟨rfl, hEW.tr hx⟩
set_option maxHeartbeats 64000000 in
set_option maxRecDepth 100000 in
theorem ss_ok (soils : List So) (bos : List Bo) (g : Gr) (a b : Int) (w : World) (AS AB : Option Addr) (cS cB : Nat) (gg : GrAny w soils AS bos AB) (hB : slB soils bos = true) (gw : GrW w soils AS bos AB) (A : Option Addr) (c : Nat) (hl : g.L.length ≤ maxLen) (h30 : g.L.length ≤ 30) (hA : Row 1 encZ w A g.L) (h0 : cbE soils bos g = 0) :
    Calls Try.prog 7 #[.agg #[.slice AS soils.length cS, .slice AB bos.length cB], .agg #[.int .i64 g.X, .int .i64 g.Y, .int .i64 g.S, .int .i64 g.C, .int .i64 g.R, .slice A g.L.length c], .agg #[.int .i64 a, .int .i64 b]] w fun e w' => e = .returned (.bool true) ∧ Ext w w' := by
  have HL := Lib.hid (fun w' (hw : Ext w w') => slight_c soils bos w' AS AB cS cB (gg.ext hw))
  have HSM := Lib.hid (fun w' => small6_c g w' A c hl)
  rw [hB] at HL
  rw [decide_eq_true h30] at HSM
  clear hB gg
  have HQ := Lib.hid (fun w' (hw : Ext w w') => rcheckGround_c soils bos w' AS AB cS cB (gw.ext hw))
  have HRC := Lib.hid (fun w' (hw : Ext w w') => rcheck_c g w' A c hl (hA.ext hw))
  obtain ⟨v, hg⟩ := cbE_ok h0
  have vg := chkG_ok hg
  have hgr := cbE_gr h0
  obtain ⟨cn, rn, e1, e2, e3, e4, e5, e6, e7, e8⟩ := vg.nat
  rw [hgr] at HQ
  rw [hg] at HRC
  have HF := Lib.hid (fun w' A2 c2 hr => by have h := first6_c [0, 0] w' A2 c2 (by simp) hr; rw [show [(0 : Int), 0].length = 2 from rfl, show firstE (gi [0, 0]) 2 = 0 from rfl] at h; exact h)
  have HA := Lib.hid (fun w' (hw : Ext w w') => gallowed_c soils bos g cn a b w' AS AB A cS cB c (gw.ext hw) hl (hA.ext hw) (fun _ => e1))
  have HST := Lib.hid (fun w' (hw : Ext w w') => gsteeps_c soils bos g cn w' AS AB A cS cB c (gw.ext hw) hl (hA.ext hw) h0 e1)
  have HRS := Lib.hid (fun w' (hw : Ext w w') => rsteeps_c soils bos g cn w' AS AB A cS cB c (gw.ext hw) v vg e1 (hA.ext hw))
  have HTA := Lib.hid (fun w' => there_c g a w' A c)
  have HTB := Lib.hid (fun w' => there_c g b w' A c)
  rw [show (decide (0 ≤ a) && decide (a < (g.L.length : Int))) = thB g a from rfl] at HTA
  rw [show (decide (0 ≤ b) && decide (b < (g.L.length : Int))) = thB g b from rfl] at HTB
  have HNB := Lib.hid (fun (p q : Nat) (hp : p ≤ 2000) (hq : q ≤ 2000) w' => neigh_c g cn p q w' A c e1 e3 e4 hp hq)
  have HRL := Lib.hid (fun p q (hp : p < g.L.length) (hq : q < g.L.length) w' (hw : Ext w w') => rallowed_c soils bos g cn p q w' AS AB A cS cB c (gw.ext hw) v vg e1 hp hq)
  have hAE : alE soils bos g cn a b = if (thB g a && thB g b) = false then 6 else if nbB cn a.toNat b.toNat = false then 3 else 0 := by unfold alE; rw [if_neg (by omega)]
  have hAV : alV soils bos g cn a b = if alE soils bos g cn a b = 0 then alw g.S (rL soils bos g cn) a.toNat b.toNat else 0 := rfl
  have HN2 : Hid (g.L.length ≤ 1024) := Lib.hid (by omega)
  rw [hAE] at hAV
  generalize alE soils bos g cn a b = E at *
  generalize alV soils bos g cn a b = V at *
  have HAE := Lib.hid hAE
  have HAV := Lib.hid hAV
  have hsl : (stL6 soils bos g cn).length ≤ 4000 := by
    have h1 := stN_len g.L (alw g.S (rL soils bos g cn)) (prsG g cn) (prsG g cn).length
    have h2 := prsN_len cn g.L.length (knB g.L) g.L.length
    unfold stL6
    unfold prsG at h1 ⊢
    omega
  generalize stL6 soils bos g cn = SL at *
  clear hAE hAV vg e1 e2 e3 e4 e5 e6 e7 e8 hg hgr v h0 gw hA hl h30
  go_enter Try.func7, Try.ntmps7
  go_upto_region 5 with (first | (go_at_call 14; with_reducible refine Calls.mono (awake_c _) ?_; rintro e wa ⟨rfl, hb⟩; have hc := hb.ccell; have hf := hb.frz; have hs := hb.sz; (try simp at hs); (try have t0 := hs (w.heap.size) (by first | assumption | omega)); (try have t1 := hs (w.heap.size + 1) (by first | assumption | omega)); (try have t2 := hs (w.heap.size + 1 + 1) (by first | assumption | omega)); (try have t3 := hs (w.heap.size) (by first | assumption | omega)); (try have t4 := hs (w.heap.size) (by first | assumption | omega)); (try have t5 := hs (w.heap.size) (by first | assumption | omega))) | (go_at_call 15; with_reducible refine Calls.mono (HL.out _ (by (repeat (first | with_reducible exact Ext.rfl' _ | with_reducible assumption | with_reducible refine Ext.al ?_ _ | with_reducible refine Ext.dr ?_ | with_reducible refine Ext.st ?_ (by simp) _ | with_reducible refine Ext.tr ?_ (by assumption))))) ?_; rintro e ws ⟨rfl, hb⟩; have hc := hb.ccell; have hf := hb.frz; have hs := hb.sz; (try simp at hs); (try have t0 := hs (w.heap.size) (by first | assumption | omega)); (try have t1 := hs (w.heap.size + 1) (by first | assumption | omega)); (try have t2 := hs (w.heap.size + 1 + 1) (by first | assumption | omega)); (try have t3 := hs (w.heap.size) (by first | assumption | omega)); (try have t4 := hs (w.heap.size) (by first | assumption | omega)); (try have t5 := hs (w.heap.size) (by first | assumption | omega))) | (go_at_call 30; with_reducible refine Calls.mono (HSM.out _) ?_; rintro e wm ⟨rfl, hb⟩; have hc := hb.ccell; have hf := hb.frz; have hs := hb.sz; (try simp at hs); (try have t0 := hs (w.heap.size) (by first | assumption | omega)); (try have t1 := hs (w.heap.size + 1) (by first | assumption | omega)); (try have t2 := hs (w.heap.size + 1 + 1) (by first | assumption | omega)); (try have t3 := hs (w.heap.size) (by first | assumption | omega)); (try have t4 := hs (w.heap.size) (by first | assumption | omega)); (try have t5 := hs (w.heap.size) (by first | assumption | omega))))
  refine wp_name (fun W0 hW0 => ?_)
  have hE0 : Ext w W0 := by rw [hW0]; (repeat (first | with_reducible exact Ext.rfl' _ | with_reducible assumption | with_reducible refine Ext.al ?_ _ | with_reducible refine Ext.dr ?_ | with_reducible refine Ext.st ?_ (by simp) _ | with_reducible refine Ext.tr ?_ (by assumption)))
  have r0 : W0.cell? ⟨w.heap.size, 0, none⟩ = some (.slice AS soils.length cS) := by rw [hW0]; simp [*, go_sem]
  have r1 : W0.cell? ⟨w.heap.size, 1, none⟩ = some (.slice AB bos.length cB) := by rw [hW0]; simp [*, go_sem]
  have kg : CellsAt W0 (w.heap.size + 1) 0 [.int .i64 g.X, .int .i64 g.Y, .int .i64 g.S, .int .i64 g.C, .int .i64 g.R, .slice A g.L.length c] := by rw [hW0]; refine cells_six ⟨?_, ?_, ?_, ?_, ?_, ?_⟩ <;> simp [*, go_sem]
  have p0 : W0.cell? ⟨w.heap.size + 1 + 1, 0, none⟩ = some (.int .i64 a) := by rw [hW0]; simp [*, go_sem]
  have p1 : W0.cell? ⟨w.heap.size + 1 + 1, 1, none⟩ = some (.int .i64 b) := by rw [hW0]; simp [*, go_sem]
  have hz2 : w.heap.size + 1 + 1 < W0.heap.size := by rw [hW0]; assumption
  have hz1 : w.heap.size + 1 < W0.heap.size := by omega
  have hz0 : w.heap.size < W0.heap.size := by omega
  clear hW0 hb hc hf hs t0 t1 t2 t3 t4 t5
  refine region_grow (by kernel_rfl) (by kernel_rfl) ?_
  repeat (first | go_big_quiet_step (first  | fail) | quiet_step (first  | fail))
  refine wpQuiet_nil ?_
  intro w1 hb
  have hc := hb.ccell
  have hf := hb.frz
  have hs := hb.sz
  (try simp at hs); (try have hs0 := hs w.heap.size (by omega)); (try have hs1 := hs (w.heap.size + 1) (by omega)); (try have hs2 := hs (w.heap.size + 1 + 1) (by omega)); (try have hs3 := hs (w.heap.size + 1 + 1 + 1) (by omega))
  (try simp only [IntWalk.i64_left])
  have hE01 : Ext W0 w1 := by assumption
  have hEw1 := hE0.tr hE01
  have r0 := (hE01.ccell _ 0 hz0).trans r0
  have r1 := (hE01.ccell _ 1 hz0).trans r1
  have kg := kg.ext hE01 hz1
  have hz2 := hE01.sz _ hz2
  have hz1 := hE01.sz _ hz1
  have hz0 := hE01.sz _ hz0
  clear p0 p1 hb hc hf hs hE01 hE0
  (try clear hs0); (try clear hs1); (try clear hs2); (try clear hs3)
  obtain ⟨m0, m1, m2, m3, m4, m5⟩ := kg.six
  go_upto_region 8 with (first | (go_at_call 37; with_reducible refine Calls.mono (HA.out _ (by (repeat (first | with_reducible exact Ext.rfl' _ | with_reducible assumption | with_reducible refine Ext.al ?_ _ | with_reducible refine Ext.dr ?_ | with_reducible refine Ext.st ?_ (by simp) _ | with_reducible refine Ext.tr ?_ (by assumption))))) ?_; rintro e wA ⟨rfl, hb⟩; have hc := hb.ccell; have hf := hb.frz; have hs := hb.sz; (try simp at hs); (try have t0 := hs (w.heap.size) (by first | assumption | omega)); (try have t1 := hs (w.heap.size + 1) (by first | assumption | omega)); (try have t2 := hs (w.heap.size + 1 + 1) (by first | assumption | omega)); (try have t3 := hs (w.heap.size) (by first | assumption | omega)); (try have t4 := hs (w.heap.size) (by first | assumption | omega)); (try have t5 := hs (w.heap.size) (by first | assumption | omega))) | (go_at_call 38; (with_reducible refine Calls.mono (HST.out _ (by (repeat (first | with_reducible exact Ext.rfl' _ | with_reducible assumption | with_reducible refine Ext.al ?_ _ | with_reducible refine Ext.dr ?_ | with_reducible refine Ext.st ?_ (by simp) _ | with_reducible refine Ext.tr ?_ (by assumption))))) ?_); rintro e w2 ⟨⟨Ac, cc, rfl, hRc⟩, hb⟩; have hc := hb.ccell; have hf := hb.frz; have hs := hb.sz; (try simp at hs); (try have t0 := hs (w.heap.size) (by first | assumption | omega)); (try have t1 := hs (w.heap.size + 1) (by first | assumption | omega)); (try have t2 := hs (w.heap.size + 1 + 1) (by first | assumption | omega)); (try have t3 := hs (w.heap.size) (by first | assumption | omega)); (try have t4 := hs (w.heap.size) (by first | assumption | omega)); (try have t5 := hs (w.heap.size) (by first | assumption | omega))))
  refine wp_name (fun W hW => ?_)
  have hEW : Ext w W := by rw [hW]; (repeat (first | with_reducible exact Ext.rfl' _ | with_reducible assumption | with_reducible refine Ext.al ?_ _ | with_reducible refine Ext.dr ?_ | with_reducible refine Ext.st ?_ (by simp) _ | with_reducible refine Ext.tr ?_ (by assumption)))
  have hRW := Lib.hid (show Row 3 encSt W Ac SL by rw [hW]; exact hRc)
  have r0 : W.cell? ⟨w.heap.size, 0, none⟩ = some (.slice AS soils.length cS) := by rw [hW]; simp [*, go_sem]
  have r1 : W.cell? ⟨w.heap.size, 1, none⟩ = some (.slice AB bos.length cB) := by rw [hW]; simp [*, go_sem]
  have kg : CellsAt W (w.heap.size + 1) 0 [.int .i64 g.X, .int .i64 g.Y, .int .i64 g.S, .int .i64 g.C, .int .i64 g.R, .slice A g.L.length c] := by rw [hW]; refine cells_six ⟨?_, ?_, ?_, ?_, ?_, ?_⟩ <;> simp [*, go_sem]
  have hz1 : w.heap.size + 1 < W.heap.size := by rw [hW]; assumption
  have hz0 : w.heap.size < W.heap.size := by omega
  clear m0 m1 m2 m3 m4 m5
  clear hW hRc hb hc hf hs t0 t1 t2 t3 t4 t5 HA HST HSM HL
  generalize w.heap.size + 1 = nh at *
  go_cut [13] (fun x wx => x = .int .i64 0 ∧ Ext W wx)
  case first =>
    clear HTA HTB HNB HRL HRS HAE HAV
    obtain ⟨m0, m1, m2, m3, m4, m5⟩ := kg.six
    go_region_held3 (fun w' => (∀ j : Nat, w'.cell? ⟨w.heap.size, j, none⟩ = W.cell? ⟨w.heap.size, j, none⟩) ∧ (∀ j : Nat, w'.cell? ⟨nh, j, none⟩ = W.cell? ⟨nh, j, none⟩) ∧ Ext W w') ((refine keepP6 ?_ hz0 hz1; (repeat (first | with_reducible exact Ext.rfl' _ | with_reducible assumption | with_reducible refine Ext.al ?_ _ | with_reducible refine Ext.dr ?_ | with_reducible refine Ext.st ?_ (by first | (simp; done) | ((try have h9 := Below.size hb2); (try have h8 := Below.size hb3); (try have h7 := Below.size hb4); (try simp at h9); (try simp at h8); (try simp at h7); (try simp); omega)) _ | with_reducible refine Ext.tr ?_ (by with_reducible assumption) | (with_reducible exact (by with_reducible assumption : _ ∧ _ ∧ Ext W _).2.2))))) (first | (go_at_call 19; (with_reducible refine Calls.mono (HQ.out _ (by (repeat (first | with_reducible exact Ext.rfl' _ | with_reducible assumption | with_reducible refine Ext.al ?_ _ | with_reducible refine Ext.dr ?_ | with_reducible refine Ext.st ?_ (by simp) _ | with_reducible refine Ext.tr ?_ (by assumption))))) ?_); rintro e w2 ⟨rfl, hb2⟩; have hc2 := hb2.ccell; have hf2 := hb2.frz; have hs2 := hb2.sz) | (go_at_call 33; (with_reducible refine Calls.mono (HRC.out _ (by (repeat (first | with_reducible exact Ext.rfl' _ | with_reducible assumption | with_reducible refine Ext.al ?_ _ | with_reducible refine Ext.dr ?_ | with_reducible refine Ext.st ?_ (by simp) _ | with_reducible refine Ext.tr ?_ (by assumption))))) ?_); rintro e w3 ⟨rfl, hb3⟩; have hc3 := hb3.ccell; have hf3 := hb3.frz; have hs3 := hb3.sz) | (go_at_call 32; (with_reducible refine Calls.mono (HF.out _ _ _ (Row.new' encZ_len _ _ _ _ _ (by simp) rfl)) ?_); rintro e w4 ⟨rfl, hb4⟩; have hc4 := hb4.ccell; have hf4 := hb4.frz; have hs4 := hb4.sz))
    all_goals
      rename_i hJ hK h1 h2 hH
      clear hH
      refine h2 _ _ (Met.intro (h1 _ _ ?_))
      (repeat apply Exists.intro)
      refine ⟨?_, rfl⟩
      exact ⟨rfl, by (repeat (first | with_reducible exact Ext.rfl' _ | with_reducible assumption | with_reducible refine Ext.al ?_ _ | with_reducible refine Ext.dr ?_ | with_reducible refine Ext.st ?_ (by simp) _ | with_reducible refine Ext.tr ?_ (by assumption)))⟩
  case rest =>
  obtain ⟨rfl, hx⟩ := hcut
  have hEc := hEW.tr hx
  have kgc := kg.ext hx hz1
  obtain ⟨m0, m1, m2, m3, m4, m5⟩ := kgc.six
  have q0 := (hx.ccell _ 0 hz0).trans r0
  have q1 := (hx.ccell _ 1 hz0).trans r1
  have x0 := hx.sz _ hz0
  have x1 := hx.sz _ hz1
  go_wp2_with (first | (go_at_call 39; (with_reducible refine Calls.mono (HRS.out _ (by (repeat (first | with_reducible exact Ext.rfl' _ | with_reducible assumption | with_reducible refine Ext.al ?_ _ | with_reducible refine Ext.dr ?_ | with_reducible refine Ext.st ?_ (by simp) _ | with_reducible refine Ext.tr ?_ (by assumption))))) ?_); rintro e w5 ⟨⟨A5, c5, rfl, hR5⟩, hb⟩; have hc := hb.ccell; have hf := hb.frz; have hs := hb.sz; (try simp at hs); (try have t0 := hs (w.heap.size) (by first | assumption | omega)); (try have t1 := hs (nh) (by first | assumption | omega)); (try have t2 := hs (w.heap.size) (by first | assumption | omega)); (try have t3 := hs (w.heap.size) (by first | assumption | omega)); (try have t4 := hs (w.heap.size) (by first | assumption | omega)); (try have t5 := hs (w.heap.size) (by first | assumption | omega))))
  have hE5 : Ext wc w5 := by assumption
  have hE55 := hx.tr hE5
  have hR5 := Lib.hid hR5
  have hRc5 := Lib.hid (hRW.out.ext hE55)
  have hE5w := hEW.tr hE55
  have r0 := (hE55.ccell _ 0 hz0).trans r0
  have r1 := (hE55.ccell _ 1 hz0).trans r1
  have kg := kg.ext hE55 hz1
  have hz0 := hE55.sz _ hz0
  have hz1 := hE55.sz _ hz1
  clear m0 m1 m2 m3 m4 m5 q0 q1 x0 x1 kgc hb hc hf hs t0 t1 t2 t3 t4 t5 hE5 hE55 hEc hx hEW hRW HRS HF HQ HRC
  go_loopw [15] (fun i wr => Ext w5 wr ∧ ∃ k : Nat, k ≤ SL.length ∧ i = .int .i64 k) (fun i _ => SL.length - (intOf i).toNat)
  case atStart => exact ⟨Ext.rfl' _, 0, Nat.zero_le _, rfl⟩
  case round =>
    obtain ⟨hE, k, hk, rfl⟩ := hrel
    have hEr := hE5w.tr hE
    by_cases hlt : k < SL.length
    · obtain ⟨bP, oP, rfl, hbP, hcP⟩ := hRc5.out.st hlt
      obtain ⟨bR, oR, rfl, hbR, hcR⟩ := hR5.out.st hlt
      obtain ⟨x0, x1, x2⟩ := hcP _ hE
      obtain ⟨y0, y1, y2⟩ := hcR _ hE
      have zp := hE.sz _ hbP
      have zr := hE.sz _ hbR
      have hki : (k : Int) < (SL.length : Int) := by omega
      clear hcP hcR
      generalize el SL k = u at *
      obtain ⟨uh, ul, uo⟩ := u
      dsimp only at *
      go_upto_region 17 with fail
      refine region_grow (by kernel_rfl) (by kernel_rfl) ?_
      repeat (first | go_big_quiet_step (first  | fail) | quiet_step (first  | fail))
      refine wpQuiet_nil ?_
      intro w1 hb
      have hc := hb.ccell
      have hf := hb.frz
      have hs := hb.sz
      (try simp at hs); (try have hs0 := hs w.heap.size (by omega)); (try have hs1 := hs (w.heap.size + 1) (by omega)); (try have hs2 := hs (w.heap.size + 1 + 1) (by omega)); (try have hs3 := hs (w.heap.size + 1 + 1 + 1) (by omega))
      (try simp only [IntWalk.i64_left])
      have hE1 : Ext wr w1 := by assumption
      go_wp2
      exact ⟨⟨hE.tr hE1, k + 1, by omega, by go_num⟩, by simp [intOf]; omega⟩
    · clear hk
      obtain ⟨m0, m1, m2, m3, m4, m5⟩ := (kg.ext hE hz1).six
      have q0 := (hE.ccell _ 0 hz0).trans r0
      have q1 := (hE.ccell _ 1 hz0).trans r1
      have x0 := hE.sz _ hz0
      have x1 := hE.sz _ hz1
      cases hta : thB g a
      · have hE6 := HAE.out
        have hV6 := HAV.out
        rw [hta] at hE6 hV6 HTA
        simp at hE6 hV6
        subst hE6 hV6
        clear hta
        go_wp2_with (first | (go_at_call 40; with_reducible refine Calls.mono (HTA.out _) ?_; rintro e w6 ⟨rfl, hb⟩; have hc := hb.ccell; have hf := hb.frz; have hs := hb.sz; (try simp at hs); (try have t0 := hs (w.heap.size) (by first | assumption | omega)); (try have t1 := hs (nh) (by first | assumption | omega)); (try have t2 := hs (w.heap.size) (by first | assumption | omega)); (try have t3 := hs (w.heap.size) (by first | assumption | omega)); (try have t4 := hs (w.heap.size) (by first | assumption | omega)); (try have t5 := hs (w.heap.size) (by first | assumption | omega))))
        go_ret
        exact ⟨rfl, hEr.tr (by (repeat (first | with_reducible exact Ext.rfl' _ | with_reducible assumption | with_reducible refine Ext.al ?_ _ | with_reducible refine Ext.dr ?_ | with_reducible refine Ext.st ?_ (by simp) _ | with_reducible refine Ext.tr ?_ (by assumption))))⟩
      cases htb : thB g b
      · have hE6 := HAE.out
        have hV6 := HAV.out
        rw [htb] at hE6 hV6 HTB
        rw [hta] at HTA
        simp at hE6 hV6
        subst hE6 hV6
        clear hta htb
        go_wp2_with (first | (go_at_call 40; with_reducible refine Calls.mono (HTA.out _) ?_; rintro e w6 ⟨rfl, hb⟩; have hc := hb.ccell; have hf := hb.frz; have hs := hb.sz; (try simp at hs); (try have t0 := hs (w.heap.size) (by first | assumption | omega)); (try have t1 := hs (nh) (by first | assumption | omega)); (try have t2 := hs (w.heap.size) (by first | assumption | omega)); (try have t3 := hs (w.heap.size) (by first | assumption | omega)); (try have t4 := hs (w.heap.size) (by first | assumption | omega)); (try have t5 := hs (w.heap.size) (by first | assumption | omega))) | (go_at_call 40; with_reducible refine Calls.mono (HTB.out _) ?_; rintro e w7 ⟨rfl, hb⟩; have hc := hb.ccell; have hf := hb.frz; have hs := hb.sz; (try simp at hs); (try have t0 := hs (w.heap.size) (by first | assumption | omega)); (try have t1 := hs (nh) (by first | assumption | omega)); (try have t2 := hs (w.heap.size) (by first | assumption | omega)); (try have t3 := hs (w.heap.size) (by first | assumption | omega)); (try have t4 := hs (w.heap.size) (by first | assumption | omega)); (try have t5 := hs (w.heap.size) (by first | assumption | omega))))
        go_ret
        exact ⟨rfl, hEr.tr (by (repeat (first | with_reducible exact Ext.rfl' _ | with_reducible assumption | with_reducible refine Ext.al ?_ _ | with_reducible refine Ext.dr ?_ | with_reducible refine Ext.st ?_ (by simp) _ | with_reducible refine Ext.tr ?_ (by assumption))))⟩
      have hE6 := HAE.out
      have hV6 := HAV.out
      rw [hta, htb] at hE6 hV6
      rw [hta] at HTA
      rw [htb] at HTB
      unfold thB at hta htb
      rw [Bool.and_eq_true, decide_eq_true_eq, decide_eq_true_eq] at hta htb
      obtain ⟨p, hpa⟩ : ∃ p : Nat, a = p := ⟨a.toNat, by omega⟩
      obtain ⟨q, hqb⟩ : ∃ q : Nat, b = q := ⟨b.toNat, by omega⟩
      subst hpa hqb
      rw [Int.toNat_natCast, Int.toNat_natCast] at hE6 hV6
      have hp : p < g.L.length := by omega
      have hq : q < g.L.length := by omega
      have HNQ := Lib.hid (fun w' => HNB.out p q (by have := HN2.out; omega) (by have := HN2.out; omega) w')
      have HRQ := Lib.hid (fun w' (hw : Ext wr w') => HRL.out p q hp hq w' (hEr.tr hw))
      clear HNB HRL hta htb
      cases hnb : nbB cn p q
      · rw [hnb] at hE6 hV6 HNQ
        simp at hE6 hV6
        subst hE6 hV6
        clear hnb
        go_wp2_with (first | (go_at_call 40; with_reducible refine Calls.mono (HTA.out _) ?_; rintro e w6 ⟨rfl, hb⟩; have hc := hb.ccell; have hf := hb.frz; have hs := hb.sz; (try simp at hs); (try have t0 := hs (w.heap.size) (by first | assumption | omega)); (try have t1 := hs (nh) (by first | assumption | omega)); (try have t2 := hs (w.heap.size) (by first | assumption | omega)); (try have t3 := hs (w.heap.size) (by first | assumption | omega)); (try have t4 := hs (w.heap.size) (by first | assumption | omega)); (try have t5 := hs (w.heap.size) (by first | assumption | omega))) | (go_at_call 40; with_reducible refine Calls.mono (HTB.out _) ?_; rintro e w7 ⟨rfl, hb⟩; have hc := hb.ccell; have hf := hb.frz; have hs := hb.sz; (try simp at hs); (try have t0 := hs (w.heap.size) (by first | assumption | omega)); (try have t1 := hs (nh) (by first | assumption | omega)); (try have t2 := hs (w.heap.size) (by first | assumption | omega)); (try have t3 := hs (w.heap.size) (by first | assumption | omega)); (try have t4 := hs (w.heap.size) (by first | assumption | omega)); (try have t5 := hs (w.heap.size) (by first | assumption | omega))) | (go_at_call 41; with_reducible refine Calls.mono (HNQ.out _) ?_; rintro e w8 ⟨rfl, hb⟩; have hc := hb.ccell; have hf := hb.frz; have hs := hb.sz; (try simp at hs); (try have t0 := hs (w.heap.size) (by first | assumption | omega)); (try have t1 := hs (nh) (by first | assumption | omega)); (try have t2 := hs (w.heap.size) (by first | assumption | omega)); (try have t3 := hs (w.heap.size) (by first | assumption | omega)); (try have t4 := hs (w.heap.size) (by first | assumption | omega)); (try have t5 := hs (w.heap.size) (by first | assumption | omega))))
        go_ret
        exact ⟨rfl, hEr.tr (by (repeat (first | with_reducible exact Ext.rfl' _ | with_reducible assumption | with_reducible refine Ext.al ?_ _ | with_reducible refine Ext.dr ?_ | with_reducible refine Ext.st ?_ (by simp) _ | with_reducible refine Ext.tr ?_ (by assumption))))⟩
      · rw [hnb] at hE6 hV6 HNQ
        simp at hE6 hV6
        rw [← hV6] at HRQ
        subst hE6
        clear hnb hV6
        go_wp2_with (first | (go_at_call 40; with_reducible refine Calls.mono (HTA.out _) ?_; rintro e w6 ⟨rfl, hb⟩; have hc := hb.ccell; have hf := hb.frz; have hs := hb.sz; (try simp at hs); (try have t0 := hs (w.heap.size) (by first | assumption | omega)); (try have t1 := hs (nh) (by first | assumption | omega)); (try have t2 := hs (w.heap.size) (by first | assumption | omega)); (try have t3 := hs (w.heap.size) (by first | assumption | omega)); (try have t4 := hs (w.heap.size) (by first | assumption | omega)); (try have t5 := hs (w.heap.size) (by first | assumption | omega))) | (go_at_call 40; with_reducible refine Calls.mono (HTB.out _) ?_; rintro e w7 ⟨rfl, hb⟩; have hc := hb.ccell; have hf := hb.frz; have hs := hb.sz; (try simp at hs); (try have t0 := hs (w.heap.size) (by first | assumption | omega)); (try have t1 := hs (nh) (by first | assumption | omega)); (try have t2 := hs (w.heap.size) (by first | assumption | omega)); (try have t3 := hs (w.heap.size) (by first | assumption | omega)); (try have t4 := hs (w.heap.size) (by first | assumption | omega)); (try have t5 := hs (w.heap.size) (by first | assumption | omega))) | (go_at_call 41; with_reducible refine Calls.mono (HNQ.out _) ?_; rintro e w8 ⟨rfl, hb⟩; have hc := hb.ccell; have hf := hb.frz; have hs := hb.sz; (try simp at hs); (try have t0 := hs (w.heap.size) (by first | assumption | omega)); (try have t1 := hs (nh) (by first | assumption | omega)); (try have t2 := hs (w.heap.size) (by first | assumption | omega)); (try have t3 := hs (w.heap.size) (by first | assumption | omega)); (try have t4 := hs (w.heap.size) (by first | assumption | omega)); (try have t5 := hs (w.heap.size) (by first | assumption | omega))) | (go_at_call 42; with_reducible refine Calls.mono (HRQ.out _ (by (repeat (first | with_reducible exact Ext.rfl' _ | with_reducible assumption | with_reducible refine Ext.al ?_ _ | with_reducible refine Ext.dr ?_ | with_reducible refine Ext.st ?_ (by simp) _ | with_reducible refine Ext.tr ?_ (by assumption))))) ?_; rintro e w9 ⟨rfl, hb⟩; have hc := hb.ccell; have hf := hb.frz; have hs := hb.sz; (try simp at hs); (try have t0 := hs (w.heap.size) (by first | assumption | omega)); (try have t1 := hs (nh) (by first | assumption | omega)); (try have t2 := hs (w.heap.size) (by first | assumption | omega)); (try have t3 := hs (w.heap.size) (by first | assumption | omega)); (try have t4 := hs (w.heap.size) (by first | assumption | omega)); (try have t5 := hs (w.heap.size) (by first | assumption | omega))))
        go_ret
        exact ⟨ret_bool (by simp), hEr.tr (by (repeat (first | with_reducible exact Ext.rfl' _ | with_reducible assumption | with_reducible refine Ext.al ?_ _ | with_reducible refine Ext.dr ?_ | with_reducible refine Ext.st ?_ (by simp) _ | with_reducible refine Ext.tr ?_ (by assumption))))⟩
set_option maxHeartbeats 64000000 in
set_option maxRecDepth 100000 in
theorem ss_walk (soils : List So) (bos : List Bo) (g : Gr) (a b : Int) (w : World) (AS AB : Option Addr) (cS cB : Nat) (gg : GrAny w soils AS bos AB) (A : Option Addr) (c : Nat) (hl : g.L.length ≤ maxLen) (hA : Row 1 encZ w A g.L) :
    Calls Try.prog 7 #[.agg #[.slice AS soils.length cS, .slice AB bos.length cB], .agg #[.int .i64 g.X, .int .i64 g.Y, .int .i64 g.S, .int .i64 g.C, .int .i64 g.R, .slice A g.L.length c], .agg #[.int .i64 a, .int .i64 b]] w fun e w' => e = .returned (.bool true) ∧ Ext w w' := by
  have HL := Lib.hid (fun w' (hw : Ext w w') => slight_c soils bos w' AS AB cS cB (gg.ext hw))
  have HSM := Lib.hid (fun w' => small6_c g w' A c hl)
  cases hB : slB soils bos
  · rw [hB] at HL
    clear hB gg hl hA HSM
    go_enter Try.func7, Try.ntmps7
    go_wp2_with (first | (go_at_call 14; with_reducible refine Calls.mono (awake_c _) ?_; rintro e wa ⟨rfl, hb⟩; have hc := hb.ccell; have hf := hb.frz; have hs := hb.sz; (try simp at hs); (try have t0 := hs (w.heap.size) (by first | assumption | omega)); (try have t1 := hs (w.heap.size + 1) (by first | assumption | omega)); (try have t2 := hs (w.heap.size + 1 + 1) (by first | assumption | omega)); (try have t3 := hs (w.heap.size) (by first | assumption | omega)); (try have t4 := hs (w.heap.size) (by first | assumption | omega)); (try have t5 := hs (w.heap.size) (by first | assumption | omega))) | (go_at_call 15; with_reducible refine Calls.mono (HL.out _ (by (repeat (first | with_reducible exact Ext.rfl' _ | with_reducible assumption | with_reducible refine Ext.al ?_ _ | with_reducible refine Ext.dr ?_ | with_reducible refine Ext.st ?_ (by simp) _ | with_reducible refine Ext.tr ?_ (by assumption))))) ?_; rintro e ws ⟨rfl, hb⟩; have hc := hb.ccell; have hf := hb.frz; have hs := hb.sz; (try simp at hs); (try have t0 := hs (w.heap.size) (by first | assumption | omega)); (try have t1 := hs (w.heap.size + 1) (by first | assumption | omega)); (try have t2 := hs (w.heap.size + 1 + 1) (by first | assumption | omega)); (try have t3 := hs (w.heap.size) (by first | assumption | omega)); (try have t4 := hs (w.heap.size) (by first | assumption | omega)); (try have t5 := hs (w.heap.size) (by first | assumption | omega))))
    go_ret
    exact ⟨rfl, by (repeat (first | with_reducible exact Ext.rfl' _ | with_reducible assumption | with_reducible refine Ext.al ?_ _ | with_reducible refine Ext.dr ?_ | with_reducible refine Ext.st ?_ (by simp) _ | with_reducible refine Ext.tr ?_ (by assumption)))⟩
  have gw := gg.small (slB_small hB)
  by_cases h30 : g.L.length ≤ 30
  case neg =>
    rw [hB] at HL
    rw [decide_eq_false h30] at HSM
    clear h30 gw hl hA hB gg
    go_enter Try.func7, Try.ntmps7
    go_wp2_with (first | (go_at_call 14; with_reducible refine Calls.mono (awake_c _) ?_; rintro e wa ⟨rfl, hb⟩; have hc := hb.ccell; have hf := hb.frz; have hs := hb.sz; (try simp at hs); (try have t0 := hs (w.heap.size) (by first | assumption | omega)); (try have t1 := hs (w.heap.size + 1) (by first | assumption | omega)); (try have t2 := hs (w.heap.size + 1 + 1) (by first | assumption | omega)); (try have t3 := hs (w.heap.size) (by first | assumption | omega)); (try have t4 := hs (w.heap.size) (by first | assumption | omega)); (try have t5 := hs (w.heap.size) (by first | assumption | omega))) | (go_at_call 15; with_reducible refine Calls.mono (HL.out _ (by (repeat (first | with_reducible exact Ext.rfl' _ | with_reducible assumption | with_reducible refine Ext.al ?_ _ | with_reducible refine Ext.dr ?_ | with_reducible refine Ext.st ?_ (by simp) _ | with_reducible refine Ext.tr ?_ (by assumption))))) ?_; rintro e ws ⟨rfl, hb⟩; have hc := hb.ccell; have hf := hb.frz; have hs := hb.sz; (try simp at hs); (try have t0 := hs (w.heap.size) (by first | assumption | omega)); (try have t1 := hs (w.heap.size + 1) (by first | assumption | omega)); (try have t2 := hs (w.heap.size + 1 + 1) (by first | assumption | omega)); (try have t3 := hs (w.heap.size) (by first | assumption | omega)); (try have t4 := hs (w.heap.size) (by first | assumption | omega)); (try have t5 := hs (w.heap.size) (by first | assumption | omega))) | (go_at_call 30; with_reducible refine Calls.mono (HSM.out _) ?_; rintro e wm ⟨rfl, hb⟩; have hc := hb.ccell; have hf := hb.frz; have hs := hb.sz; (try simp at hs); (try have t0 := hs (w.heap.size) (by first | assumption | omega)); (try have t1 := hs (w.heap.size + 1) (by first | assumption | omega)); (try have t2 := hs (w.heap.size + 1 + 1) (by first | assumption | omega)); (try have t3 := hs (w.heap.size) (by first | assumption | omega)); (try have t4 := hs (w.heap.size) (by first | assumption | omega)); (try have t5 := hs (w.heap.size) (by first | assumption | omega))))
    go_ret
    exact ⟨rfl, by (repeat (first | with_reducible exact Ext.rfl' _ | with_reducible assumption | with_reducible refine Ext.al ?_ _ | with_reducible refine Ext.dr ?_ | with_reducible refine Ext.st ?_ (by simp) _ | with_reducible refine Ext.tr ?_ (by assumption)))⟩
  by_cases h0 : cbE soils bos g = 0
  · exact ss_ok soils bos g a b w AS AB cS cB gg hB gw A c hl h30 hA h0
  · exact ss_err soils bos g a b w AS AB cS cB gg hB gw A c hl h30 hA h0
end Go.Proofs.Ytohdplnlbnoojaa

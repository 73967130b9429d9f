/- SoilProves: the law returns true for every input. Conditions: none. -/
import Derived.Test.YtdbabihjnhnnfaaGreatSprw
import Derived.Test.YtdbabihjnhnnfaaGreatSrefg
import Derived.Test.YtdbabihjnhnnfaaGreatSslight
import Derived.Test.YtdbabihjnhnnfaaGreatSawake
import Derived.Test.YtdbabihjnhnnfaaGreatSstc
namespace Go.Proofs.YtdbabihjnhnnfaaGreat
open Go Go.RowKit Go.IntWalk

def shE (g h : Gr) : Int := if sameB g h = true then 0 else 10
set_option maxHeartbeats 2000000 in
theorem shape_c (g h : Gr) (w : World) (A B : Option Addr) (c d : Nat) :
    Calls Tryz.prog 11 #[.agg #[.int .i64 g.X, .int .i64 g.Y, .int .i64 g.S, .int .i64 g.C, .int .i64 g.R, .slice A g.L.length c], .agg #[.int .i64 h.X, .int .i64 h.Y, .int .i64 h.S, .int .i64 h.C, .int .i64 h.R, .slice B h.L.length d]] w fun e w' => e = .returned (.int .i64 (shE g h)) ∧ Ext w w' := by
  have HA := Lib.hid (fun w' => alike_c g h w' A B c d g.L.length h.L.length)
  unfold shE
  cases hs : sameB g h
  · rw [hs] at HA
    clear hs
    go_enter Tryz.func11, Tryz.ntmps11
    go_wp2_with (first | (go_at_call 28; with_reducible refine Calls.mono (HA.out _) ?_; rintro e w1 ⟨rfl, hb⟩; have hc := hb.ccell; have hf := hb.frz; have hs := hb.sz; (try simp at hs); (try have hs0 := hs w.heap.size (by omega)); (try have hs1 := hs (w.heap.size + 1) (by omega)); (try have hs2 := hs (w.heap.size + 1 + 1) (by omega)); (try have hs3 := hs (w.heap.size + 1 + 1 + 1) (by omega))))
    go_ret
    exact ⟨rfl, by (repeat (first | with_reducible exact Ext.rfl' _ | with_reducible assumption | with_reducible refine Ext.al ?_ _ | with_reducible refine Ext.dr ?_ | with_reducible refine Ext.st ?_ (by simp) _ | with_reducible refine Ext.tr ?_ (by assumption)))⟩
  · rw [hs] at HA
    clear hs
    go_enter Tryz.func11, Tryz.ntmps11
    go_wp2_with (first | (go_at_call 28; with_reducible refine Calls.mono (HA.out _) ?_; rintro e w1 ⟨rfl, hb⟩; have hc := hb.ccell; have hf := hb.frz; have hs := hb.sz; (try simp at hs); (try have hs0 := hs w.heap.size (by omega)); (try have hs1 := hs (w.heap.size + 1) (by omega)); (try have hs2 := hs (w.heap.size + 1 + 1) (by omega)); (try have hs3 := hs (w.heap.size + 1 + 1 + 1) (by omega))))
    go_ret
    exact ⟨rfl, by (repeat (first | with_reducible exact Ext.rfl' _ | with_reducible assumption | with_reducible refine Ext.al ?_ _ | with_reducible refine Ext.dr ?_ | with_reducible refine Ext.st ?_ (by simp) _ | with_reducible refine Ext.tr ?_ (by assumption)))⟩
theorem first4 (a b c d : Int) : firstE (gi [a, b, c, d]) 4 = if a ≠ 0 then a else if b ≠ 0 then b else if c ≠ 0 then c else d := by
  have h0 : gi [a, b, c, d] 0 = a := rfl
  have h1 : gi [a, b, c, d] 1 = b := rfl
  have h2 : gi [a, b, c, d] 2 = c := rfl
  have h3 : gi [a, b, c, d] 3 = d := rfl
  simp only [firstE, h0, h1, h2, h3]
  by_cases ha : a = 0 <;> by_cases hb : b = 0 <;> by_cases hc : c = 0 <;> simp [*]
theorem first_cb4 (soils : List So) (bos : List Bo) (g h : Gr) : firstE (gi [chkGr soils bos, chkG g, chkG h, shE g h]) 4 = cb2E soils bos g h := by
  rw [first4]
  unfold cb2E twoE shE
  cases sameB g h <;> rfl
theorem cb2E_ok {soils : List So} {bos : List Bo} {g h : Gr} (k : cb2E soils bos g h = 0) : VGd soils bos ∧ chkG g = 0 ∧ chkG h = 0 ∧ h.L.length = g.L.length := by
  unfold cb2E at k
  by_cases h0 : chkGr soils bos = 0
  · rw [if_neg (by omega)] at k
    obtain ⟨_, _, _, h1⟩ := twoE_ok k
    unfold twoE at k
    by_cases h2 : chkG g = 0
    · rw [if_neg (by omega)] at k
      by_cases h3 : chkG h = 0
      · exact ⟨chkGr_ok h0, h2, h3, h1.symm⟩
      · rw [if_pos h3] at k; exact absurd k h3
    · rw [if_pos h2] at k; exact absurd k h2
  · rw [if_pos h0] at k; exact absurd k h0
theorem cb2E_zero {soils : List So} {bos : List Bo} {g h : Gr} (k : cb2E soils bos g h = 0) : chkGr soils bos = 0 ∧ chkG g = 0 ∧ chkG h = 0 ∧ shE g h = 0 := by
  rw [← first_cb4] at k
  have := firstE_zero _ k
  exact ⟨this 0 (by omega), this 1 (by omega), this 2 (by omega), this 3 (by omega)⟩
theorem keepZ3 {W w' : World} {a b c : Nat} (h : Ext W w') (ha : a < W.heap.size) (hb : b < W.heap.size) (hc : c < W.heap.size) : (∀ j : Nat, w'.cell? ⟨a, j, none⟩ = W.cell? ⟨a, j, none⟩) ∧ (∀ j : Nat, w'.cell? ⟨b, j, none⟩ = W.cell? ⟨b, j, none⟩) ∧ (∀ j : Nat, w'.cell? ⟨c, j, none⟩ = W.cell? ⟨c, j, none⟩) ∧ Ext W w' := ⟨fun _ => h.ccell _ _ ha, fun _ => h.ccell _ _ hb, fun _ => h.ccell _ _ hc, h⟩

set_option maxHeartbeats 64000000 in
set_option maxRecDepth 100000 in
theorem pr_err (soils : List So) (bos : List Bo) (g h : Gr) (w : World) (AS AB : Option Addr) (cS cB : Nat) (gg : GrAny w soils AS bos AB) (hB0 : slB soils bos = true) (gw : GrW w soils AS bos AB) (A : Option Addr) (c : Nat) (hl : g.L.length ≤ maxLen) (hA : Row 1 encZ w A g.L) (B : Option Addr) (d : Nat) (hm : h.L.length ≤ maxLen) (hB : Row 1 encZ w B h.L) (h30 : g.L.length ≤ 30) (k30 : h.L.length ≤ 30) (h0 : cb2E soils bos g h ≠ 0) :
    Calls Tryz.prog 3 #[.agg #[.slice AS soils.length cS, .slice AB bos.length cB], .agg #[.int .i64 g.X, .int .i64 g.Y, .int .i64 g.S, .int .i64 g.C, .int .i64 g.R, .slice A g.L.length c], .agg #[.int .i64 h.X, .int .i64 h.Y, .int .i64 h.S, .int .i64 h.C, .int .i64 h.R, .slice B h.L.length d]] w fun e w' => e = .returned (.bool true) ∧ Ext w w' := by
  have HL := Lib.hid (fun w' (hw : Ext w w') => slight_c soils bos w' AS AB cS cB (gg.ext hw))
  have HSM := Lib.hid (fun w' => small6_c g w' A c hl)
  have HSN := Lib.hid (fun w' => small6_c h w' B d hm)
  rw [hB0] at HL
  rw [decide_eq_true h30] at HSM
  rw [decide_eq_true k30] at HSN
  clear hB0 gg
  have HQ := Lib.hid (fun w' (hw : Ext w w') => rcheckGround_c soils bos w' AS AB cS cB (gw.ext hw))
  have HRC := Lib.hid (fun w' (hw : Ext w w') => rcheck_c g w' A c hl (hA.ext hw))
  have HRD := Lib.hid (fun w' (hw : Ext w w') => rcheck_c h w' B d hm (hB.ext hw))
  have HSP := Lib.hid (fun w' => shape_c g h w' A B c d)
  have HF := Lib.hid (fun w' A2 c2 hr => by have hq := first6_c [chkGr soils bos, chkG g, chkG h, shE g h] w' A2 c2 (by simp) hr; rw [show [chkGr soils bos, chkG g, chkG h, shE g h].length = 4 from rfl, first_cb4] at hq; exact hq)
  have HSS := Lib.hid (fun w' (hw : Ext w w') => checkSlump_err soils bos g h w' AS AB A B cS cB c d (gw.ext hw) hl hm (hA.ext hw) (hB.ext hw) h0)
  have h0' : (cb2E soils bos g h != 0) = true := by simp [h0]
  generalize chkGr soils bos = E1 at *
  generalize chkG g = E2 at *
  generalize chkG h = E3 at *
  generalize shE g h = E4 at *
  clear hl hm hA hB gw h0 h30 k30
  generalize cb2E soils bos g h = E at *
  go_enter Tryz.func3, Tryz.ntmps3
  go_upto_region 6 with (first | (go_at_call 4; with_reducible refine Calls.mono (awake_c _) ?_; rintro e wa ⟨rfl, hb⟩; have hc := hb.ccell; have hf := hb.frz; have hs := hb.sz; (try simp at hs); (try have t0 := hs (w.heap.size) (by first | assumption | omega)); (try have t1 := hs (w.heap.size + 1) (by first | assumption | omega)); (try have t2 := hs (w.heap.size + 1 + 1) (by first | assumption | omega)); (try have t3 := hs (w.heap.size) (by first | assumption | omega)); (try have t4 := hs (w.heap.size) (by first | assumption | omega)); (try have t5 := hs (w.heap.size) (by first | assumption | omega))) | (go_at_call 5; with_reducible refine Calls.mono (HL.out _ (by (repeat (first | with_reducible exact Ext.rfl' _ | with_reducible assumption | with_reducible refine Ext.al ?_ _ | with_reducible refine Ext.dr ?_ | with_reducible refine Ext.st ?_ (by simp) _ | with_reducible refine Ext.tr ?_ (by assumption))))) ?_; rintro e ws ⟨rfl, hb⟩; have hc := hb.ccell; have hf := hb.frz; have hs := hb.sz; (try simp at hs); (try have t0 := hs (w.heap.size) (by first | assumption | omega)); (try have t1 := hs (w.heap.size + 1) (by first | assumption | omega)); (try have t2 := hs (w.heap.size + 1 + 1) (by first | assumption | omega)); (try have t3 := hs (w.heap.size) (by first | assumption | omega)); (try have t4 := hs (w.heap.size) (by first | assumption | omega)); (try have t5 := hs (w.heap.size) (by first | assumption | omega))) | (go_at_call 6; with_reducible refine Calls.mono (HSM.out _) ?_; rintro e wm ⟨rfl, hb⟩; have hc := hb.ccell; have hf := hb.frz; have hs := hb.sz; (try simp at hs); (try have t0 := hs (w.heap.size) (by first | assumption | omega)); (try have t1 := hs (w.heap.size + 1) (by first | assumption | omega)); (try have t2 := hs (w.heap.size + 1 + 1) (by first | assumption | omega)); (try have t3 := hs (w.heap.size) (by first | assumption | omega)); (try have t4 := hs (w.heap.size) (by first | assumption | omega)); (try have t5 := hs (w.heap.size) (by first | assumption | omega))) | (go_at_call 6; with_reducible refine Calls.mono (HSN.out _) ?_; rintro e wn ⟨rfl, hb⟩; have hc := hb.ccell; have hf := hb.frz; have hs := hb.sz; (try simp at hs); (try have t0 := hs (w.heap.size) (by first | assumption | omega)); (try have t1 := hs (w.heap.size + 1) (by first | assumption | omega)); (try have t2 := hs (w.heap.size + 1 + 1) (by first | assumption | omega)); (try have t3 := hs (w.heap.size) (by first | assumption | omega)); (try have t4 := hs (w.heap.size) (by first | assumption | omega)); (try have t5 := hs (w.heap.size) (by first | assumption | omega))) | (go_at_call 7; with_reducible refine Calls.mono (HSS.out _ (by (repeat (first | with_reducible exact Ext.rfl' _ | with_reducible assumption | with_reducible refine Ext.al ?_ _ | with_reducible refine Ext.dr ?_ | with_reducible refine Ext.st ?_ (by simp) _ | with_reducible refine Ext.tr ?_ (by assumption))))) ?_; rintro e w2 ⟨rfl, hb⟩; have hc := hb.ccell; have hf := hb.frz; have hs := hb.sz; (try simp at hs); (try have t0 := hs (w.heap.size) (by first | assumption | omega)); (try have t1 := hs (w.heap.size + 1) (by first | assumption | omega)); (try have t2 := hs (w.heap.size + 1 + 1) (by first | assumption | omega)); (try have t3 := hs (w.heap.size) (by first | assumption | omega)); (try have t4 := hs (w.heap.size) (by first | assumption | omega)); (try have t5 := hs (w.heap.size) (by first | assumption | omega))))
  refine wp_name (fun W hW => ?_)
  have hEW : Ext w W := by rw [hW]; (repeat (first | with_reducible exact Ext.rfl' _ | with_reducible assumption | with_reducible refine Ext.al ?_ _ | with_reducible refine Ext.dr ?_ | with_reducible refine Ext.st ?_ (by simp) _ | with_reducible refine Ext.tr ?_ (by assumption)))
  have r0 : W.cell? ⟨w.heap.size, 0, none⟩ = some (.slice AS soils.length cS) := by rw [hW]; simp [*, go_sem]
  have r1 : W.cell? ⟨w.heap.size, 1, none⟩ = some (.slice AB bos.length cB) := by rw [hW]; simp [*, go_sem]
  have kg : CellsAt W (w.heap.size + 1) 0 [.int .i64 g.X, .int .i64 g.Y, .int .i64 g.S, .int .i64 g.C, .int .i64 g.R, .slice A g.L.length c] := by rw [hW]; refine cells_six ⟨?_, ?_, ?_, ?_, ?_, ?_⟩ <;> simp [*, go_sem]
  have kh : CellsAt W (w.heap.size + 1 + 1) 0 [.int .i64 h.X, .int .i64 h.Y, .int .i64 h.S, .int .i64 h.C, .int .i64 h.R, .slice B h.L.length d] := by rw [hW]; refine cells_six ⟨?_, ?_, ?_, ?_, ?_, ?_⟩ <;> simp [*, go_sem]
  have hz2 : w.heap.size + 1 + 1 < W.heap.size := by rw [hW]; assumption
  have hz1 : w.heap.size + 1 < W.heap.size := by omega
  have hz0 : w.heap.size < W.heap.size := by omega
  clear hW hb hc hf hs t0 t1 t2 t3 t4 t5 HSS HL HSM HSN
  generalize w.heap.size + 1 + 1 = nh at *
  generalize w.heap.size + 1 = nm at *
  go_cut [8] (fun x wx => x = .int .i64 E ∧ Ext W wx)
  case first =>
    obtain ⟨m0, m1, m2, m3, m4, m5⟩ := kg.six
    obtain ⟨p0, p1, p2, p3, p4, p5⟩ := kh.six
    go_region_held3 (fun w' => (∀ j : Nat, w'.cell? ⟨w.heap.size, j, none⟩ = W.cell? ⟨w.heap.size, j, none⟩) ∧ (∀ j : Nat, w'.cell? ⟨nm, j, none⟩ = W.cell? ⟨nm, j, none⟩) ∧ (∀ j : Nat, w'.cell? ⟨nh, j, none⟩ = W.cell? ⟨nh, j, none⟩) ∧ Ext W w') ((refine keepZ3 ?_ hz0 hz1 hz2; (repeat (first | with_reducible exact Ext.rfl' _ | with_reducible assumption | with_reducible refine Ext.al ?_ _ | with_reducible refine Ext.dr ?_ | with_reducible refine Ext.st ?_ (by first | (simp; done) | ((try have h9 := Below.size hb2); (try have h8 := Below.size hb3); (try have h7 := Below.size hb4); (try simp at h9); (try simp at h8); (try simp at h7); (try simp); omega)) _ | with_reducible refine Ext.tr ?_ (by with_reducible assumption) | (with_reducible exact (by with_reducible assumption : _ ∧ _ ∧ Ext W _).2.2))))) (first | (go_at_call 9; (with_reducible refine Calls.mono (HQ.out _ (hEW.tr (by (repeat (first | with_reducible exact Ext.rfl' _ | with_reducible assumption | with_reducible refine Ext.al ?_ _ | with_reducible refine Ext.dr ?_ | with_reducible refine Ext.st ?_ (by simp) _ | with_reducible refine Ext.tr ?_ (by assumption)))))) ?_); rintro e w2 ⟨rfl, hb2⟩; have hc2 := hb2.ccell; have hf2 := hb2.frz; have hs2 := hb2.sz) | (go_at_call 10; (with_reducible refine Calls.mono (HRC.out _ (hEW.tr (by (repeat (first | with_reducible exact Ext.rfl' _ | with_reducible assumption | with_reducible refine Ext.al ?_ _ | with_reducible refine Ext.dr ?_ | with_reducible refine Ext.st ?_ (by simp) _ | with_reducible refine Ext.tr ?_ (by assumption)))))) ?_); rintro e w3 ⟨rfl, hb3⟩; have hc3 := hb3.ccell; have hf3 := hb3.frz; have hs3 := hb3.sz) | (go_at_call 10; (with_reducible refine Calls.mono (HRD.out _ (hEW.tr (by (repeat (first | with_reducible exact Ext.rfl' _ | with_reducible assumption | with_reducible refine Ext.al ?_ _ | with_reducible refine Ext.dr ?_ | with_reducible refine Ext.st ?_ (by simp) _ | with_reducible refine Ext.tr ?_ (by assumption)))))) ?_); rintro e w5 ⟨rfl, hb5⟩; have hc5 := hb5.ccell; have hf5 := hb5.frz; have hs5 := hb5.sz) | (go_at_call 11; (with_reducible refine Calls.mono (HSP.out _) ?_); rintro e w6 ⟨rfl, hb6⟩; have hc6 := hb6.ccell; have hf6 := hb6.frz; have hs6 := hb6.sz) | (go_at_call 8; (with_reducible refine Calls.mono (HF.out _ _ _ (Row.new' encZ_len _ _ _ _ _ (by simp) rfl)) ?_); rintro e w4 ⟨rfl, hb4⟩; have hc4 := hb4.ccell; have hf4 := hb4.frz; have hs4 := hb4.sz))
    all_goals
      rename_i hJ hK h1 h2 hH
      clear hH
      refine h2 _ _ (Met.intro (h1 _ _ ?_))
      (repeat apply Exists.intro)
      refine ⟨?_, rfl⟩
      exact ⟨rfl, by (repeat (first | with_reducible exact Ext.rfl' _ | with_reducible assumption | with_reducible refine Ext.al ?_ _ | with_reducible refine Ext.dr ?_ | with_reducible refine Ext.st ?_ (by simp) _ | with_reducible refine Ext.tr ?_ (by assumption)))⟩
  case rest =>
  obtain ⟨rfl, hx⟩ := hcut
  have hEc := hEW.tr hx
  clear kg kh hz0 hz1 hz2 r0 r1 hx hEW HQ HRC HRD HSP HF
  go_wp2
  go_ret
  exact ⟨rfl, by (repeat (first | with_reducible exact Ext.rfl' _ | with_reducible assumption | with_reducible refine Ext.al ?_ _ | with_reducible refine Ext.dr ?_ | with_reducible refine Ext.st ?_ (by simp) _ | with_reducible refine Ext.tr ?_ (by assumption)))⟩
set_option maxHeartbeats 64000000 in
set_option maxRecDepth 100000 in
theorem pr_ok (soils : List So) (bos : List Bo) (g h : Gr) (w : World) (AS AB : Option Addr) (cS cB : Nat) (gg : GrAny w soils AS bos AB) (hB0 : slB soils bos = true) (gw : GrW w soils AS bos AB) (A : Option Addr) (c : Nat) (hl : g.L.length ≤ maxLen) (hA : Row 1 encZ w A g.L) (B : Option Addr) (d : Nat) (hm : h.L.length ≤ maxLen) (hB : Row 1 encZ w B h.L) (h30 : g.L.length ≤ 30) (k30 : h.L.length ≤ 30) (h0 : cb2E soils bos g h = 0) :
    Calls Tryz.prog 3 #[.agg #[.slice AS soils.length cS, .slice AB bos.length cB], .agg #[.int .i64 g.X, .int .i64 g.Y, .int .i64 g.S, .int .i64 g.C, .int .i64 g.R, .slice A g.L.length c], .agg #[.int .i64 h.X, .int .i64 h.Y, .int .i64 h.S, .int .i64 h.C, .int .i64 h.R, .slice B h.L.length d]] w fun e w' => e = .returned (.bool true) ∧ Ext w w' := by
  have HL := Lib.hid (fun w' (hw : Ext w w') => slight_c soils bos w' AS AB cS cB (gg.ext hw))
  have HSM := Lib.hid (fun w' => small6_c g w' A c hl)
  have HSN := Lib.hid (fun w' => small6_c h w' B d hm)
  rw [hB0] at HL
  rw [decide_eq_true h30] at HSM
  rw [decide_eq_true k30] at HSN
  clear hB0 gg
  have HQ := Lib.hid (fun w' (hw : Ext w w') => rcheckGround_c soils bos w' AS AB cS cB (gw.ext hw))
  have HRC := Lib.hid (fun w' (hw : Ext w w') => rcheck_c g w' A c hl (hA.ext hw))
  have HRD := Lib.hid (fun w' (hw : Ext w w') => rcheck_c h w' B d hm (hB.ext hw))
  have HSP := Lib.hid (fun w' => shape_c g h w' A B c d)
  obtain ⟨z1, z2, z3, z4⟩ := cb2E_zero h0
  rw [z1] at HQ
  rw [z2] at HRC
  rw [z3] at HRD
  rw [z4] at HSP
  have HF := Lib.hid (fun w' A2 c2 hr => by have hq := first6_c [0, 0, 0, 0] w' A2 c2 (by simp) hr; rw [show [(0 : Int), 0, 0, 0].length = 4 from rfl, show firstE (gi [0, 0, 0, 0]) 4 = 0 from rfl] at hq; exact hq)
  obtain ⟨v, _, _, hlen⟩ := cb2E_ok h0
  obtain ⟨cn, rn, e1, e2, e3, e4, e5, e6, e7, e8⟩ := (chkG_ok z2).nat
  have hls := gw.ls
  have hsh : sameB g h = true := by
    unfold shE at z4
    cases hs : sameB g h
    · rw [hs, if_neg (by decide)] at z4; cases z4
    · rfl
  have hh := same_withL hsh
  obtain ⟨L, hL⟩ : ∃ L, h.L = L := ⟨_, rfl⟩
  rw [hL] at hh hlen hB hm k30
  subst hh
  clear hL hsh
  have HCS := Lib.hid (fun w' (hw : Ext w w') => checkSlump_ok soils bos g (withL g L) cn rn w' AS AB A B cS cB c d (gw.ext hw) v z2 z3 hlen e1 e2 hl hm (hA.ext hw) (hB.ext hw) h0)
  have hcb : cbE soils bos g = 0 := by unfold cbE; rw [z1, z2]; rfl
  have HSU := Lib.hid (fun w' (hw : Ext w w') => gslump_ok_c soils bos g cn rn w' AS AB A cS cB c (gw.ext hw) hcb e1 e2 (hA.ext hw))
  have HPR := Lib.hid (fun w' (hw : Ext w w') => rproved_c soils bos g L cn rn w' AS AB A B cS cB c d (gw.ext hw) v z2 z3 hlen e1 e2 (hA.ext hw) (hB.ext hw))
  have HSG := Lib.hid (fun K w' A2 c2 (hw : Ext w w') (hK : K.length ≤ maxLen) (hR : Row 1 encZ w' A2 K) => by have hq := sameGrid_c (withL g K) (withL g L) w' A2 B c2 d hK hR (hB.ext hw); rw [sameB_withL, Bool.true_and, show decide ((withL g K).L = (withL g L).L) = decide (K = L) from rfl] at hq; exact hq)
  have HSL := Lib.hid (okS_sl v z2 z3 hlen e1 e2)
  rw [pro_ok hlen] at HPR
  generalize okS soils bos g (withL g L) cn rn = OK at *
  obtain ⟨ev, hev⟩ : ∃ ev, (if OK = true then (0 : Int) else 21) = ev := ⟨_, rfl⟩
  rw [hev] at HCS
  have HEV := Lib.hid hev
  clear hev
  simp only [withL] at HRD HSP HCS HSG HSN ⊢
  have HGL := Lib.hid hl
  have HLL := Lib.hid hlen
  clear z1 z2 z3 z4 e1 e2 e3 e4 e5 e6 e7 e8 v hlen hls hl hm hA hB gw h0 h30 k30 hcb
  go_enter Tryz.func3, Tryz.ntmps3
  go_upto_region 6 with (first | (go_at_call 4; with_reducible refine Calls.mono (awake_c _) ?_; rintro e wa ⟨rfl, hb⟩; have hc := hb.ccell; have hf := hb.frz; have hs := hb.sz; (try simp at hs); (try have t0 := hs (w.heap.size) (by first | assumption | omega)); (try have t1 := hs (w.heap.size + 1) (by first | assumption | omega)); (try have t2 := hs (w.heap.size + 1 + 1) (by first | assumption | omega)); (try have t3 := hs (w.heap.size) (by first | assumption | omega)); (try have t4 := hs (w.heap.size) (by first | assumption | omega)); (try have t5 := hs (w.heap.size) (by first | assumption | omega))) | (go_at_call 5; with_reducible refine Calls.mono (HL.out _ (by (repeat (first | with_reducible exact Ext.rfl' _ | with_reducible assumption | with_reducible refine Ext.al ?_ _ | with_reducible refine Ext.dr ?_ | with_reducible refine Ext.st ?_ (by simp) _ | with_reducible refine Ext.tr ?_ (by assumption))))) ?_; rintro e ws ⟨rfl, hb⟩; have hc := hb.ccell; have hf := hb.frz; have hs := hb.sz; (try simp at hs); (try have t0 := hs (w.heap.size) (by first | assumption | omega)); (try have t1 := hs (w.heap.size + 1) (by first | assumption | omega)); (try have t2 := hs (w.heap.size + 1 + 1) (by first | assumption | omega)); (try have t3 := hs (w.heap.size) (by first | assumption | omega)); (try have t4 := hs (w.heap.size) (by first | assumption | omega)); (try have t5 := hs (w.heap.size) (by first | assumption | omega))) | (go_at_call 6; with_reducible refine Calls.mono (HSM.out _) ?_; rintro e wm ⟨rfl, hb⟩; have hc := hb.ccell; have hf := hb.frz; have hs := hb.sz; (try simp at hs); (try have t0 := hs (w.heap.size) (by first | assumption | omega)); (try have t1 := hs (w.heap.size + 1) (by first | assumption | omega)); (try have t2 := hs (w.heap.size + 1 + 1) (by first | assumption | omega)); (try have t3 := hs (w.heap.size) (by first | assumption | omega)); (try have t4 := hs (w.heap.size) (by first | assumption | omega)); (try have t5 := hs (w.heap.size) (by first | assumption | omega))) | (go_at_call 6; with_reducible refine Calls.mono (HSN.out _) ?_; rintro e wn ⟨rfl, hb⟩; have hc := hb.ccell; have hf := hb.frz; have hs := hb.sz; (try simp at hs); (try have t0 := hs (w.heap.size) (by first | assumption | omega)); (try have t1 := hs (w.heap.size + 1) (by first | assumption | omega)); (try have t2 := hs (w.heap.size + 1 + 1) (by first | assumption | omega)); (try have t3 := hs (w.heap.size) (by first | assumption | omega)); (try have t4 := hs (w.heap.size) (by first | assumption | omega)); (try have t5 := hs (w.heap.size) (by first | assumption | omega))) | (go_at_call 7; with_reducible refine Calls.mono (HCS.out _ (by (repeat (first | with_reducible exact Ext.rfl' _ | with_reducible assumption | with_reducible refine Ext.al ?_ _ | with_reducible refine Ext.dr ?_ | with_reducible refine Ext.st ?_ (by simp) _ | with_reducible refine Ext.tr ?_ (by assumption))))) ?_; rintro e w2 ⟨rfl, hb⟩; have hc := hb.ccell; have hf := hb.frz; have hs := hb.sz; (try simp at hs); (try have t0 := hs (w.heap.size) (by first | assumption | omega)); (try have t1 := hs (w.heap.size + 1) (by first | assumption | omega)); (try have t2 := hs (w.heap.size + 1 + 1) (by first | assumption | omega)); (try have t3 := hs (w.heap.size) (by first | assumption | omega)); (try have t4 := hs (w.heap.size) (by first | assumption | omega)); (try have t5 := hs (w.heap.size) (by first | assumption | omega))))
  refine wp_name (fun W hW => ?_)
  have hEW : Ext w W := by rw [hW]; (repeat (first | with_reducible exact Ext.rfl' _ | with_reducible assumption | with_reducible refine Ext.al ?_ _ | with_reducible refine Ext.dr ?_ | with_reducible refine Ext.st ?_ (by simp) _ | with_reducible refine Ext.tr ?_ (by assumption)))
  have r0 : W.cell? ⟨w.heap.size, 0, none⟩ = some (.slice AS soils.length cS) := by rw [hW]; simp [*, go_sem]
  have r1 : W.cell? ⟨w.heap.size, 1, none⟩ = some (.slice AB bos.length cB) := by rw [hW]; simp [*, go_sem]
  have kg : CellsAt W (w.heap.size + 1) 0 [.int .i64 g.X, .int .i64 g.Y, .int .i64 g.S, .int .i64 g.C, .int .i64 g.R, .slice A g.L.length c] := by rw [hW]; refine cells_six ⟨?_, ?_, ?_, ?_, ?_, ?_⟩ <;> simp [*, go_sem]
  have kh : CellsAt W (w.heap.size + 1 + 1) 0 [.int .i64 g.X, .int .i64 g.Y, .int .i64 g.S, .int .i64 g.C, .int .i64 g.R, .slice B L.length d] := by rw [hW]; refine cells_six ⟨?_, ?_, ?_, ?_, ?_, ?_⟩ <;> simp [*, go_sem]
  have hz2 : w.heap.size + 1 + 1 < W.heap.size := by rw [hW]; assumption
  have hz1 : w.heap.size + 1 < W.heap.size := by omega
  have hz0 : w.heap.size < W.heap.size := by omega
  clear hW hb hc hf hs t0 t1 t2 t3 t4 t5 HCS HL HSM HSN
  generalize w.heap.size + 1 + 1 = nh at *
  generalize w.heap.size + 1 = nm at *
  go_cut [8] (fun x wx => x = .int .i64 0 ∧ Ext W wx)
  case first =>
    obtain ⟨m0, m1, m2, m3, m4, m5⟩ := kg.six
    obtain ⟨p0, p1, p2, p3, p4, p5⟩ := kh.six
    go_region_held3 (fun w' => (∀ j : Nat, w'.cell? ⟨w.heap.size, j, none⟩ = W.cell? ⟨w.heap.size, j, none⟩) ∧ (∀ j : Nat, w'.cell? ⟨nm, j, none⟩ = W.cell? ⟨nm, j, none⟩) ∧ (∀ j : Nat, w'.cell? ⟨nh, j, none⟩ = W.cell? ⟨nh, j, none⟩) ∧ Ext W w') ((refine keepZ3 ?_ hz0 hz1 hz2; (repeat (first | with_reducible exact Ext.rfl' _ | with_reducible assumption | with_reducible refine Ext.al ?_ _ | with_reducible refine Ext.dr ?_ | with_reducible refine Ext.st ?_ (by first | (simp; done) | ((try have h9 := Below.size hb2); (try have h8 := Below.size hb3); (try have h7 := Below.size hb4); (try simp at h9); (try simp at h8); (try simp at h7); (try simp); omega)) _ | with_reducible refine Ext.tr ?_ (by with_reducible assumption) | (with_reducible exact (by with_reducible assumption : _ ∧ _ ∧ Ext W _).2.2))))) (first | (go_at_call 9; (with_reducible refine Calls.mono (HQ.out _ (hEW.tr (by (repeat (first | with_reducible exact Ext.rfl' _ | with_reducible assumption | with_reducible refine Ext.al ?_ _ | with_reducible refine Ext.dr ?_ | with_reducible refine Ext.st ?_ (by simp) _ | with_reducible refine Ext.tr ?_ (by assumption)))))) ?_); rintro e w2 ⟨rfl, hb2⟩; have hc2 := hb2.ccell; have hf2 := hb2.frz; have hs2 := hb2.sz) | (go_at_call 10; (with_reducible refine Calls.mono (HRC.out _ (hEW.tr (by (repeat (first | with_reducible exact Ext.rfl' _ | with_reducible assumption | with_reducible refine Ext.al ?_ _ | with_reducible refine Ext.dr ?_ | with_reducible refine Ext.st ?_ (by simp) _ | with_reducible refine Ext.tr ?_ (by assumption)))))) ?_); rintro e w3 ⟨rfl, hb3⟩; have hc3 := hb3.ccell; have hf3 := hb3.frz; have hs3 := hb3.sz) | (go_at_call 10; (with_reducible refine Calls.mono (HRD.out _ (hEW.tr (by (repeat (first | with_reducible exact Ext.rfl' _ | with_reducible assumption | with_reducible refine Ext.al ?_ _ | with_reducible refine Ext.dr ?_ | with_reducible refine Ext.st ?_ (by simp) _ | with_reducible refine Ext.tr ?_ (by assumption)))))) ?_); rintro e w5 ⟨rfl, hb5⟩; have hc5 := hb5.ccell; have hf5 := hb5.frz; have hs5 := hb5.sz) | (go_at_call 11; (with_reducible refine Calls.mono (HSP.out _) ?_); rintro e w6 ⟨rfl, hb6⟩; have hc6 := hb6.ccell; have hf6 := hb6.frz; have hs6 := hb6.sz) | (go_at_call 8; (with_reducible refine Calls.mono (HF.out _ _ _ (Row.new' encZ_len _ _ _ _ _ (by simp) rfl)) ?_); rintro e w4 ⟨rfl, hb4⟩; have hc4 := hb4.ccell; have hf4 := hb4.frz; have hs4 := hb4.sz))
    all_goals
      rename_i hJ hK h1 h2 hH
      clear hH
      refine h2 _ _ (Met.intro (h1 _ _ ?_))
      (repeat apply Exists.intro)
      refine ⟨?_, rfl⟩
      exact ⟨rfl, by (repeat (first | with_reducible exact Ext.rfl' _ | with_reducible assumption | with_reducible refine Ext.al ?_ _ | with_reducible refine Ext.dr ?_ | with_reducible refine Ext.st ?_ (by simp) _ | with_reducible refine Ext.tr ?_ (by assumption)))⟩
  case rest =>
  obtain ⟨rfl, hx⟩ := hcut
  have hEc := hEW.tr hx
  have kg2 := kg.ext hx hz1
  have kh2 := kh.ext hx hz2
  obtain ⟨m0, m1, m2, m3, m4, m5⟩ := kg2.six
  obtain ⟨p0, p1, p2, p3, p4, p5⟩ := kh2.six
  have g0 := (hx.ccell _ 0 hz0).trans r0
  have g1 := (hx.ccell _ 1 hz0).trans r1
  have y0 := hx.sz _ hz0
  have y1 := hx.sz _ hz1
  have y2 := hx.sz _ hz2
  rename World => wx
  clear kg kh hz0 hz1 hz2 r0 r1 hx hEW HQ HRC HRD HSP HF
  go_upto_region 10 with (first | (go_at_call 12; (with_reducible refine Calls.mono (HSU.out _ (hEc.tr (by (repeat (first | with_reducible exact Ext.rfl' _ | with_reducible assumption | with_reducible refine Ext.al ?_ _ | with_reducible refine Ext.dr ?_ | with_reducible refine Ext.st ?_ (by simp) _ | with_reducible refine Ext.tr ?_ (by assumption)))))) ?_); rintro e w7 ⟨⟨K, A3, c3, rfl, hN3, hIS⟩, hb⟩; have hc := hb.ccell; have hf := hb.frz; have hs := hb.sz; (try simp at hs); (try have t0 := hs (w.heap.size) (by first | assumption | omega)); (try have t1 := hs (nm) (by first | assumption | omega)); (try have t2 := hs (nh) (by first | assumption | omega)); (try have t3 := hs (w.heap.size) (by first | assumption | omega)); (try have t4 := hs (w.heap.size) (by first | assumption | omega)); (try have t5 := hs (w.heap.size) (by first | assumption | omega))))
  refine wp_name (fun W3 hW3 => ?_)
  have hE3 : Ext wx W3 := by rw [hW3]; (repeat (first | with_reducible exact Ext.rfl' _ | with_reducible assumption | with_reducible refine Ext.al ?_ _ | with_reducible refine Ext.dr ?_ | with_reducible refine Ext.st ?_ (by simp) _ | with_reducible refine Ext.tr ?_ (by assumption)))
  have hR3 : Hid (Row 1 encZ W3 A3 K) := Lib.hid (hN3.row.ext (by rw [hW3]; (repeat (first | with_reducible exact Ext.rfl' _ | with_reducible assumption | with_reducible refine Ext.al ?_ _ | with_reducible refine Ext.dr ?_ | with_reducible refine Ext.st ?_ (by simp) _ | with_reducible refine Ext.tr ?_ (by assumption)))))
  have kq : CellsAt W3 w7.heap.size 0 [.int .i64 g.X, .int .i64 g.Y, .int .i64 g.S, .int .i64 g.C, .int .i64 g.R, .slice A3 K.length c3] := by rw [hW3]; refine cells_six ⟨?_, ?_, ?_, ?_, ?_, ?_⟩ <;> simp [go_sem]
  have zq : w7.heap.size < W3.heap.size := by rw [hW3]; simp
  have kg3 := kg2.ext hE3 y1
  have kh3 := kh2.ext hE3 y2
  have x0 := (hE3.ccell _ 0 y0).trans g0
  have x1 := (hE3.ccell _ 1 y0).trans g1
  have u0 := hE3.sz _ y0
  have u1 := hE3.sz _ y1
  have u2 := hE3.sz _ y2
  have hE9 := hEc.tr hE3
  have hKl : Hid (K.length ≤ maxLen) := Lib.hid (by rw [hIS.1.len]; exact HGL.out)
  have HIS := Lib.hid hIS
  clear hW3 hN3 hIS hb hc hf hs t0 t1 t2 t3 t4 t5 m0 m1 m2 m3 m4 m5 p0 p1 p2 p3 p4 p5 g0 g1 y0 y1 y2 kg2 kh2 hE3 hEc
  generalize w7.heap.size = ns at *
  obtain ⟨m0, m1, m2, m3, m4, m5⟩ := kg3.six
  obtain ⟨p0, p1, p2, p3, p4, p5⟩ := kh3.six
  obtain ⟨q0, q1, q2, q3, q4, q5⟩ := kq.six
  clear kg3 kh3 kq HSU
  have HSX := Lib.hid (fun w' (hw : Ext W3 w') => HSG.out K w' A3 c3 (hE9.tr hw) hKl.out (hR3.out.ext hw))
  have HDK : Hid (decide (K = L) = OK) := Lib.hid (by
    cases hOK : OK
    · refine decide_eq_false fun h => ?_
      have h1 := HIS.out
      rw [h] at h1
      rw [HSL.out.2 h1] at hOK
      cases hOK
    · exact decide_eq_true (HIS.out.one (HSL.out.1 hOK)))
  rw [HDK.out] at HSX
  clear HDK HSL HSG HIS
  cases OK
  · obtain rfl : (21 : Int) = ev := by have := HEV.out; simpa using this
    go_wp2_with (first | (go_at_call 13; with_reducible refine Calls.mono (HSX.out _ (by (repeat (first | with_reducible exact Ext.rfl' _ | with_reducible assumption | with_reducible refine Ext.al ?_ _ | with_reducible refine Ext.dr ?_ | with_reducible refine Ext.st ?_ (by simp) _ | with_reducible refine Ext.tr ?_ (by assumption))))) ?_; rintro e w8 ⟨rfl, hb⟩; have hc := hb.ccell; have hf := hb.frz; have hs := hb.sz; (try simp at hs); (try have t0 := hs (w.heap.size) (by first | assumption | omega)); (try have t1 := hs (nm) (by first | assumption | omega)); (try have t2 := hs (nh) (by first | assumption | omega)); (try have t3 := hs (ns) (by first | assumption | omega)); (try have t4 := hs (w.heap.size) (by first | assumption | omega)); (try have t5 := hs (w.heap.size) (by first | assumption | omega))) | (go_at_call 14; with_reducible refine Calls.mono (HPR.out _ (hE9.tr (by (repeat (first | with_reducible exact Ext.rfl' _ | with_reducible assumption | with_reducible refine Ext.al ?_ _ | with_reducible refine Ext.dr ?_ | with_reducible refine Ext.st ?_ (by simp) _ | with_reducible refine Ext.tr ?_ (by assumption)))))) ?_; rintro e w9 ⟨rfl, hb⟩; have hc := hb.ccell; have hf := hb.frz; have hs := hb.sz; (try simp at hs); (try have t0 := hs (w.heap.size) (by first | assumption | omega)); (try have t1 := hs (nm) (by first | assumption | omega)); (try have t2 := hs (nh) (by first | assumption | omega)); (try have t3 := hs (ns) (by first | assumption | omega)); (try have t4 := hs (w.heap.size) (by first | assumption | omega)); (try have t5 := hs (w.heap.size) (by first | assumption | omega))))
    go_ret
    exact ⟨by first | rfl | (simp; done), hE9.tr (by (repeat (first | with_reducible exact Ext.rfl' _ | with_reducible assumption | with_reducible refine Ext.al ?_ _ | with_reducible refine Ext.dr ?_ | with_reducible refine Ext.st ?_ (by simp) _ | with_reducible refine Ext.tr ?_ (by assumption))))⟩
  · obtain rfl : (0 : Int) = ev := by have := HEV.out; simpa using this
    go_wp2_with (first | (go_at_call 13; with_reducible refine Calls.mono (HSX.out _ (by (repeat (first | with_reducible exact Ext.rfl' _ | with_reducible assumption | with_reducible refine Ext.al ?_ _ | with_reducible refine Ext.dr ?_ | with_reducible refine Ext.st ?_ (by simp) _ | with_reducible refine Ext.tr ?_ (by assumption))))) ?_; rintro e w8 ⟨rfl, hb⟩; have hc := hb.ccell; have hf := hb.frz; have hs := hb.sz; (try simp at hs); (try have t0 := hs (w.heap.size) (by first | assumption | omega)); (try have t1 := hs (nm) (by first | assumption | omega)); (try have t2 := hs (nh) (by first | assumption | omega)); (try have t3 := hs (ns) (by first | assumption | omega)); (try have t4 := hs (w.heap.size) (by first | assumption | omega)); (try have t5 := hs (w.heap.size) (by first | assumption | omega))) | (go_at_call 14; with_reducible refine Calls.mono (HPR.out _ (hE9.tr (by (repeat (first | with_reducible exact Ext.rfl' _ | with_reducible assumption | with_reducible refine Ext.al ?_ _ | with_reducible refine Ext.dr ?_ | with_reducible refine Ext.st ?_ (by simp) _ | with_reducible refine Ext.tr ?_ (by assumption)))))) ?_; rintro e w9 ⟨rfl, hb⟩; have hc := hb.ccell; have hf := hb.frz; have hs := hb.sz; (try simp at hs); (try have t0 := hs (w.heap.size) (by first | assumption | omega)); (try have t1 := hs (nm) (by first | assumption | omega)); (try have t2 := hs (nh) (by first | assumption | omega)); (try have t3 := hs (ns) (by first | assumption | omega)); (try have t4 := hs (w.heap.size) (by first | assumption | omega)); (try have t5 := hs (w.heap.size) (by first | assumption | omega))))
    go_ret
    exact ⟨by first | rfl | (simp; done), hE9.tr (by (repeat (first | with_reducible exact Ext.rfl' _ | with_reducible assumption | with_reducible refine Ext.al ?_ _ | with_reducible refine Ext.dr ?_ | with_reducible refine Ext.st ?_ (by simp) _ | with_reducible refine Ext.tr ?_ (by assumption))))⟩
set_option maxHeartbeats 16000000 in
set_option maxRecDepth 100000 in
theorem pr_walk (soils : List So) (bos : List Bo) (g h : Gr) (w : World) (AS AB : Option Addr) (cS cB : Nat) (gg : GrAny w soils AS bos AB) (A : Option Addr) (c : Nat) (hl : g.L.length ≤ maxLen) (hA : Row 1 encZ w A g.L) (B : Option Addr) (d : Nat) (hm : h.L.length ≤ maxLen) (hB : Row 1 encZ w B h.L) :
    Calls Tryz.prog 3 #[.agg #[.slice AS soils.length cS, .slice AB bos.length cB], .agg #[.int .i64 g.X, .int .i64 g.Y, .int .i64 g.S, .int .i64 g.C, .int .i64 g.R, .slice A g.L.length c], .agg #[.int .i64 h.X, .int .i64 h.Y, .int .i64 h.S, .int .i64 h.C, .int .i64 h.R, .slice B h.L.length d]] w fun e w' => e = .returned (.bool true) ∧ Ext w w' := by
  have HL := Lib.hid (fun w' (hw : Ext w w') => slight_c soils bos w' AS AB cS cB (gg.ext hw))
  have HSM := Lib.hid (fun w' => small6_c g w' A c hl)
  have HSN := Lib.hid (fun w' => small6_c h w' B d hm)
  cases hB0 : slB soils bos
  · rw [hB0] at HL
    clear hB0 gg hl hm hA hB HSM HSN
    go_enter Tryz.func3, Tryz.ntmps3
    go_wp2_with (first | (go_at_call 4; with_reducible refine Calls.mono (awake_c _) ?_; rintro e wa ⟨rfl, hb⟩; have hc := hb.ccell; have hf := hb.frz; have hs := hb.sz; (try simp at hs); (try have t0 := hs (w.heap.size) (by first | assumption | omega)); (try have t1 := hs (w.heap.size + 1) (by first | assumption | omega)); (try have t2 := hs (w.heap.size + 1 + 1) (by first | assumption | omega)); (try have t3 := hs (w.heap.size) (by first | assumption | omega)); (try have t4 := hs (w.heap.size) (by first | assumption | omega)); (try have t5 := hs (w.heap.size) (by first | assumption | omega))) | (go_at_call 5; with_reducible refine Calls.mono (HL.out _ (by (repeat (first | with_reducible exact Ext.rfl' _ | with_reducible assumption | with_reducible refine Ext.al ?_ _ | with_reducible refine Ext.dr ?_ | with_reducible refine Ext.st ?_ (by simp) _ | with_reducible refine Ext.tr ?_ (by assumption))))) ?_; rintro e ws ⟨rfl, hb⟩; have hc := hb.ccell; have hf := hb.frz; have hs := hb.sz; (try simp at hs); (try have t0 := hs (w.heap.size) (by first | assumption | omega)); (try have t1 := hs (w.heap.size + 1) (by first | assumption | omega)); (try have t2 := hs (w.heap.size + 1 + 1) (by first | assumption | omega)); (try have t3 := hs (w.heap.size) (by first | assumption | omega)); (try have t4 := hs (w.heap.size) (by first | assumption | omega)); (try have t5 := hs (w.heap.size) (by first | assumption | omega))))
    go_ret
    exact ⟨rfl, by (repeat (first | with_reducible exact Ext.rfl' _ | with_reducible assumption | with_reducible refine Ext.al ?_ _ | with_reducible refine Ext.dr ?_ | with_reducible refine Ext.st ?_ (by simp) _ | with_reducible refine Ext.tr ?_ (by assumption)))⟩
  have gw := gg.small (slB_small hB0)
  by_cases h30 : g.L.length ≤ 30
  case neg =>
    rw [hB0] at HL
    rw [decide_eq_false h30] at HSM
    clear h30 gw hl hm hA hB hB0 gg HSN
    go_enter Tryz.func3, Tryz.ntmps3
    go_wp2_with (first | (go_at_call 4; with_reducible refine Calls.mono (awake_c _) ?_; rintro e wa ⟨rfl, hb⟩; have hc := hb.ccell; have hf := hb.frz; have hs := hb.sz; (try simp at hs); (try have t0 := hs (w.heap.size) (by first | assumption | omega)); (try have t1 := hs (w.heap.size + 1) (by first | assumption | omega)); (try have t2 := hs (w.heap.size + 1 + 1) (by first | assumption | omega)); (try have t3 := hs (w.heap.size) (by first | assumption | omega)); (try have t4 := hs (w.heap.size) (by first | assumption | omega)); (try have t5 := hs (w.heap.size) (by first | assumption | omega))) | (go_at_call 5; with_reducible refine Calls.mono (HL.out _ (by (repeat (first | with_reducible exact Ext.rfl' _ | with_reducible assumption | with_reducible refine Ext.al ?_ _ | with_reducible refine Ext.dr ?_ | with_reducible refine Ext.st ?_ (by simp) _ | with_reducible refine Ext.tr ?_ (by assumption))))) ?_; rintro e ws ⟨rfl, hb⟩; have hc := hb.ccell; have hf := hb.frz; have hs := hb.sz; (try simp at hs); (try have t0 := hs (w.heap.size) (by first | assumption | omega)); (try have t1 := hs (w.heap.size + 1) (by first | assumption | omega)); (try have t2 := hs (w.heap.size + 1 + 1) (by first | assumption | omega)); (try have t3 := hs (w.heap.size) (by first | assumption | omega)); (try have t4 := hs (w.heap.size) (by first | assumption | omega)); (try have t5 := hs (w.heap.size) (by first | assumption | omega))) | (go_at_call 6; with_reducible refine Calls.mono (HSM.out _) ?_; rintro e wm ⟨rfl, hb⟩; have hc := hb.ccell; have hf := hb.frz; have hs := hb.sz; (try simp at hs); (try have t0 := hs (w.heap.size) (by first | assumption | omega)); (try have t1 := hs (w.heap.size + 1) (by first | assumption | omega)); (try have t2 := hs (w.heap.size + 1 + 1) (by first | assumption | omega)); (try have t3 := hs (w.heap.size) (by first | assumption | omega)); (try have t4 := hs (w.heap.size) (by first | assumption | omega)); (try have t5 := hs (w.heap.size) (by first | assumption | omega))))
    go_ret
    exact ⟨rfl, by (repeat (first | with_reducible exact Ext.rfl' _ | with_reducible assumption | with_reducible refine Ext.al ?_ _ | with_reducible refine Ext.dr ?_ | with_reducible refine Ext.st ?_ (by simp) _ | with_reducible refine Ext.tr ?_ (by assumption)))⟩
  by_cases k30 : h.L.length ≤ 30
  case neg =>
    rw [hB0] at HL
    rw [decide_eq_true h30] at HSM
    rw [decide_eq_false k30] at HSN
    clear h30 k30 gw hl hm hA hB hB0 gg
    go_enter Tryz.func3, Tryz.ntmps3
    go_wp2_with (first | (go_at_call 4; with_reducible refine Calls.mono (awake_c _) ?_; rintro e wa ⟨rfl, hb⟩; have hc := hb.ccell; have hf := hb.frz; have hs := hb.sz; (try simp at hs); (try have t0 := hs (w.heap.size) (by first | assumption | omega)); (try have t1 := hs (w.heap.size + 1) (by first | assumption | omega)); (try have t2 := hs (w.heap.size + 1 + 1) (by first | assumption | omega)); (try have t3 := hs (w.heap.size) (by first | assumption | omega)); (try have t4 := hs (w.heap.size) (by first | assumption | omega)); (try have t5 := hs (w.heap.size) (by first | assumption | omega))) | (go_at_call 5; with_reducible refine Calls.mono (HL.out _ (by (repeat (first | with_reducible exact Ext.rfl' _ | with_reducible assumption | with_reducible refine Ext.al ?_ _ | with_reducible refine Ext.dr ?_ | with_reducible refine Ext.st ?_ (by simp) _ | with_reducible refine Ext.tr ?_ (by assumption))))) ?_; rintro e ws ⟨rfl, hb⟩; have hc := hb.ccell; have hf := hb.frz; have hs := hb.sz; (try simp at hs); (try have t0 := hs (w.heap.size) (by first | assumption | omega)); (try have t1 := hs (w.heap.size + 1) (by first | assumption | omega)); (try have t2 := hs (w.heap.size + 1 + 1) (by first | assumption | omega)); (try have t3 := hs (w.heap.size) (by first | assumption | omega)); (try have t4 := hs (w.heap.size) (by first | assumption | omega)); (try have t5 := hs (w.heap.size) (by first | assumption | omega))) | (go_at_call 6; with_reducible refine Calls.mono (HSM.out _) ?_; rintro e wm ⟨rfl, hb⟩; have hc := hb.ccell; have hf := hb.frz; have hs := hb.sz; (try simp at hs); (try have t0 := hs (w.heap.size) (by first | assumption | omega)); (try have t1 := hs (w.heap.size + 1) (by first | assumption | omega)); (try have t2 := hs (w.heap.size + 1 + 1) (by first | assumption | omega)); (try have t3 := hs (w.heap.size) (by first | assumption | omega)); (try have t4 := hs (w.heap.size) (by first | assumption | omega)); (try have t5 := hs (w.heap.size) (by first | assumption | omega))) | (go_at_call 6; with_reducible refine Calls.mono (HSN.out _) ?_; rintro e wn ⟨rfl, hb⟩; have hc := hb.ccell; have hf := hb.frz; have hs := hb.sz; (try simp at hs); (try have t0 := hs (w.heap.size) (by first | assumption | omega)); (try have t1 := hs (w.heap.size + 1) (by first | assumption | omega)); (try have t2 := hs (w.heap.size + 1 + 1) (by first | assumption | omega)); (try have t3 := hs (w.heap.size) (by first | assumption | omega)); (try have t4 := hs (w.heap.size) (by first | assumption | omega)); (try have t5 := hs (w.heap.size) (by first | assumption | omega))))
    go_ret
    exact ⟨rfl, by (repeat (first | with_reducible exact Ext.rfl' _ | with_reducible assumption | with_reducible refine Ext.al ?_ _ | with_reducible refine Ext.dr ?_ | with_reducible refine Ext.st ?_ (by simp) _ | with_reducible refine Ext.tr ?_ (by assumption)))⟩
  by_cases h0 : cb2E soils bos g h = 0
  · exact pr_ok soils bos g h w AS AB cS cB gg hB0 gw A c hl hA B d hm hB h30 k30 h0
  · exact pr_err soils bos g h w AS AB cS cB gg hB0 gw A c hl hA B d hm hB h30 k30 h0
end Go.Proofs.YtdbabihjnhnnfaaGreat

/- BedWithin: the law returns true for every input. Conditions: none. -/
import Derived.Test.YtgnakeemcccfjaaGreatBwi
namespace Go.Proofs.YtgnakeemcccfjaaGreat
open Go Go.RowKit Go.IntWalk

set_option maxHeartbeats 8000000 in
set_option maxRecDepth 100000 in
theorem wi_walk (g : Gr) (l : List Pt) (cells : List Int) (w : World) (A B D : Option Addr) (c cB cD : Nat) (hm : g.L.length ≤ maxLen) (hl : l.length ≤ maxLen) (hn : cells.length ≤ maxLen) (hA : Row 1 encZ w A g.L) (hB : Row 2 encP w B l) (hD : Row 1 encZ w D cells) :
    Calls Tryz.prog 3 #[.agg #[.int .i64 g.X, .int .i64 g.Y, .int .i64 g.S, .int .i64 g.C, .int .i64 g.R, .slice A g.L.length c], .slice B l.length cB, .slice D cells.length cD] w fun e w' => e = .returned (.bool true) ∧ Ext w w' := by
  have HF := Lib.hid (fun w' (hw : Ext w w') => few_c g w' A c hm (hA.ext hw))
  cases hf : fewB g
  · rw [hf] at HF
    clear hf
    go_enter Tryz.func3, Tryz.ntmps3
    go_wp2_with (first | (go_at_call 5; with_reducible refine Calls.mono (awake_c _) ?_; rintro e wa ⟨rfl, hb⟩; have hc := hb.ccell; have hf := hb.frz; have hs := hb.sz; (try simp at hs); (try have t0 := hs (w.heap.size) (by first | assumption | omega)); (try have t1 := hs (w.heap.size + 1) (by first | assumption | omega)); (try have t2 := hs (w.heap.size) (by first | assumption | omega)); (try have t3 := hs (w.heap.size) (by first | assumption | omega)); (try have t4 := hs (w.heap.size) (by first | assumption | omega)); (try have t5 := hs (w.heap.size) (by first | assumption | omega))) | (go_at_call 6; with_reducible refine Calls.mono (HF.out _ (by (repeat (first | with_reducible exact Ext.rfl' _ | with_reducible assumption | with_reducible refine Ext.al ?_ _ | with_reducible refine Ext.dr ?_ | with_reducible refine Ext.st ?_ (by simp) _ | with_reducible refine Ext.tr ?_ (by assumption))))) ?_; rintro e wf ⟨rfl, hb⟩; have hc := hb.ccell; have hf := hb.frz; have hs := hb.sz; (try simp at hs); (try have t0 := hs (w.heap.size) (by first | assumption | omega)); (try have t1 := hs (w.heap.size + 1) (by first | assumption | omega)); (try have t2 := hs (w.heap.size) (by first | assumption | omega)); (try have t3 := hs (w.heap.size) (by first | assumption | omega)); (try have t4 := hs (w.heap.size) (by first | assumption | omega)); (try have t5 := hs (w.heap.size) (by first | assumption | omega))))
    go_ret
    exact ⟨rfl, by (repeat (first | with_reducible exact Ext.rfl' _ | with_reducible assumption | with_reducible refine Ext.al ?_ _ | with_reducible refine Ext.dr ?_ | with_reducible refine Ext.st ?_ (by simp) _ | with_reducible refine Ext.tr ?_ (by assumption)))⟩
  rw [hf] at HF
  clear hf
  by_cases hk : 8 < l.length
  · have hk' : (8 : Int) < (l.length : Int) := by omega
    clear hk
    go_enter Tryz.func3, Tryz.ntmps3
    go_wp2_with (first | (go_at_call 5; with_reducible refine Calls.mono (awake_c _) ?_; rintro e wa ⟨rfl, hb⟩; have hc := hb.ccell; have hf := hb.frz; have hs := hb.sz; (try simp at hs); (try have t0 := hs (w.heap.size) (by first | assumption | omega)); (try have t1 := hs (w.heap.size + 1) (by first | assumption | omega)); (try have t2 := hs (w.heap.size) (by first | assumption | omega)); (try have t3 := hs (w.heap.size) (by first | assumption | omega)); (try have t4 := hs (w.heap.size) (by first | assumption | omega)); (try have t5 := hs (w.heap.size) (by first | assumption | omega))) | (go_at_call 6; with_reducible refine Calls.mono (HF.out _ (by (repeat (first | with_reducible exact Ext.rfl' _ | with_reducible assumption | with_reducible refine Ext.al ?_ _ | with_reducible refine Ext.dr ?_ | with_reducible refine Ext.st ?_ (by simp) _ | with_reducible refine Ext.tr ?_ (by assumption))))) ?_; rintro e wf ⟨rfl, hb⟩; have hc := hb.ccell; have hf := hb.frz; have hs := hb.sz; (try simp at hs); (try have t0 := hs (w.heap.size) (by first | assumption | omega)); (try have t1 := hs (w.heap.size + 1) (by first | assumption | omega)); (try have t2 := hs (w.heap.size) (by first | assumption | omega)); (try have t3 := hs (w.heap.size) (by first | assumption | omega)); (try have t4 := hs (w.heap.size) (by first | assumption | omega)); (try have t5 := hs (w.heap.size) (by first | assumption | omega))))
    go_ret
    exact ⟨rfl, by (repeat (first | with_reducible exact Ext.rfl' _ | with_reducible assumption | with_reducible refine Ext.al ?_ _ | with_reducible refine Ext.dr ?_ | with_reducible refine Ext.st ?_ (by simp) _ | with_reducible refine Ext.tr ?_ (by assumption)))⟩
  have hk' : ¬ (8 : Int) < (l.length : Int) := by omega
  by_cases hq : 40 < cells.length
  · have hq' : (40 : Int) < (cells.length : Int) := by omega
    clear hk hq
    go_enter Tryz.func3, Tryz.ntmps3
    go_wp2_with (first | (go_at_call 5; with_reducible refine Calls.mono (awake_c _) ?_; rintro e wa ⟨rfl, hb⟩; have hc := hb.ccell; have hf := hb.frz; have hs := hb.sz; (try simp at hs); (try have t0 := hs (w.heap.size) (by first | assumption | omega)); (try have t1 := hs (w.heap.size + 1) (by first | assumption | omega)); (try have t2 := hs (w.heap.size) (by first | assumption | omega)); (try have t3 := hs (w.heap.size) (by first | assumption | omega)); (try have t4 := hs (w.heap.size) (by first | assumption | omega)); (try have t5 := hs (w.heap.size) (by first | assumption | omega))) | (go_at_call 6; with_reducible refine Calls.mono (HF.out _ (by (repeat (first | with_reducible exact Ext.rfl' _ | with_reducible assumption | with_reducible refine Ext.al ?_ _ | with_reducible refine Ext.dr ?_ | with_reducible refine Ext.st ?_ (by simp) _ | with_reducible refine Ext.tr ?_ (by assumption))))) ?_; rintro e wf ⟨rfl, hb⟩; have hc := hb.ccell; have hf := hb.frz; have hs := hb.sz; (try simp at hs); (try have t0 := hs (w.heap.size) (by first | assumption | omega)); (try have t1 := hs (w.heap.size + 1) (by first | assumption | omega)); (try have t2 := hs (w.heap.size) (by first | assumption | omega)); (try have t3 := hs (w.heap.size) (by first | assumption | omega)); (try have t4 := hs (w.heap.size) (by first | assumption | omega)); (try have t5 := hs (w.heap.size) (by first | assumption | omega))))
    go_ret
    exact ⟨rfl, by (repeat (first | with_reducible exact Ext.rfl' _ | with_reducible assumption | with_reducible refine Ext.al ?_ _ | with_reducible refine Ext.dr ?_ | with_reducible refine Ext.st ?_ (by simp) _ | with_reducible refine Ext.tr ?_ (by assumption)))⟩
  have hq' : ¬ (40 : Int) < (cells.length : Int) := by omega
  obtain ⟨best, hbest⟩ := hiI_ex g.L cells cells.length
  have HW := Lib.hid (fun w' (hw : Ext w w') B' c' (hr : Row 2 encP w' B' l) => within_any_c g g.C.toNat l w' A B' c c' rfl hm (by omega) (hA.ext hw) hr)
  have HH := Lib.hid (fun w' (hw : Ext w w') D' c' (hr : Row 1 encZ w' D' cells) => highest_any_c g cells best w' A D' c c' hbest hm (by omega) (hA.ext hw) hr)
  have HCI := Lib.hid (fun w' (hw : Ext w w') => copyInts_c cells w' D cD (by omega) (hD.ext hw))
  have HRC := Lib.hid (fun w' (hw : Ext w w') => rcheck_c g w' A c hm (hA.ext hw))
  have HRP := Lib.hid (fun w' (hw : Ext w w') => by have h9 := rcheckPolygon_c l w' B cB (by omega) (hB.ext hw); rw [polyE_same] at h9; exact h9)
  have HTH := Lib.hid (fun i w' => there_c g i w' A c)
  have HRH : Hid (chkG g = 0 → ∀ w' (_ : Ext w w'), Calls Tryz.prog 15 #[.agg #[.int .i64 g.X, .int .i64 g.Y, .int .i64 g.S, .int .i64 g.C, .int .i64 g.R, .slice A g.L.length c], .slice D cells.length cD] w' fun e w'' => e = .returned (.int .i64 best) ∧ Ext w' w'') := Lib.hid (fun h1 w' hw => by
    have v := chkG_ok h1
    have hn1 : g.L.length ≤ 1024 := by have h1 := v.len; have h2 := v.hn; omega
    exact (rhighest_c g cells w' A D c cD (by omega) (by omega) (hA.ext hw) (hD.ext hw)).mono fun e w'' ⟨⟨b', he, hb'⟩, hx⟩ => ⟨by rw [he, hiI_one hb' hbest], hx⟩)
  have HRW : Hid (chkG g = 0 → polyE l = 0 → ∀ w' (_ : Ext w w'), Calls Tryz.prog 13 #[.agg #[.int .i64 g.X, .int .i64 g.Y, .int .i64 g.S, .int .i64 g.C, .int .i64 g.R, .slice A g.L.length c], .slice B l.length cB] w' fun e w'' => OutZN w'.heap.size (wiL g g.C.toNat l) e w'' ∧ Ext w' w'') := Lib.hid (fun h1 h2 w' hw => by
    have v := chkG_ok h1
    have e1 : wiL g g.C.toNat l = chs (riP g g.C.toNat l) g.L.length := by unfold wiL withE; rw [if_pos (by rw [if_neg (by omega)]; exact h2)]
    obtain ⟨p1, p2, _, _⟩ := polyE_zero h2
    rw [e1]
    exact rwithin_c g g.C.toNat l w' A B c cB (by have := v.hc; omega) (by omega) (by omega) v (hB.ext hw))
  obtain ⟨top, f, hV⟩ : ∃ top f, hgV g cells best = .tuple #[.int .i64 top, .int .i64 f] := by
    unfold hgV hiEnd
    by_cases h1 : hgE g cells = 0
    · rw [if_pos h1]
      by_cases h2 : best < 0
      · rw [if_pos h2]; exact ⟨_, _, rfl⟩
      · rw [if_neg h2]; exact ⟨_, _, rfl⟩
    · rw [if_neg h1]; exact ⟨_, _, rfl⟩
  have HVX := Lib.hid hV
  rw [hV] at HH
  obtain ⟨M, hM⟩ : ∃ M, wiL g g.C.toNat l = M := ⟨_, rfl⟩
  obtain ⟨E1, hE1⟩ : ∃ E1, withE g l = E1 := ⟨_, rfl⟩
  have HM := Lib.hid (And.intro hM hE1)
  have hMl : M.length ≤ maxLen := by
    rw [← hM]
    unfold wiL
    split
    · exact Nat.le_trans (chs_len _ _) hm
    · exact Nat.zero_le _
  have HML := Lib.hid hMl
  clear hMl
  rw [hM, hE1] at HW
  rw [hM] at HRW
  clear hV hM hE1 hbest hk hq hA
  go_enter Tryz.func3, Tryz.ntmps3
  go_upto_region 5 with (first | (go_at_call 5; with_reducible refine Calls.mono (awake_c _) ?_; rintro e wa ⟨rfl, hb⟩; have hc := hb.ccell; have hf := hb.frz; have hs := hb.sz; (try simp at hs); (try have t0 := hs (w.heap.size) (by first | assumption | omega)); (try have t1 := hs (w.heap.size + 1) (by first | assumption | omega)); (try have t2 := hs (w.heap.size) (by first | assumption | omega)); (try have t3 := hs (w.heap.size) (by first | assumption | omega)); (try have t4 := hs (w.heap.size) (by first | assumption | omega)); (try have t5 := hs (w.heap.size) (by first | assumption | omega))) | (go_at_call 6; with_reducible refine Calls.mono (HF.out _ (by (repeat (first | with_reducible exact Ext.rfl' _ | with_reducible assumption | with_reducible refine Ext.al ?_ _ | with_reducible refine Ext.dr ?_ | with_reducible refine Ext.st ?_ (by simp) _ | with_reducible refine Ext.tr ?_ (by assumption))))) ?_; rintro e wf ⟨rfl, hb⟩; have hc := hb.ccell; have hf := hb.frz; have hs := hb.sz; (try simp at hs); (try have t0 := hs (w.heap.size) (by first | assumption | omega)); (try have t1 := hs (w.heap.size + 1) (by first | assumption | omega)); (try have t2 := hs (w.heap.size) (by first | assumption | omega)); (try have t3 := hs (w.heap.size) (by first | assumption | omega)); (try have t4 := hs (w.heap.size) (by first | assumption | omega)); (try have t5 := hs (w.heap.size) (by first | assumption | omega))))
  have hEW : Ext w wf := by (repeat (first | with_reducible exact Ext.rfl' _ | with_reducible assumption | with_reducible refine Ext.al ?_ _ | with_reducible refine Ext.dr ?_ | with_reducible refine Ext.st ?_ (by simp) _ | with_reducible refine Ext.tr ?_ (by assumption)))
  have kg : CellsAt wf w.heap.size 0 [.int .i64 g.X, .int .i64 g.Y, .int .i64 g.S, .int .i64 g.C, .int .i64 g.R, .slice A g.L.length c] := by refine cells_six ⟨?_, ?_, ?_, ?_, ?_, ?_⟩ <;> simp [*, go_sem]
  have zg : w.heap.size < wf.heap.size := by assumption
  clear hb hc hf hs
  go_cut [7, 8] (fun s7 s8 wx => ∃ (A2 : Option Addr) (c2 : Nat), s7 = .slice A2 M.length c2 ∧ s8 = .int .i64 E1 ∧ Ext wf wx ∧ Row 1 encZ wx A2 (zl M))
  case first =>
    clear HF HH HCI HRC HRP HTH HRH HRW HVX HM hD
    obtain ⟨g0, g1, g2, g3, g4, g5⟩ := kg.six
    obtain ⟨i0, hi, hz0, hz1, hz2⟩ := info_parts infoP2
    go_region_held3 (fun w' => (∀ j : Nat, w'.cell? ⟨w.heap.size, j, none⟩ = wf.cell? ⟨w.heap.size, j, none⟩) ∧ Ext wf w') ((refine keepB1 ?_ zg; (repeat (first | with_reducible exact Ext.rfl' _ | with_reducible assumption | (with_reducible exact (by with_reducible assumption : _ ∧ Ext wf _).2) | with_reducible refine Ext.al ?_ _ | with_reducible refine Ext.dr ?_ | with_reducible refine Ext.tr ?_ (by with_reducible assumption))))) (first | (go_at_call 7; (with_reducible refine Calls.mono (HW.out _ (hEW.tr (by (repeat (first | with_reducible exact Ext.rfl' _ | with_reducible assumption | with_reducible refine Ext.al ?_ _ | with_reducible refine Ext.dr ?_ | with_reducible refine Ext.st ?_ (by simp) _ | with_reducible refine Ext.tr ?_ (by assumption))))) _ _ (hR4.ext (by (repeat (first | with_reducible exact Ext.rfl' _ | with_reducible assumption | with_reducible refine Ext.al ?_ _ | with_reducible refine Ext.dr ?_ | with_reducible refine Ext.st ?_ (by simp) _ | with_reducible refine Ext.tr ?_ (by assumption)))))) ?_); rintro e w5 ⟨⟨A5, c5, rfl, hR5⟩, hb5⟩; have hc5 := hb5.ccell) | (refine bstep_append_in rfl (.tmp 32) (.tmp 33) 25 rfl wf.heap.size 51 i0 _ 2 16 Tryz.underlying25 hi hz0 hz1 hz2 rfl (by decide) encP encP_len encP_one2 _ 0 [] rfl (World.ownsRow_lit _ #[] 0 (by first | exact Nat.le_refl _ | simp) (by decide) rfl) l B cB rfl (hB.ext (hEW.tr (by (repeat (first | with_reducible exact Ext.rfl' _ | with_reducible assumption | (with_reducible exact (by with_reducible assumption : _ ∧ Ext wf _).2) | with_reducible refine Ext.al ?_ _ | with_reducible refine Ext.dr ?_ | with_reducible refine Ext.tr ?_ (by with_reducible assumption)))))) (by unfold maxLen; omega) (by omega) (by simp) ?_; intro v' w4 hown hgrow; have hE4 : Ext wf w4 := (Below.grown (show Ext wf _ from (by (repeat (first | with_reducible exact Ext.rfl' _ | with_reducible assumption | (with_reducible exact (by with_reducible assumption : _ ∧ Ext wf _).2) | with_reducible refine Ext.al ?_ _ | with_reducible refine Ext.dr ?_ | with_reducible refine Ext.tr ?_ (by with_reducible assumption))))) hgrow (by simp) (by intro q hq; have hq2 : some _ = some q := hq; injection hq2 with hq2; rw [← hq2]; exact Below.size (show Ext wf _ from (by (repeat (first | with_reducible exact Ext.rfl' _ | with_reducible assumption | (with_reducible exact (by with_reducible assumption : _ ∧ Ext wf _).2) | with_reducible refine Ext.al ?_ _ | with_reducible refine Ext.dr ?_ | with_reducible refine Ext.tr ?_ (by with_reducible assumption))))))); obtain ⟨A4, c4, hv, hq1, hq2, hcase⟩ := ownK_cases encP_len (l := l) (by simp) (by simp) hown; subst hv; have hR4 := ownK_row encP_len hcase; clear hown hgrow hcase hq1 hq2))
    all_goals
      rename_i hJ hK h1 h2 hH
      clear hH
      refine h2 _ _ (Met.intro (h1 _ _ ?_))
      (repeat apply Exists.intro)
      refine ⟨?_, rfl⟩
      refine ⟨_, _, rfl, rfl, ?_, hR5⟩
      (repeat (first | with_reducible exact Ext.rfl' _ | with_reducible assumption | (with_reducible exact (by with_reducible assumption : _ ∧ Ext wf _).2) | with_reducible refine Ext.al ?_ _ | with_reducible refine Ext.dr ?_ | with_reducible refine Ext.tr ?_ (by with_reducible assumption)))
  case rest =>
  obtain ⟨A2, c2, rfl, rfl, hx, hR2⟩ := hcut
  have hE1 := hEW.tr hx
  have kg1 := kg.ext hx zg
  have zg1 := hx.sz _ zg
  have HR := Lib.hid hR2
  clear kg zg hx hEW HW hR2 HF
  obtain ⟨w1, hw1⟩ : ∃ w1, w1 = wc := ⟨_, rfl⟩
  subst hw1
  obtain ⟨g0, g1, g2, g3, g4, g5⟩ := kg1.six
  go_upto_region 6 with fail
  go_cut [9, 10] (fun s9 s10 wx => s9 = .int .i64 top ∧ s10 = .int .i64 f ∧ Ext w1 wx)
  case first =>
    clear HRC HRP HTH HRH HRW HVX HM hD hB HR
    go_region_held3 (fun w' => (∀ j : Nat, w'.cell? ⟨w.heap.size, j, none⟩ = w1.cell? ⟨w.heap.size, j, none⟩) ∧ Ext w1 w') ((refine keepB1 ?_ zg1; (repeat (first | with_reducible exact Ext.rfl' _ | with_reducible assumption | (with_reducible exact (by with_reducible assumption : _ ∧ Ext w1 _).2) | with_reducible refine Ext.al ?_ _ | with_reducible refine Ext.dr ?_ | with_reducible refine Ext.tr ?_ (by with_reducible assumption))))) (first | (go_at_call 9; (with_reducible refine Calls.mono (HCI.out _ (hE1.tr (by (repeat (first | with_reducible exact Ext.rfl' _ | with_reducible assumption | with_reducible refine Ext.al ?_ _ | with_reducible refine Ext.dr ?_ | with_reducible refine Ext.st ?_ (by simp) _ | with_reducible refine Ext.tr ?_ (by assumption)))))) ?_); rintro e w4 ⟨⟨A4, c4, rfl, hN4⟩, hb4⟩; have hc4 := hb4.ccell) | (go_at_call 8; (with_reducible refine Calls.mono (HH.out _ (hE1.tr (by (repeat (first | with_reducible exact Ext.rfl' _ | with_reducible assumption | with_reducible refine Ext.al ?_ _ | with_reducible refine Ext.dr ?_ | with_reducible refine Ext.st ?_ (by simp) _ | with_reducible refine Ext.tr ?_ (by assumption))))) _ _ (hN4.row.ext (by (repeat (first | with_reducible exact Ext.rfl' _ | with_reducible assumption | with_reducible refine Ext.al ?_ _ | with_reducible refine Ext.dr ?_ | with_reducible refine Ext.st ?_ (by simp) _ | with_reducible refine Ext.tr ?_ (by assumption)))))) ?_); rintro e w5 ⟨rfl, hb5⟩; have hc5 := hb5.ccell))
    all_goals
      rename_i hJ hK h1 h2 hH
      clear hH
      refine h2 _ _ (Met.intro (h1 _ _ ?_))
      (repeat apply Exists.intro)
      refine ⟨?_, rfl⟩
      refine ⟨rfl, rfl, ?_⟩
      (repeat (first | with_reducible exact Ext.rfl' _ | with_reducible assumption | (with_reducible exact (by with_reducible assumption : _ ∧ Ext w1 _).2) | with_reducible refine Ext.al ?_ _ | with_reducible refine Ext.dr ?_ | with_reducible refine Ext.tr ?_ (by with_reducible assumption)))
  case rest =>
  obtain ⟨rfl, rfl, hx⟩ := hcut
  have hE2 := hE1.tr hx
  have kg2 := kg1.ext hx zg1
  have zg2 := hx.sz _ zg1
  have HR2 := Lib.hid (HR.out.ext hx)
  clear g0 g1 g2 g3 g4 g5 kg1 zg1 hx hE1 HH HCI HR
  obtain ⟨w2, hw2⟩ : ∃ w2, w2 = wc := ⟨_, rfl⟩
  subst hw2
  obtain ⟨g0, g1, g2, g3, g4, g5⟩ := kg2.six
  by_cases h1 : chkG g = 0
  case neg =>
    obtain ⟨hM, hE⟩ := HM.out
    have hV := HVX.out
    have hw : withE g l = chkG g := by unfold withE; rw [if_pos h1]
    have hg : hgE g cells = chkG g := by unfold hgE; rw [if_pos h1]
    have hM0 : M = [] := by rw [← hM]; unfold wiL; rw [if_neg (by rw [hw]; exact h1)]
    have hE0 : E1 = chkG g := by rw [← hE, hw]
    have hv2 : top = 0 ∧ f = chkG g := by
      unfold hgV at hV
      rw [if_neg (by rw [hg]; exact h1), hg] at hV
      injection hV with hV
      simp at hV
      omega
    obtain ⟨rfl, hf2⟩ := hv2
    subst hM0
    rw [← hE0] at HRC h1
    rw [← hE0] at hf2
    subst hf2
    have h1' : (f != 0) = true := by rw [bne_iff_ne]; exact h1
    clear hM hE hV hw hg hE0 HM HVX HRP HTH HRH HRW h1
    go_wp2_with (first | (go_at_call 10; with_reducible refine Calls.mono (HRC.out _ (by (repeat (first | with_reducible exact Ext.rfl' _ | with_reducible assumption | with_reducible refine Ext.al ?_ _ | with_reducible refine Ext.dr ?_ | with_reducible refine Ext.st ?_ (by simp) _ | with_reducible refine Ext.tr ?_ (by assumption))))) ?_; rintro e w7 ⟨rfl, hb⟩; have hc := hb.ccell; have hf := hb.frz; have hs := hb.sz; (try simp at hs); (try have t0 := hs (w.heap.size) (by first | assumption | omega)); (try have t1 := hs (w.heap.size) (by first | assumption | omega)); (try have t2 := hs (w.heap.size) (by first | assumption | omega)); (try have t3 := hs (w.heap.size) (by first | assumption | omega)); (try have t4 := hs (w.heap.size) (by first | assumption | omega)); (try have t5 := hs (w.heap.size) (by first | assumption | omega))))
    go_ret
    exact ⟨ret_bool (by simp), by (repeat (first | with_reducible exact Ext.rfl' _ | with_reducible assumption | with_reducible refine Ext.al ?_ _ | with_reducible refine Ext.dr ?_ | with_reducible refine Ext.st ?_ (by simp) _ | with_reducible refine Ext.tr ?_ (by assumption)))⟩
  have HV6 : Hid (cellsE g.L.length cells = 6 → top = 0 ∧ f = 6) := Lib.hid (fun h6 => by
    have hV := HVX.out
    have hg : hgE g cells = 6 := by unfold hgE; rw [if_neg (by omega)]; exact h6
    unfold hgV at hV
    rw [if_neg (by omega), hg] at hV
    injection hV with hV
    simp at hV
    omega)
  have HV0 : Hid (cellsE g.L.length cells = 0 → (best < 0 → top = 0 ∧ f = 12) ∧ (0 ≤ best → top = best ∧ f = 0)) := Lib.hid (fun h0 => by
    have hV := HVX.out
    have hg : hgE g cells = 0 := by unfold hgE; rw [if_neg (by omega)]; exact h0
    unfold hgV hiEnd at hV
    rw [if_pos hg] at hV
    constructor
    · intro hb
      rw [if_pos hb] at hV
      injection hV with hV
      simp at hV
      omega
    · intro hb
      rw [if_neg (by omega)] at hV
      injection hV with hV
      simp at hV
      omega)
  have HRH2 := Lib.hid (HRH.out h1)
  clear HRH HVX
  have HRH := HRH2
  clear HRH2
  by_cases h2 : polyE l = 0
  case neg =>
    obtain ⟨hM, hE⟩ := HM.out
    have hw : withE g l = polyE l := by unfold withE; rw [if_neg (by omega)]
    have hM0 : M = [] := by rw [← hM]; unfold wiL; rw [if_neg (by rw [hw]; exact h2)]
    have hE0 : E1 = polyE l := by rw [← hE, hw]
    subst hM0
    rw [← hE0] at HRP h2
    rw [h1] at HRC
    have h2' : (E1 != 0) = true := by rw [bne_iff_ne]; exact h2
    clear hM hE hw hE0 HM HRW h1 h2
    go_wp2_with (first | (go_at_call 10; with_reducible refine Calls.mono (HRC.out _ (by (repeat (first | with_reducible exact Ext.rfl' _ | with_reducible assumption | with_reducible refine Ext.al ?_ _ | with_reducible refine Ext.dr ?_ | with_reducible refine Ext.st ?_ (by simp) _ | with_reducible refine Ext.tr ?_ (by assumption))))) ?_; rintro e w7 ⟨rfl, hb⟩; have hc := hb.ccell; have hf := hb.frz; have hs := hb.sz; (try simp at hs); (try have t0 := hs (w.heap.size) (by first | assumption | omega)); (try have t1 := hs (w.heap.size) (by first | assumption | omega)); (try have t2 := hs (w.heap.size) (by first | assumption | omega)); (try have t3 := hs (w.heap.size) (by first | assumption | omega)); (try have t4 := hs (w.heap.size) (by first | assumption | omega)); (try have t5 := hs (w.heap.size) (by first | assumption | omega))) | (go_at_call 11; with_reducible refine Calls.mono (HRP.out _ (by (repeat (first | with_reducible exact Ext.rfl' _ | with_reducible assumption | with_reducible refine Ext.al ?_ _ | with_reducible refine Ext.dr ?_ | with_reducible refine Ext.st ?_ (by simp) _ | with_reducible refine Ext.tr ?_ (by assumption))))) ?_; rintro e w8 ⟨rfl, hb⟩; have hc := hb.ccell; have hf := hb.frz; have hs := hb.sz; (try simp at hs); (try have t0 := hs (w.heap.size) (by first | assumption | omega)); (try have t1 := hs (w.heap.size) (by first | assumption | omega)); (try have t2 := hs (w.heap.size) (by first | assumption | omega)); (try have t3 := hs (w.heap.size) (by first | assumption | omega)); (try have t4 := hs (w.heap.size) (by first | assumption | omega)); (try have t5 := hs (w.heap.size) (by first | assumption | omega))))
    go_loopw [13] (fun i wr => Ext w2 wr ∧ ∃ k : Nat, k ≤ cells.length ∧ i = .int .i64 (k : Int) ∧ Hid (anyN (noCell g.L.length cells) k = false)) (fun i _ => cells.length - (intOf i).toNat)
    case atStart => exact ⟨by (repeat (first | with_reducible exact Ext.rfl' _ | with_reducible assumption | with_reducible refine Ext.al ?_ _ | with_reducible refine Ext.dr ?_ | with_reducible refine Ext.st ?_ (by simp) _ | with_reducible refine Ext.tr ?_ (by assumption))), 0, Nat.zero_le _, rfl, Lib.hid rfl⟩
    case round =>
      obtain ⟨hr, k, hk, rfl, hF⟩ := hrel
      have hE : Ext w wr := hE2.tr hr
      have hzp := hr.sz _ zg2
      obtain ⟨g0, g1, g2, g3, g4, g5⟩ := (kg2.ext hr zg2).six
      by_cases hlt : k < cells.length
      · obtain ⟨b, off, rfl, hb0, hcell⟩ := hD.p1 hlt
        have c1 := hcell _ hE
        have hz := hE.sz _ hb0
        rw [← gi_lt] at c1
        have HTk := Lib.hid (fun w' => HTH.out (gi cells k) w')
        have hnc : noCell g.L.length cells k = !(decide (0 ≤ gi cells k) && decide (gi cells k < g.L.length)) := rfl
        generalize gi cells k = v at *
        clear hcell
        cases hq : (decide (0 ≤ v) && decide (v < g.L.length))
        · rw [hq] at HTk hnc
          have h6 : cellsE g.L.length cells = 6 := by unfold cellsE; rw [if_pos (anyN_at _ hlt hnc)]
          obtain ⟨rfl, rfl⟩ := HV6.out h6
          clear hnc hq h6
          go_wp2
          refine region_grow (by kernel_rfl) (by kernel_rfl) ?_
          repeat (first | go_big_quiet_step (first | (go_at_call 14; with_reducible exact callsGrow (HTk.out _)) | fail) | quiet_step (first | (go_at_call 14; with_reducible exact callsGrow (HTk.out _)) | fail))
          refine wpQuiet_nil ?_
          intro w1 hb
          have hc := hb.ccell
          have hf := hb.frz
          have hs := hb.sz
          (try simp at hs); (try have hs0 := hs w.heap.size (by omega)); (try have hs1 := hs (w.heap.size + 1) (by omega)); (try have hs2 := hs (w.heap.size + 1 + 1) (by omega)); (try have hs3 := hs (w.heap.size + 1 + 1 + 1) (by omega))
          (try simp only [IntWalk.i64_left])
          go_wp2
          go_ret
          exact ⟨rfl, by (repeat (first | with_reducible exact Ext.rfl' _ | with_reducible assumption | with_reducible refine Ext.al ?_ _ | with_reducible refine Ext.dr ?_ | with_reducible refine Ext.st ?_ (by simp) _ | with_reducible refine Ext.tr ?_ (by assumption)))⟩
        · rw [hq] at HTk hnc
          have HN := Lib.hid hnc
          clear hnc hq
          go_wp2
          refine region_grow (by kernel_rfl) (by kernel_rfl) ?_
          repeat (first | go_big_quiet_step (first | (go_at_call 14; with_reducible exact callsGrow (HTk.out _)) | fail) | quiet_step (first | (go_at_call 14; with_reducible exact callsGrow (HTk.out _)) | fail))
          refine wpQuiet_nil ?_
          intro w1 hb
          have hc := hb.ccell
          have hf := hb.frz
          have hs := hb.sz
          (try simp at hs); (try have hs0 := hs w.heap.size (by omega)); (try have hs1 := hs (w.heap.size + 1) (by omega)); (try have hs2 := hs (w.heap.size + 1 + 1) (by omega)); (try have hs3 := hs (w.heap.size + 1 + 1 + 1) (by omega))
          (try simp only [IntWalk.i64_left])
          go_wp2
          exact ⟨⟨by (repeat (first | with_reducible exact Ext.rfl' _ | with_reducible assumption | with_reducible refine Ext.al ?_ _ | with_reducible refine Ext.dr ?_ | with_reducible refine Ext.st ?_ (by simp) _ | with_reducible refine Ext.tr ?_ (by assumption))), k + 1, by omega, by go_num, Lib.hid (by show anyN _ (k + 1) = false; rw [anyN, hF.out, HN.out]; rfl)⟩, by simp [intOf]; omega⟩
      · have hks : k = cells.length := by omega
        have h0 : cellsE g.L.length cells = 0 := by unfold cellsE; rw [if_neg (by rw [← hks, hF.out]; decide)]
        obtain ⟨q1, q2⟩ := HV0.out h0
        have HRH1 := Lib.hid (fun w' (hw : Ext w w') => HRH.out w' hw)
        by_cases hbn : best < 0
        · obtain ⟨rfl, rfl⟩ := q1 hbn
          clear q1 q2 h0 hF
          go_wp2_with (first | (go_at_call 15; with_reducible refine Calls.mono (HRH1.out _ (by (repeat (first | with_reducible exact Ext.rfl' _ | with_reducible assumption | with_reducible refine Ext.al ?_ _ | with_reducible refine Ext.dr ?_ | with_reducible refine Ext.st ?_ (by simp) _ | with_reducible refine Ext.tr ?_ (by assumption))))) ?_; rintro e w9 ⟨rfl, hb⟩; have hc := hb.ccell; have hf := hb.frz; have hs := hb.sz; (try simp at hs); (try have t0 := hs (w.heap.size) (by first | assumption | omega)); (try have t1 := hs (w.heap.size) (by first | assumption | omega)); (try have t2 := hs (w.heap.size) (by first | assumption | omega)); (try have t3 := hs (w.heap.size) (by first | assumption | omega)); (try have t4 := hs (w.heap.size) (by first | assumption | omega)); (try have t5 := hs (w.heap.size) (by first | assumption | omega))))
          go_ret
          exact ⟨rfl, by (repeat (first | with_reducible exact Ext.rfl' _ | with_reducible assumption | with_reducible refine Ext.al ?_ _ | with_reducible refine Ext.dr ?_ | with_reducible refine Ext.st ?_ (by simp) _ | with_reducible refine Ext.tr ?_ (by assumption)))⟩
        · obtain ⟨rfl, rfl⟩ := q2 (by omega)
          clear q1 q2 h0 hF
          go_wp2_with (first | (go_at_call 15; with_reducible refine Calls.mono (HRH1.out _ (by (repeat (first | with_reducible exact Ext.rfl' _ | with_reducible assumption | with_reducible refine Ext.al ?_ _ | with_reducible refine Ext.dr ?_ | with_reducible refine Ext.st ?_ (by simp) _ | with_reducible refine Ext.tr ?_ (by assumption))))) ?_; rintro e w9 ⟨rfl, hb⟩; have hc := hb.ccell; have hf := hb.frz; have hs := hb.sz; (try simp at hs); (try have t0 := hs (w.heap.size) (by first | assumption | omega)); (try have t1 := hs (w.heap.size) (by first | assumption | omega)); (try have t2 := hs (w.heap.size) (by first | assumption | omega)); (try have t3 := hs (w.heap.size) (by first | assumption | omega)); (try have t4 := hs (w.heap.size) (by first | assumption | omega)); (try have t5 := hs (w.heap.size) (by first | assumption | omega))))
          go_ret
          exact ⟨ret_bool (by simp), by (repeat (first | with_reducible exact Ext.rfl' _ | with_reducible assumption | with_reducible refine Ext.al ?_ _ | with_reducible refine Ext.dr ?_ | with_reducible refine Ext.st ?_ (by simp) _ | with_reducible refine Ext.tr ?_ (by assumption)))⟩
  have HRW2 := Lib.hid (HRW.out h1 h2)
  have hE0 : E1 = 0 := by rw [← HM.out.2]; unfold withE; rw [if_neg (by omega)]; exact h2
  subst hE0
  rw [h1] at HRC
  rw [h2] at HRP
  have HI2 := Lib.hid (fun w' A3 A4 c3 c4 (r1 : Row 1 encZ w' A3 (zl M)) (r2 : Row 1 encZ w' A4 (zl M)) => by
    have h9 := ints_c (zl M) (zl M) w' A3 A4 c3 c4 (by rw [zl_len]; exact HML.out) r1 r2
    rw [zl_len, decide_eq_true rfl] at h9
    exact h9)
  clear HM HRW h1 h2
  go_wp2_with (first | (go_at_call 10; with_reducible refine Calls.mono (HRC.out _ (by (repeat (first | with_reducible exact Ext.rfl' _ | with_reducible assumption | with_reducible refine Ext.al ?_ _ | with_reducible refine Ext.dr ?_ | with_reducible refine Ext.st ?_ (by simp) _ | with_reducible refine Ext.tr ?_ (by assumption))))) ?_; rintro e w7 ⟨rfl, hb⟩; have hc := hb.ccell; have hf := hb.frz; have hs := hb.sz; (try simp at hs); (try have t0 := hs (w.heap.size) (by first | assumption | omega)); (try have t1 := hs (w.heap.size) (by first | assumption | omega)); (try have t2 := hs (w.heap.size) (by first | assumption | omega)); (try have t3 := hs (w.heap.size) (by first | assumption | omega)); (try have t4 := hs (w.heap.size) (by first | assumption | omega)); (try have t5 := hs (w.heap.size) (by first | assumption | omega))) | (go_at_call 11; with_reducible refine Calls.mono (HRP.out _ (by (repeat (first | with_reducible exact Ext.rfl' _ | with_reducible assumption | with_reducible refine Ext.al ?_ _ | with_reducible refine Ext.dr ?_ | with_reducible refine Ext.st ?_ (by simp) _ | with_reducible refine Ext.tr ?_ (by assumption))))) ?_; rintro e w8 ⟨rfl, hb⟩; have hc := hb.ccell; have hf := hb.frz; have hs := hb.sz; (try simp at hs); (try have t0 := hs (w.heap.size) (by first | assumption | omega)); (try have t1 := hs (w.heap.size) (by first | assumption | omega)); (try have t2 := hs (w.heap.size) (by first | assumption | omega)); (try have t3 := hs (w.heap.size) (by first | assumption | omega)); (try have t4 := hs (w.heap.size) (by first | assumption | omega)); (try have t5 := hs (w.heap.size) (by first | assumption | omega))) | (go_at_call 13; (with_reducible refine Calls.mono (HRW2.out _ (by (repeat (first | with_reducible exact Ext.rfl' _ | with_reducible assumption | with_reducible refine Ext.al ?_ _ | with_reducible refine Ext.dr ?_ | with_reducible refine Ext.st ?_ (by simp) _ | with_reducible refine Ext.tr ?_ (by assumption))))) ?_); rintro e wr2 ⟨⟨A5, c5, rfl, hN5⟩, hb⟩; have hc := hb.ccell; have hf := hb.frz; have hs := hb.sz; (try simp at hs); (try have t0 := hs (w.heap.size) (by first | assumption | omega)); (try have t1 := hs (w.heap.size) (by first | assumption | omega)); (try have t2 := hs (w.heap.size) (by first | assumption | omega)); (try have t3 := hs (w.heap.size) (by first | assumption | omega)); (try have t4 := hs (w.heap.size) (by first | assumption | omega)); (try have t5 := hs (w.heap.size) (by first | assumption | omega))) | (go_at_call 12; with_reducible refine Calls.mono (HI2.out _ _ _ _ _ (HR2.out.ext (by (repeat (first | with_reducible exact Ext.rfl' _ | with_reducible assumption | with_reducible refine Ext.al ?_ _ | with_reducible refine Ext.dr ?_ | with_reducible refine Ext.st ?_ (by simp) _ | with_reducible refine Ext.tr ?_ (by assumption))))) hN5.row) ?_; rintro e wq ⟨rfl, hb⟩; have hc := hb.ccell; have hf := hb.frz; have hs := hb.sz; (try simp at hs); (try have t0 := hs (w.heap.size) (by first | assumption | omega)); (try have t1 := hs (w.heap.size) (by first | assumption | omega)); (try have t2 := hs (w.heap.size) (by first | assumption | omega)); (try have t3 := hs (w.heap.size) (by first | assumption | omega)); (try have t4 := hs (w.heap.size) (by first | assumption | omega)); (try have t5 := hs (w.heap.size) (by first | assumption | omega))))
  have hEQ : Ext w2 wq := by (repeat (first | with_reducible exact Ext.rfl' _ | with_reducible assumption | with_reducible refine Ext.al ?_ _ | with_reducible refine Ext.dr ?_ | with_reducible refine Ext.st ?_ (by simp) _ | with_reducible refine Ext.tr ?_ (by assumption)))
  clear hN5
  go_loopw [13] (fun i wr => Ext w2 wr ∧ ∃ k : Nat, k ≤ cells.length ∧ i = .int .i64 (k : Int) ∧ Hid (anyN (noCell g.L.length cells) k = false)) (fun i _ => cells.length - (intOf i).toNat)
  case atStart => exact ⟨by (repeat (first | with_reducible exact Ext.rfl' _ | with_reducible assumption | with_reducible refine Ext.al ?_ _ | with_reducible refine Ext.dr ?_ | with_reducible refine Ext.st ?_ (by simp) _ | with_reducible refine Ext.tr ?_ (by assumption))), 0, Nat.zero_le _, rfl, Lib.hid rfl⟩
  case round =>
    obtain ⟨hr, k, hk, rfl, hF⟩ := hrel
    have hE : Ext w wr := hE2.tr hr
    have hzp := hr.sz _ zg2
    obtain ⟨g0, g1, g2, g3, g4, g5⟩ := (kg2.ext hr zg2).six
    by_cases hlt : k < cells.length
    · obtain ⟨b, off, rfl, hb0, hcell⟩ := hD.p1 hlt
      have c1 := hcell _ hE
      have hz := hE.sz _ hb0
      rw [← gi_lt] at c1
      have HTk := Lib.hid (fun w' => HTH.out (gi cells k) w')
      have hnc : noCell g.L.length cells k = !(decide (0 ≤ gi cells k) && decide (gi cells k < g.L.length)) := rfl
      generalize gi cells k = v at *
      clear hcell
      cases hq : (decide (0 ≤ v) && decide (v < g.L.length))
      · rw [hq] at HTk hnc
        have h6 : cellsE g.L.length cells = 6 := by unfold cellsE; rw [if_pos (anyN_at _ hlt hnc)]
        obtain ⟨rfl, rfl⟩ := HV6.out h6
        clear hnc hq h6
        go_wp2
        refine region_grow (by kernel_rfl) (by kernel_rfl) ?_
        repeat (first | go_big_quiet_step (first | (go_at_call 14; with_reducible exact callsGrow (HTk.out _)) | fail) | quiet_step (first | (go_at_call 14; with_reducible exact callsGrow (HTk.out _)) | fail))
        refine wpQuiet_nil ?_
        intro w1 hb
        have hc := hb.ccell
        have hf := hb.frz
        have hs := hb.sz
        (try simp at hs); (try have hs0 := hs w.heap.size (by omega)); (try have hs1 := hs (w.heap.size + 1) (by omega)); (try have hs2 := hs (w.heap.size + 1 + 1) (by omega)); (try have hs3 := hs (w.heap.size + 1 + 1 + 1) (by omega))
        (try simp only [IntWalk.i64_left])
        go_wp2
        go_ret
        exact ⟨rfl, by (repeat (first | with_reducible exact Ext.rfl' _ | with_reducible assumption | with_reducible refine Ext.al ?_ _ | with_reducible refine Ext.dr ?_ | with_reducible refine Ext.st ?_ (by simp) _ | with_reducible refine Ext.tr ?_ (by assumption)))⟩
      · rw [hq] at HTk hnc
        have HN := Lib.hid hnc
        clear hnc hq
        go_wp2
        refine region_grow (by kernel_rfl) (by kernel_rfl) ?_
        repeat (first | go_big_quiet_step (first | (go_at_call 14; with_reducible exact callsGrow (HTk.out _)) | fail) | quiet_step (first | (go_at_call 14; with_reducible exact callsGrow (HTk.out _)) | fail))
        refine wpQuiet_nil ?_
        intro w1 hb
        have hc := hb.ccell
        have hf := hb.frz
        have hs := hb.sz
        (try simp at hs); (try have hs0 := hs w.heap.size (by omega)); (try have hs1 := hs (w.heap.size + 1) (by omega)); (try have hs2 := hs (w.heap.size + 1 + 1) (by omega)); (try have hs3 := hs (w.heap.size + 1 + 1 + 1) (by omega))
        (try simp only [IntWalk.i64_left])
        go_wp2
        exact ⟨⟨by (repeat (first | with_reducible exact Ext.rfl' _ | with_reducible assumption | with_reducible refine Ext.al ?_ _ | with_reducible refine Ext.dr ?_ | with_reducible refine Ext.st ?_ (by simp) _ | with_reducible refine Ext.tr ?_ (by assumption))), k + 1, by omega, by go_num, Lib.hid (by show anyN _ (k + 1) = false; rw [anyN, hF.out, HN.out]; rfl)⟩, by simp [intOf]; omega⟩
    · have hks : k = cells.length := by omega
      have h0 : cellsE g.L.length cells = 0 := by unfold cellsE; rw [if_neg (by rw [← hks, hF.out]; decide)]
      obtain ⟨q1, q2⟩ := HV0.out h0
      have HRH1 := Lib.hid (fun w' (hw : Ext w w') => HRH.out w' hw)
      by_cases hbn : best < 0
      · obtain ⟨rfl, rfl⟩ := q1 hbn
        clear q1 q2 h0 hF
        go_wp2_with (first | (go_at_call 15; with_reducible refine Calls.mono (HRH1.out _ (by (repeat (first | with_reducible exact Ext.rfl' _ | with_reducible assumption | with_reducible refine Ext.al ?_ _ | with_reducible refine Ext.dr ?_ | with_reducible refine Ext.st ?_ (by simp) _ | with_reducible refine Ext.tr ?_ (by assumption))))) ?_; rintro e w9 ⟨rfl, hb⟩; have hc := hb.ccell; have hf := hb.frz; have hs := hb.sz; (try simp at hs); (try have t0 := hs (w.heap.size) (by first | assumption | omega)); (try have t1 := hs (w.heap.size) (by first | assumption | omega)); (try have t2 := hs (w.heap.size) (by first | assumption | omega)); (try have t3 := hs (w.heap.size) (by first | assumption | omega)); (try have t4 := hs (w.heap.size) (by first | assumption | omega)); (try have t5 := hs (w.heap.size) (by first | assumption | omega))))
        go_ret
        exact ⟨rfl, by (repeat (first | with_reducible exact Ext.rfl' _ | with_reducible assumption | with_reducible refine Ext.al ?_ _ | with_reducible refine Ext.dr ?_ | with_reducible refine Ext.st ?_ (by simp) _ | with_reducible refine Ext.tr ?_ (by assumption)))⟩
      · obtain ⟨rfl, rfl⟩ := q2 (by omega)
        clear q1 q2 h0 hF
        go_wp2_with (first | (go_at_call 15; with_reducible refine Calls.mono (HRH1.out _ (by (repeat (first | with_reducible exact Ext.rfl' _ | with_reducible assumption | with_reducible refine Ext.al ?_ _ | with_reducible refine Ext.dr ?_ | with_reducible refine Ext.st ?_ (by simp) _ | with_reducible refine Ext.tr ?_ (by assumption))))) ?_; rintro e w9 ⟨rfl, hb⟩; have hc := hb.ccell; have hf := hb.frz; have hs := hb.sz; (try simp at hs); (try have t0 := hs (w.heap.size) (by first | assumption | omega)); (try have t1 := hs (w.heap.size) (by first | assumption | omega)); (try have t2 := hs (w.heap.size) (by first | assumption | omega)); (try have t3 := hs (w.heap.size) (by first | assumption | omega)); (try have t4 := hs (w.heap.size) (by first | assumption | omega)); (try have t5 := hs (w.heap.size) (by first | assumption | omega))))
        go_ret
        exact ⟨ret_bool (by simp), by (repeat (first | with_reducible exact Ext.rfl' _ | with_reducible assumption | with_reducible refine Ext.al ?_ _ | with_reducible refine Ext.dr ?_ | with_reducible refine Ext.st ?_ (by simp) _ | with_reducible refine Ext.tr ?_ (by assumption)))⟩
end Go.Proofs.YtgnakeemcccfjaaGreat

/- The contract of the reference's Slump. -/
import Derived.Test.YtohdplnlbnoojaaSheap
namespace Go.Proofs.Ytohdplnlbnoojaa
open Go Go.RowKit Go.IntWalk

theorem Row.stO {w : World} {A : Option Addr} {l : List St} (h : Row 3 encSt w A l) {k : Nat} (hk : k < l.length) :
    ∃ b off, A = some ⟨b, off, none⟩ ∧ b < w.heap.size ∧ ∀ w', Ext w w' → w'.cell? ⟨b, off + k * 3, none⟩ = some (.int .i64 ((el l k).h : Int)) ∧ w'.cell? ⟨b, off + k * 3 + 1, none⟩ = some (.int .i64 ((el l k).l : Int)) := by
  obtain ⟨b, off, h1, h2, h3⟩ := h.addr (by omega)
  rw [el_lt _ _ hk]
  exact ⟨b, off, h1, h2, fun w' hw => ⟨h3 w' hw k hk 0 _ rfl, h3 w' hw k hk 1 _ rfl⟩⟩
/-- Levels of the cells that g knows. -/
structure Bd (g : Gr) (K : List Int) : Prop where
  len : K.length = g.L.length
  lv : LvOk K
  kn : knB K = knB g.L
theorem Falls.bd {ps : List (Nat × Nat)} {al : Nat → Nat → Int} {g : Gr} {K : List Int} (vg : VG g) (h : Falls ps al g.L K) : Bd g K := ⟨h.len, h.lev vg.lev, h.kn vg.lev⟩
theorem Bd.steeps {soils : List So} {bos : List Bo} {g : Gr} {cn : Nat} {K : List Int} (h : Bd g K) :
    stL6 soils bos (withL g K) cn = stN K (alG soils bos g cn) (psG g cn) (psG g cn).length := by
  have e1 := psG_withL g cn h.len h.kn
  have e2 := alG_withL soils bos g cn h.len
  show stN K (alG soils bos (withL g K) cn) (psG (withL g K) cn) (psG (withL g K) cn).length = _
  rw [e1, e2]
def OutSr (base : Nat) (soils : List So) (bos : List Bo) (g : Gr) (cn : Nat) (e : Ending) (w' : World) : Prop :=
  ∃ L A c, e = .returned (.agg #[.int .i64 g.X, .int .i64 g.Y, .int .i64 g.S, .int .i64 g.C, .int .i64 g.R, .slice A g.L.length c]) ∧ NewZ base w' A c L ∧ IsSl (psG g cn) (alG soils bos g cn) g.L L
theorem rsteeps_w (soils : List So) (bos : List Bo) (g : Gr) (cn : Nat) (K : List Int) (w : World) (AS AB A : Option Addr) (cS cB c : Nat) (gw : GrW w soils AS bos AB) (h0 : cbE soils bos g = 0) (hC : g.C = cn) (hF : Bd g K) (hA : Row 1 encZ w A K) :
    Calls Try.prog 39 #[.agg #[.slice AS soils.length cS, .slice AB bos.length cB], .agg #[.int .i64 g.X, .int .i64 g.Y, .int .i64 g.S, .int .i64 g.C, .int .i64 g.R, .slice A g.L.length c]] w
      fun e w' => OutStN w.heap.size (stN K (alG soils bos g cn) (psG g cn) (psG g cn).length) e w' ∧ Ext w w' := by
  obtain ⟨v, hg⟩ := cbE_ok h0
  have h := rsteepsN_c soils bos (withL g K) cn w AS AB A cS cB c gw v (chkG_ok (withL_ok hg hF.len hF.lv)) hC hA
  rw [hF.steeps, show (withL g K).L = K from rfl, hF.len] at h
  exact h
set_option maxHeartbeats 32000000 in
set_option maxRecDepth 100000 in
theorem rslump_c (soils : List So) (bos : List Bo) (g : Gr) (cn : Nat) (w : World) (AS AB A : Option Addr) (cS cB c : Nat) (gw : GrW w soils AS bos AB) (h0 : cbE soils bos g = 0) (hC : g.C = cn) (hA : Row 1 encZ w A g.L) :
    Calls Try.prog 46 #[.agg #[.slice AS soils.length cS, .slice AB bos.length cB], .agg #[.int .i64 g.X, .int .i64 g.Y, .int .i64 g.S, .int .i64 g.C, .int .i64 g.R, .slice A g.L.length c]] w fun e w' => OutSr w.heap.size soils bos g cn e w' ∧ Ext w w' := by
  obtain ⟨v, hg⟩ := cbE_ok h0
  have vg := chkG_ok hg
  obtain ⟨cn', rn, e1, e2, e3, e4, e5, e6, e7, e8⟩ := vg.nat
  have hcc : cn' = cn := by omega
  subst hcc
  have hn : g.L.length ≤ 1024 := by omega
  have hpos : 0 < g.L.length := by rw [e7]; exact Nat.mul_pos e3 e5
  have hrv : ∀ i, i < g.L.length → 1 ≤ gi (rL soils bos g cn') i ∧ gi (rL soils bos g cn') i ≤ 1000 := by
    intro i hi
    rw [gi_mkI_rF _ _ _ _ _ hi]
    exact runB_pos v _ _
  have HCP := Lib.hid (fun w' (hw : Ext w w') => copyGrid_c g w' A c (by omega) (hA.ext hw))
  have HST := Lib.hid (fun K (hF : Falls (psG g cn') (alG soils bos g cn') g.L K) w' A2 c2 (hw : Ext w w') hr => rsteeps_w soils bos g cn' K w' AS AB A2 cS cB c2 (gw.ext hw) h0 e1 (hF.bd vg) hr)
  have HAL := Lib.hid (fun a b (ha : a < g.L.length) (hb : b < g.L.length) w' (hw : Ext w w') => rallowed_c soils bos g cn' a b w' AS AB A cS cB c (gw.ext hw) v vg e1 ha hb)
  have HAP := Lib.hid (fun a b (ha : a < g.L.length) (hb : b < g.L.length) => alw_pos vg.hs (hrv a ha) (hrv b hb))
  have HPM : Hid (∀ p ∈ psG g cn', p.1 < g.L.length ∧ p.2 < g.L.length ∧ gi g.L p.1 ≠ 30000 ∧ gi g.L p.2 ≠ 30000) := Lib.hid (by
    intro p hp
    have := (prs_mem (cn := cn') (rn := rn) (kn := knB g.L) (p := p)).1 (by unfold psG at hp; rw [e7] at hp; exact hp)
    rw [← e7] at this
    exact ⟨this.1, this.2.1, by simpa [knB] using this.2.2.1, by simpa [knB] using this.2.2.2.1⟩)
  have HCM := Lib.hid (alG_comm soils bos g cn')
  have HF0 := Lib.hid (Falls.start (psG g cn') (alG soils bos g cn') vg.lev)
  have HLV := Lib.hid vg.lev
  rw [show alw g.S (rL soils bos g cn') = alG soils bos g cn' from rfl] at HAL HAP
  have HLN : Hid (∀ K, (stN K (alG soils bos g cn') (psG g cn') (psG g cn').length).length ≤ 4000) := Lib.hid (fun K => by
    have h1 := stN_len K (alG soils bos g cn') (psG g cn') (psG g cn').length
    have h2 := prsN_len cn' g.L.length (knB g.L) g.L.length
    unfold psG at h1 ⊢
    omega)
  unfold OutSr
  generalize alG soils bos g cn' = al at *
  generalize psG g cn' = ps at *
  have HM0 : Hid (∀ L, Falls ps al g.L L → -20000 * (g.L.length : Int) ≤ sumL L) := Lib.hid (by
    intro L hL
    unfold sumL
    rw [hL.len]
    refine sumN_low _ _ fun i hi => ?_
    by_cases hq : gi g.L i = 30000
    · rw [hL.unk i hq]; omega
    · exact hL.lo i hq)
  clear gw h0 hC hA v vg hg e1 e2 e3 e4 e5 e6 e7 e8 hrv
  go_enter Try.func46, Try.ntmps46
  go_upto_region 2 with (first | (go_at_call 90; (with_reducible refine Calls.mono (HCP.out _ (by (repeat (first | with_reducible exact Ext.rfl' _ | with_reducible assumption | with_reducible refine Ext.al ?_ _ | with_reducible refine Ext.dr ?_ | with_reducible refine Ext.st ?_ (by simp) _ | with_reducible refine Ext.tr ?_ (by assumption))))) ?_); rintro e w1 ⟨⟨A2, c2, rfl, hN2⟩, hb⟩; have hc := hb.ccell; have hf := hb.frz; have hs := hb.sz; (try simp at hs); (try have t0 := hs (w.heap.size) (by first | assumption | omega)); (try have t1 := hs (w.heap.size + 1) (by first | assumption | omega)); (try have t2 := hs (w.heap.size + 1 + 1) (by first | assumption | omega)); (try have t3 := hs (w.heap.size) (by first | assumption | omega)); (try have t4 := hs (w.heap.size) (by first | assumption | omega)); (try have t5 := hs (w.heap.size) (by first | assumption | omega))))
  obtain ⟨g2, hA2, hg2, hO2⟩ := newz_some hpos hN2
  subst hA2
  simp at hg2
  have hg21 := hO2.lt
  refine wp_name (fun W hW => ?_)
  have hE1 : Ext w1 W := by rw [hW]; (repeat (first | with_reducible exact Ext.rfl' _ | with_reducible assumption | with_reducible refine Ext.al ?_ _ | with_reducible refine Ext.dr ?_ | with_reducible refine Ext.st ?_ (by simp) _ | with_reducible refine Ext.tr ?_ (by assumption)))
  have hEW : Ext w W := by rw [hW]; (repeat (first | with_reducible exact Ext.rfl' _ | with_reducible assumption | with_reducible refine Ext.al ?_ _ | with_reducible refine Ext.dr ?_ | with_reducible refine Ext.st ?_ (by simp) _ | with_reducible refine Ext.tr ?_ (by assumption)))
  have a0 : W.cell? ⟨w.heap.size, 0, none⟩ = some (.slice AS soils.length cS) := by rw [hW]; simp [*, go_sem]
  have a1 : W.cell? ⟨w.heap.size, 1, none⟩ = some (.slice AB bos.length cB) := by rw [hW]; simp [*, go_sem]
  have ka : CellsAt W w.heap.size 0 [.slice AS soils.length cS, .slice AB bos.length cB] := by
    intro j v hj
    match j with
    | 0 => simp at hj; subst hj; simpa using a0
    | 1 => simp at hj; subst hj; simpa using a1
    | j + 2 => simp at hj
  have km : CellsAt W (w.heap.size + 1) 0 [.int .i64 g.X, .int .i64 g.Y, .int .i64 g.S, .int .i64 g.C, .int .i64 g.R, .slice A g.L.length c] := by rw [hW]; refine cells_six ⟨?_, ?_, ?_, ?_, ?_, ?_⟩ <;> simp [*, go_sem]
  have kz : CellsAt W (w.heap.size + 1 + 1) 0 [.int .i64 0, .int .i64 0, .int .i64 0, .int .i64 0, .int .i64 0, .slice none 0 0] := by rw [hW]; refine cells_six ⟨?_, ?_, ?_, ?_, ?_, ?_⟩ <;> simp [*, go_sem]
  have ko : CellsAt W w1.heap.size 0 [.int .i64 g.X, .int .i64 g.Y, .int .i64 g.S, .int .i64 g.C, .int .i64 g.R, .slice (some ⟨g2, 0, none⟩) g.L.length c2] := by rw [hW]; refine cells_six ⟨?_, ?_, ?_, ?_, ?_, ?_⟩ <;> simp [*, go_sem]
  have fz : ∀ o, W.frozen? ⟨w.heap.size + 1 + 1, o, none⟩ = false := by intro o; rw [hW]; simp [*, go_sem]
  have hO := Lib.hid (hO2.ext hE1)
  have zo : w1.heap.size < W.heap.size := by rw [hW]; simp
  have z2 : w.heap.size + 1 + 1 < W.heap.size := by rw [hW]; simp; omega
  have z1 : w.heap.size + 1 < W.heap.size := by omega
  have z0 : w.heap.size < W.heap.size := by omega
  have n0 : w.heap.size ≠ g2 := by omega
  have n1 : w.heap.size + 1 ≠ g2 := by omega
  have n2 : w.heap.size + 1 + 1 ≠ g2 := by omega
  have n3 : w1.heap.size ≠ g2 := by omega
  have hwg : w.heap.size ≤ g2 := by omega
  have hgW : g2 < W.heap.size := by omega
  clear hW hN2 hO2 hb hc hf hs t0 t1 t2 t3 t4 t5 hg2 hg21 hE1 a0 a1 HCP
  generalize w1.heap.size = no at *
  go_loopg [6, 7] ((sumL g.L + 20000 * (g.L.length : Int)).toNat) (fun gk _ _ wr => W.grownBy wr (some g2) ∧ ∃ K : List Int, Hid (OwnK 3 1 encZ wr g2 c2 K) ∧ Hid (Falls ps al g.L K) ∧ (sumL K + 20000 * (g.L.length : Int)).toNat ≤ gk)
  case atStart => exact ⟨tch_refl _ _, g.L, hO, HF0, Nat.le_refl _⟩
  case round =>
    clear hO
    obtain ⟨hT, K, hO, hFa, hgk⟩ := hrel
    have hEr := tch_to_ext hT hEW hwg
    obtain ⟨b0, b1⟩ : wr.cell? ⟨w.heap.size, 0, none⟩ = some (.slice AS soils.length cS) ∧ wr.cell? ⟨w.heap.size, 1, none⟩ = some (.slice AB bos.length cB) := by
      have h1 := CellsAt.grown ka hT z0 (by intro e; injection e with e; exact n0 e)
      exact ⟨by simpa using h1 0 _ rfl, by simpa using h1 1 _ rfl⟩
    obtain ⟨o0, o1, o2, o3, o4, o5⟩ := (CellsAt.grown ko hT zo (by intro e; injection e with e; exact n3 e)).six
    have y3 : no < wr.heap.size := Nat.lt_of_lt_of_le zo hT.size
    have y2 : w.heap.size + 1 + 1 < wr.heap.size := Nat.lt_of_lt_of_le z2 hT.size
    have y0 : w.heap.size < wr.heap.size := by omega
    have hgw : g2 < wr.heap.size := hO.out.lt
    have HSX := Lib.hid (fun w' (hw : Ext wr w') => HST.out K hFa.out w' _ c2 (hEr.tr hw) ((hO.out.row encZ_len).ext hw))
    have hln := HLN.out K
    obtain ⟨SL, hSL⟩ : ∃ SL, stN K al ps ps.length = SL := ⟨_, rfl⟩
    rw [hSL] at HSX hln
    have HSL := Lib.hid hSL
    clear hSL
    obtain ⟨wo, hwo⟩ : ∃ x, x = wr := ⟨_, rfl⟩
    subst hwo
    go_upto_region 3 with (first | (go_at_call 39; (with_reducible refine Calls.mono (HSX.out _ (by (repeat (first | with_reducible exact Ext.rfl' _ | with_reducible assumption | with_reducible refine Ext.al ?_ _ | with_reducible refine Ext.dr ?_ | with_reducible refine Ext.st ?_ (by simp) _ | with_reducible refine Ext.tr ?_ (by assumption))))) ?_); rintro e w6 ⟨⟨A6, c6, rfl, hR6, hfr⟩, hb⟩; have hc := hb.ccell; have hf := hb.frz; have hs := hb.sz; (try simp at hs); (try have t0 := hs (w.heap.size) (by first | assumption | omega)); (try have t1 := hs (no) (by first | assumption | omega)); (try have t2 := hs (w.heap.size + 1 + 1) (by first | assumption | omega)); (try have t3 := hs (w.heap.size) (by first | assumption | omega)); (try have t4 := hs (w.heap.size) (by first | assumption | omega)); (try have t5 := hs (w.heap.size) (by first | assumption | omega))))
    have hE6 : Ext wo w6 := by assumption
    have hT6 := tch_ext hT hE6
    have hO6 := Lib.hid (hO.out.ext hE6)
    have hR6 := Lib.hid hR6
    have hfg : Hid (∀ q off, A6 = some ⟨q, off, none⟩ → q ≠ g2) := Lib.hid (fun q off hq => by have := hfr q off hq; omega)
    clear hb hc hf hs t0 t1 t2 t3 t4 t5 hfr o0 o1 o2 o3 o4 o5 b0 b1 HSX hT hEr hE6 y3 y2 y0 hgw hO
    by_cases hz : SL.length = 0
    · have HIS : Hid (IsSl ps al g.L K) := Lib.hid ⟨hFa.out, (st_nil HCM.out ps).1 (by rw [HSL.out]; exact List.eq_nil_of_length_eq_zero hz)⟩
      have hz' : ((SL.length : Int) == 0) = true := by simp [hz]
      have e0 := CellsAt.grown kz hT6 z2 (by intro e; injection e with e; exact n2 e)
      have fz6 : ∀ o, w6.frozen? ⟨w.heap.size + 1 + 1, o, none⟩ = false := fun o => (grown_frzS hT6 z2 (by intro e; injection e with e; exact n2 e) o).trans (fz o)
      have HE0 := Lib.hid e0
      have hEw := tch_to_ext hT6 hEW hwg
      obtain ⟨q0, q1, q2, q3, q4, q5⟩ := e0.six
      obtain ⟨o0, o1, o2, o3, o4, o5⟩ := (CellsAt.grown ko hT6 zo (by intro e; injection e with e; exact n3 e)).six
      clear e0 hz hT6
      go_wp2
      have hSL := stL_at (w.heap.size + 1 + 1) [.int .i64 g.X, .int .i64 g.Y, .int .i64 g.S, .int .i64 g.C, .int .i64 g.R, .slice (some ⟨g2, 0, none⟩) g.L.length c2] _ 0 w6 HE0.out rfl
      have hXL := stL_ext (w.heap.size + 1 + 1) (by omega) [.int .i64 g.X, .int .i64 g.Y, .int .i64 g.S, .int .i64 g.C, .int .i64 g.R, .slice (some ⟨g2, 0, none⟩) g.L.length c2] 0 w6 hEw
      have hNL := stL_own (w.heap.size + 1 + 1) (Ne.symm n2) [.int .i64 g.X, .int .i64 g.Y, .int .i64 g.S, .int .i64 g.C, .int .i64 g.R, .slice (some ⟨g2, 0, none⟩) g.L.length c2] 0 w6 hO6.out
      show bodyPost _ _ _ _ _ (stL w6 (w.heap.size + 1 + 1) 0 [.int .i64 g.X, .int .i64 g.Y, .int .i64 g.S, .int .i64 g.C, .int .i64 g.R, .slice (some ⟨g2, 0, none⟩) g.L.length c2])
      generalize stL w6 (w.heap.size + 1 + 1) 0 [.int .i64 g.X, .int .i64 g.Y, .int .i64 g.S, .int .i64 g.C, .int .i64 g.R, .slice (some ⟨g2, 0, none⟩) g.L.length c2] = WL at hSL hXL hNL ⊢
      obtain ⟨s0, s1, s2, s3, s4, s5⟩ := hSL.six
      refine bodyPost_ret (v := .agg #[.int .i64 g.X, .int .i64 g.Y, .int .i64 g.S, .int .i64 g.C, .int .i64 g.R, .slice (some ⟨g2, 0, none⟩) g.L.length c2]) (by simp [results, Try.results46, go_sem, s0, s1, s2, s3, s4, s5]) rfl ⟨⟨K, some ⟨g2, 0, none⟩, c2, rfl, newZ_own hNL hwg, HIS.out⟩, hXL⟩
    · have hz' : ((SL.length : Int) == 0) = false := by simp [hz]
      obtain ⟨sumS, hsS⟩ : ∃ s, sumL K = s := ⟨_, rfl⟩
      rw [hsS] at hgk
      have HLS := Lib.hid hsS
      have hzp : 0 < SL.length := by omega
      clear hsS hz
      obtain ⟨gko, hgko⟩ : ∃ x, x = gk := ⟨_, rfl⟩
      subst hgko
      go_wp2
      go_loopg [7] SL.length (fun g3 i wx => W.grownBy wx (some g2) ∧ ∃ (k : Nat) (N : List Int), k + g3 = SL.length ∧ i = .int .i64 (k : Int) ∧ Hid (N.length = g.L.length) ∧ Hid (Row 3 encSt wx A6 SL) ∧ Hid (OwnK 3 1 encZ wx g2 c2 N) ∧ Hid (Falls ps al g.L N) ∧ Hid (k = 0 → N = K) ∧ Hid (1 ≤ k → sumL N < sumS))
      case atStart => exact ⟨hT6, 0, K, by omega, rfl, Lib.hid hFa.out.len, hR6, hO6, hFa, Lib.hid (fun _ => rfl), Lib.hid (fun h => absurd h (by omega))⟩
      case round =>
        clear hT6 hO6 hR6
        obtain ⟨hT, k, N, hkg, rfl, hNl, hR, hO, hFN, hk0, hsum⟩ := hrel
        have hEr := tch_to_ext hT hEW hwg
        by_cases hlt : k < SL.length
        case neg =>
          have hks : k = SL.length := by omega
          go_wp2
          go_roundg (gko - 1)
          case measure =>
            have h4 := HM0.out K hFa.out
            have h3 := HM0.out N hFN.out
            have h5 := hsum.out (by omega)
            rw [HLS.out] at h4
            omega
          case rel =>
            refine ⟨hT, N, hO, hFN, ?_⟩
            have h4 := HM0.out K hFa.out
            have h3 := HM0.out N hFN.out
            have h5 := hsum.out (by omega)
            rw [HLS.out] at h4
            omega
        have hmem : el SL k ∈ stN K al ps ps.length := by rw [HSL.out, el_lt _ _ hlt]; exact List.getElem_mem hlt
        obtain ⟨hpr, hov⟩ := st_pair hmem
        obtain ⟨bP, oP, rfl, hbP, hcP⟩ := hR.out.stO hlt
        obtain ⟨c0, c1⟩ := hcP _ (Ext.rfl' _)
        have hfq := hfg.out _ _ rfl
        have hRS : Hid (∀ w', wr.grownBy w' (some g2) → Row 3 encSt w' (some ⟨bP, oP, none⟩) SL) := Lib.hid (fun w' hw => tch_row hw hR.out hfq)
        clear hcP hmem hR
        generalize el SL k = u at *
        obtain ⟨pa, pb, po⟩ := u
        dsimp only at *
        have hin : pa < g.L.length ∧ pb < g.L.length ∧ gi g.L pa ≠ 30000 ∧ gi g.L pb ≠ 30000 := by
          rcases hpr with h | h
          · exact HPM.out _ h
          · have := HPM.out _ h
            exact ⟨this.2.1, this.1, this.2.2.2, this.2.2.1⟩
        obtain ⟨hpa, hpb, hka, hkb⟩ := hin
        have hd := HAP.out pa pb hpa hpb
        have hlev := HLV.out
        have hva : -20000 ≤ gi N pa ∧ gi N pa ≤ 20000 := ⟨hFN.out.lo pa hka, by have := hFN.out.le pa; rcases hlev pa hpa with h | h <;> omega⟩
        have hvb : -20000 ≤ gi N pb ∧ gi N pb ≤ 20000 := ⟨hFN.out.lo pb hkb, by have := hFN.out.le pb; rcases hlev pb hpb with h | h <;> omega⟩
        have hFP := Lib.hid (hFN.out.pull HCM.out hpr (by omega) hpa hka hkb)
        have hSP := pull_sum (L := N) (a := pa) (by rw [hNl.out]; exact hpa) (gi N pb + al pa pb)
        have hsn : Hid (sumL (N.set pa (min (gi N pa) (gi N pb + al pa pb))) < sumS) := Lib.hid (by
          by_cases hk : k = 0
          · have h1 := hk0.out hk
            have h2 := HLS.out
            rw [← h1] at h2 hov
            have := hSP.2 hov
            omega
          · have := hsum.out (by omega)
            omega)
        have hAK := Lib.hid (fun w' (hw : Ext wr w') => HAL.out pa pb hpa hpb w' (hEr.tr hw))
        have la := hO.out.z (i := pa) (by rw [hNl.out]; exact hpa)
        have lb := hO.out.z (i := pb) (by rw [hNl.out]; exact hpb)
        have fg := hO.out.frozen encZ_len pa
        have zg := hO.out.lt
        have hOS : Hid (∀ w' z, Ext wr w' → z = min (gi N pa) (gi N pb + al pa pb) → OwnK 3 1 encZ (w'.setCell ⟨g2, pa, none⟩ (.int .i64 z)) g2 c2 (N.set pa (min (gi N pa) (gi N pb + al pa pb)))) := Lib.hid (fun w' z hw hz => by rw [hz]; exact (hO.out.ext hw).setZ pa (by rw [hNl.out]; exact hpa) _)
        have hNN : Hid ((N.set pa (min (gi N pa) (gi N pb + al pa pb))).length = g.L.length) := Lib.hid (by rw [List.length_set]; exact hNl.out)
        obtain ⟨b0, b1⟩ : wr.cell? ⟨w.heap.size, 0, none⟩ = some (.slice AS soils.length cS) ∧ wr.cell? ⟨w.heap.size, 1, none⟩ = some (.slice AB bos.length cB) := by
          have h1 := CellsAt.grown ka hT z0 (by intro e; injection e with e; exact n0 e)
          exact ⟨by simpa using h1 0 _ rfl, by simpa using h1 1 _ rfl⟩
        obtain ⟨o0, o1, o2, o3, o4, o5⟩ := (CellsAt.grown ko hT zo (by intro e; injection e with e; exact n3 e)).six
        obtain ⟨m0, m1, m2, m3, m4, m5⟩ := (CellsAt.grown km hT z1 (by intro e; injection e with e; exact n1 e)).six
        have y3 : no < wr.heap.size := Nat.lt_of_lt_of_le zo hT.size
        have y1 : w.heap.size + 1 < wr.heap.size := Nat.lt_of_lt_of_le z1 hT.size
        have y0 : w.heap.size < wr.heap.size := by omega
        have hpi : (pa : Int) < (g.L.length : Int) := by omega
        have hpj : (pb : Int) < (g.L.length : Int) := by omega
        clear hO hov hpr hSP hlev hk0 hsum hFN hNl hka hkb
        generalize N.set pa (min (gi N pa) (gi N pb + al pa pb)) = N2 at *
        generalize al pa pb = dd at *
        generalize gi N pa = xa at *
        generalize gi N pb = xb at *
        obtain ⟨y, hy⟩ : ∃ y, xb + dd = y := ⟨_, rfl⟩
        have hwy : IntKind.i64.wrap (xb + dd) = y := by rw [hy]; exact IntWalk.i64_in _ (by omega)
        rw [hy] at hOS
        have hki : (k : Int) < (SL.length : Int) := by omega
        have hOY := Lib.hid (fun w' hw => hOS.out w' (min xa y) hw rfl)
        clear hy hOS
        go_upto_region 8 with fail
        refine region_grow_tail 41 (by kernel_rfl) (by kernel_rfl) ?_
        simp only [List.take_succ_cons, List.take_zero, List.drop_succ_cons, List.drop_zero]
        repeat (first | go_big_quiet_step (first | (go_at_call 42; with_reducible exact callsGrow (hAK.out _ (Grow.ok _))) | fail) | quiet_step (first | (go_at_call 42; with_reducible exact callsGrow (hAK.out _ (Grow.ok _))) | fail))
        refine wpQuiet_nil ?_
        intro w1 hb
        have hc := hb.ccell
        have hf := hb.frz
        have hs := hb.sz
        (try simp at hs); (try have hs0 := hs w.heap.size (by omega)); (try have hs1 := hs (w.heap.size + 1) (by omega)); (try have hs2 := hs (w.heap.size + 1 + 1) (by omega)); (try have hs3 := hs (w.heap.size + 1 + 1 + 1) (by omega))
        have hE4 : Ext wr w1 := by assumption
        have f1 := (hb.frz g2 pa zg).trans fg
        have la1 := (hb.ccell g2 pa zg).trans la
        have zg1 := hs g2 zg
        have hTq := tch_set (tch_ext (tch_refl wr g2) hE4) pa (.int .i64 (min xa y))
        have hT4 := tch_set (tch_ext hT hE4) pa (.int .i64 (min xa y))
        have hO4 := Lib.hid (hOY.out _ hE4)
        have hR4 := Lib.hid (hRS.out _ hTq)
        clear hc hf hs hb hTq
        go_wp2
        go_roundg (SL.length - (k + 1))
        case measure => omega
        case rel => exact ⟨hT4, k + 1, N2, by omega, by go_num, hNN, hR4, hO4, hFP, Lib.hid (fun h => absurd h (by omega)), Lib.hid (fun _ => hsn.out)⟩
end Go.Proofs.Ytohdplnlbnoojaa

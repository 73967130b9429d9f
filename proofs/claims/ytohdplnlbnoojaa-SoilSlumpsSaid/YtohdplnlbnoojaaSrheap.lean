/- The contract of the reference's Heap. -/
import Derived.Test.YtohdplnlbnoojaaSrslump
namespace Go.Proofs.Ytohdplnlbnoojaa
open Go Go.RowKit Go.IntWalk

theorem push_ng {K : List Int} {l h : Nat} {d : Int} (hl : gi K l ≠ 30000) (hh : gi K h ≠ 30000) (hx : max (gi K l) (gi K h - d) ≠ 30000) :
    (ngL K).set l (min (gi (ngL K) l) (gi (ngL K) h + d)) = ngL (K.set l (max (gi K l) (gi K h - d))) := by
  rw [ngL_set, gi_ngL, gi_ngL, ngV_k hl, ngV_k hh, ngV_k hx]
  congr 1
  omega
theorem LvOk.set {K : List Int} (h : LvOk K) (i : Nat) (x : Int) (hx : -20000 ≤ x ∧ x ≤ 20000) : LvOk (K.set i x) := fun j hj => by
  rw [List.length_set] at hj
  by_cases hi : i < K.length
  · rw [gi_set _ _ _ hi]
    split
    · exact .inr hx
    · exact h j hj
  · rw [List.set_eq_of_length_le (by omega)]
    exact h j hj
theorem Falls.bdN {ps : List (Nat × Nat)} {al : Nat → Nat → Int} {g : Gr} {K : List Int} (vg : VG g) (hk : LvOk K) (h : Falls ps al (ngL g.L) (ngL K)) : Bd g K := by
  have hv : LvOk g.L := vg.lev
  refine ⟨?_, hk, ?_⟩
  · have := h.len
    rw [ngL_len, ngL_len] at this
    exact this
  · have := h.kn (ngL_ok hv)
    rw [kn_ngL hk, kn_ngL hv] at this
    exact this
theorem okP_ng {K : List Int} {a b : Nat} {d : Int} (ha : gi K a ≠ 30000) (hb : gi K b ≠ 30000) (h : okP K a b d) : okP (ngL K) a b d := by
  unfold okP at h ⊢
  rw [gi_ngL, gi_ngL, ngV_k ha, ngV_k hb]
  omega
def OutHr (base : Nat) (soils : List So) (bos : List Bo) (g : Gr) (cn : Nat) (e : Ending) (w' : World) : Prop :=
  ∃ L A c, e = .returned (.agg #[.int .i64 g.X, .int .i64 g.Y, .int .i64 g.S, .int .i64 g.C, .int .i64 g.R, .slice A g.L.length c]) ∧ NewZ base w' A c L ∧ LvOk L ∧ IsSl (psG g cn) (alG soils bos g cn) (ngL g.L) (ngL L)
set_option maxHeartbeats 32000000 in
set_option maxRecDepth 100000 in
theorem rheap_c (soils : List So) (bos : List Bo) (g : Gr) (cn : Nat) (w : World) (AS AB A : Option Addr) (cS cB c : Nat) (gw : GrW w soils AS bos AB) (h0 : cbE soils bos g = 0) (hC : g.C = cn) (hA : Row 1 encZ w A g.L) :
    Calls Try.prog 47 #[.agg #[.slice AS soils.length cS, .slice AB bos.length cB], .agg #[.int .i64 g.X, .int .i64 g.Y, .int .i64 g.S, .int .i64 g.C, .int .i64 g.R, .slice A g.L.length c]] w fun e w' => OutHr w.heap.size soils bos g cn e w' ∧ Ext w w' := by
  obtain ⟨v, hg⟩ := cbE_ok h0
  have vg := chkG_ok hg
  obtain ⟨cn', rn, e1, e2, e3, e4, e5, e6, e7, e8⟩ := vg.nat
  have hcc : cn' = cn := by omega
  subst hcc
  have hn : g.L.length ≤ 1024 := by omega
  have hpos : 0 < g.L.length := by rw [e7]; exact Nat.mul_pos e3 e5
  have hrv : ∀ i, i < g.L.length → 1 ≤ gi (rL soils bos g cn') i ∧ gi (rL soils bos g cn') i ≤ 1000 := by
    intro i hi
    rw [gi_mkI_rF _ _ _ _ _ hi]
    exact runB_pos v _ _
  have HCP := Lib.hid (fun w' (hw : Ext w w') => copyGrid_c g w' A c (by omega) (hA.ext hw))
  have HST := Lib.hid (fun K (hk : LvOk K) (hF : Falls (psG g cn') (alG soils bos g cn') (ngL g.L) (ngL K)) w' A2 c2 (hw : Ext w w') hr => rsteeps_w soils bos g cn' K w' AS AB A2 cS cB c2 (gw.ext hw) h0 e1 (hF.bdN vg hk) hr)
  have HAL := Lib.hid (fun a b (ha : a < g.L.length) (hb : b < g.L.length) w' (hw : Ext w w') => rallowed_c soils bos g cn' a b w' AS AB A cS cB c (gw.ext hw) v vg e1 ha hb)
  have HAP := Lib.hid (fun a b (ha : a < g.L.length) (hb : b < g.L.length) => alw_pos vg.hs (hrv a ha) (hrv b hb))
  have HPM : Hid (∀ p ∈ psG g cn', p.1 < g.L.length ∧ p.2 < g.L.length ∧ gi g.L p.1 ≠ 30000 ∧ gi g.L p.2 ≠ 30000) := Lib.hid (by
    intro p hp
    have := (prs_mem (cn := cn') (rn := rn) (kn := knB g.L) (p := p)).1 (by unfold psG at hp; rw [e7] at hp; exact hp)
    rw [← e7] at this
    exact ⟨this.1, this.2.1, by simpa [knB] using this.2.2.1, by simpa [knB] using this.2.2.2.1⟩)
  have HCM := Lib.hid (alG_comm soils bos g cn')
  have hvg : LvOk g.L := vg.lev
  have HF0 := Lib.hid (Falls.start (psG g cn') (alG soils bos g cn') (ngL_ok hvg))
  have HL0 := Lib.hid hvg
  have HLV := Lib.hid vg.lev
  have HKK : Hid (∀ K, LvOk K → Falls (psG g cn') (alG soils bos g cn') (ngL g.L) (ngL K) → ∀ i, gi g.L i ≠ 30000 → gi K i ≠ 30000) := Lib.hid (fun K hk hF i hi => by
    have h1 := congrFun (hF.bdN vg hk).kn i
    unfold knB at h1
    rw [decide_eq_true hi] at h1
    exact of_decide_eq_true h1)
  rw [show alw g.S (rL soils bos g cn') = alG soils bos g cn' from rfl] at HAL HAP
  have HLN : Hid (∀ K, (stN K (alG soils bos g cn') (psG g cn') (psG g cn').length).length ≤ 4000) := Lib.hid (fun K => by
    have h1 := stN_len K (alG soils bos g cn') (psG g cn') (psG g cn').length
    have h2 := prsN_len cn' g.L.length (knB g.L) g.L.length
    unfold psG at h1 ⊢
    omega)
  unfold OutHr
  generalize alG soils bos g cn' = al at *
  generalize psG g cn' = ps at *
  have HM0 : Hid (∀ L, Falls ps al (ngL g.L) L → -20000 * (g.L.length : Int) ≤ sumL L) := Lib.hid (by
    intro L hL
    unfold sumL
    rw [hL.len, ngL_len]
    refine sumN_low _ _ fun i hi => ?_
    by_cases hq : gi (ngL g.L) i = 30000
    · rw [hL.unk i hq]; omega
    · exact hL.lo i hq)
  clear gw h0 hC hA v vg hg e1 e2 e3 e4 e5 e6 e7 e8 hrv
  go_enter Try.func47, Try.ntmps47
  go_upto_region 2 with (first | (go_at_call 90; (with_reducible refine Calls.mono (HCP.out _ (by (repeat (first | with_reducible exact Ext.rfl' _ | with_reducible assumption | with_reducible refine Ext.al ?_ _ | with_reducible refine Ext.dr ?_ | with_reducible refine Ext.st ?_ (by simp) _ | with_reducible refine Ext.tr ?_ (by assumption))))) ?_); rintro e w1 ⟨⟨A2, c2, rfl, hN2⟩, hb⟩; have hc := hb.ccell; have hf := hb.frz; have hs := hb.sz; (try simp at hs); (try have t0 := hs (w.heap.size) (by first | assumption | omega)); (try have t1 := hs (w.heap.size + 1) (by first | assumption | omega)); (try have t2 := hs (w.heap.size + 1 + 1) (by first | assumption | omega)); (try have t3 := hs (w.heap.size) (by first | assumption | omega)); (try have t4 := hs (w.heap.size) (by first | assumption | omega)); (try have t5 := hs (w.heap.size) (by first | assumption | omega))))
  obtain ⟨g2, hA2, hg2, hO2⟩ := newz_some hpos hN2
  subst hA2
  simp at hg2
  have hg21 := hO2.lt
  refine wp_name (fun W hW => ?_)
  have hE1 : Ext w1 W := by rw [hW]; (repeat (first | with_reducible exact Ext.rfl' _ | with_reducible assumption | with_reducible refine Ext.al ?_ _ | with_reducible refine Ext.dr ?_ | with_reducible refine Ext.st ?_ (by simp) _ | with_reducible refine Ext.tr ?_ (by assumption)))
  have hEW : Ext w W := by rw [hW]; (repeat (first | with_reducible exact Ext.rfl' _ | with_reducible assumption | with_reducible refine Ext.al ?_ _ | with_reducible refine Ext.dr ?_ | with_reducible refine Ext.st ?_ (by simp) _ | with_reducible refine Ext.tr ?_ (by assumption)))
  have a0 : W.cell? ⟨w.heap.size, 0, none⟩ = some (.slice AS soils.length cS) := by rw [hW]; simp [*, go_sem]
  have a1 : W.cell? ⟨w.heap.size, 1, none⟩ = some (.slice AB bos.length cB) := by rw [hW]; simp [*, go_sem]
  have ka : CellsAt W w.heap.size 0 [.slice AS soils.length cS, .slice AB bos.length cB] := by
    intro j v hj
    match j with
    | 0 => simp at hj; subst hj; simpa using a0
    | 1 => simp at hj; subst hj; simpa using a1
    | j + 2 => simp at hj
  have km : CellsAt W (w.heap.size + 1) 0 [.int .i64 g.X, .int .i64 g.Y, .int .i64 g.S, .int .i64 g.C, .int .i64 g.R, .slice A g.L.length c] := by rw [hW]; refine cells_six ⟨?_, ?_, ?_, ?_, ?_, ?_⟩ <;> simp [*, go_sem]
  have kz : CellsAt W (w.heap.size + 1 + 1) 0 [.int .i64 0, .int .i64 0, .int .i64 0, .int .i64 0, .int .i64 0, .slice none 0 0] := by rw [hW]; refine cells_six ⟨?_, ?_, ?_, ?_, ?_, ?_⟩ <;> simp [*, go_sem]
  have ko : CellsAt W w1.heap.size 0 [.int .i64 g.X, .int .i64 g.Y, .int .i64 g.S, .int .i64 g.C, .int .i64 g.R, .slice (some ⟨g2, 0, none⟩) g.L.length c2] := by rw [hW]; refine cells_six ⟨?_, ?_, ?_, ?_, ?_, ?_⟩ <;> simp [*, go_sem]
  have fz : ∀ o, W.frozen? ⟨w.heap.size + 1 + 1, o, none⟩ = false := by intro o; rw [hW]; simp [*, go_sem]
  have hO := Lib.hid (hO2.ext hE1)
  have zo : w1.heap.size < W.heap.size := by rw [hW]; simp
  have z2 : w.heap.size + 1 + 1 < W.heap.size := by rw [hW]; simp; omega
  have z1 : w.heap.size + 1 < W.heap.size := by omega
  have z0 : w.heap.size < W.heap.size := by omega
  have n0 : w.heap.size ≠ g2 := by omega
  have n1 : w.heap.size + 1 ≠ g2 := by omega
  have n2 : w.heap.size + 1 + 1 ≠ g2 := by omega
  have n3 : w1.heap.size ≠ g2 := by omega
  have hwg : w.heap.size ≤ g2 := by omega
  have hgW : g2 < W.heap.size := by omega
  clear hW hN2 hO2 hb hc hf hs t0 t1 t2 t3 t4 t5 hg2 hg21 hE1 a0 a1 HCP
  generalize w1.heap.size = no at *
  go_loopg [6, 7] ((sumL (ngL g.L) + 20000 * (g.L.length : Int)).toNat) (fun gk _ _ wr => W.grownBy wr (some g2) ∧ ∃ K : List Int, Hid (OwnK 3 1 encZ wr g2 c2 K) ∧ Hid (LvOk K) ∧ Hid (Falls ps al (ngL g.L) (ngL K)) ∧ (sumL (ngL K) + 20000 * (g.L.length : Int)).toNat ≤ gk)
  case atStart => exact ⟨tch_refl _ _, g.L, hO, HL0, HF0, Nat.le_refl _⟩
  case round =>
    clear hO
    obtain ⟨hT, K, hO, hLK, hFa, hgk⟩ := hrel
    have hEr := tch_to_ext hT hEW hwg
    obtain ⟨b0, b1⟩ : wr.cell? ⟨w.heap.size, 0, none⟩ = some (.slice AS soils.length cS) ∧ wr.cell? ⟨w.heap.size, 1, none⟩ = some (.slice AB bos.length cB) := by
      have h1 := CellsAt.grown ka hT z0 (by intro e; injection e with e; exact n0 e)
      exact ⟨by simpa using h1 0 _ rfl, by simpa using h1 1 _ rfl⟩
    obtain ⟨o0, o1, o2, o3, o4, o5⟩ := (CellsAt.grown ko hT zo (by intro e; injection e with e; exact n3 e)).six
    have y3 : no < wr.heap.size := Nat.lt_of_lt_of_le zo hT.size
    have y2 : w.heap.size + 1 + 1 < wr.heap.size := Nat.lt_of_lt_of_le z2 hT.size
    have y0 : w.heap.size < wr.heap.size := by omega
    have hgw : g2 < wr.heap.size := hO.out.lt
    have HSX := Lib.hid (fun w' (hw : Ext wr w') => HST.out K hLK.out hFa.out w' _ c2 (hEr.tr hw) ((hO.out.row encZ_len).ext hw))
    have hln := HLN.out K
    obtain ⟨SL, hSL⟩ : ∃ SL, stN K al ps ps.length = SL := ⟨_, rfl⟩
    rw [hSL] at HSX hln
    have HSL := Lib.hid hSL
    clear hSL
    obtain ⟨wo, hwo⟩ : ∃ x, x = wr := ⟨_, rfl⟩
    subst hwo
    go_upto_region 3 with (first | (go_at_call 39; (with_reducible refine Calls.mono (HSX.out _ (by (repeat (first | with_reducible exact Ext.rfl' _ | with_reducible assumption | with_reducible refine Ext.al ?_ _ | with_reducible refine Ext.dr ?_ | with_reducible refine Ext.st ?_ (by simp) _ | with_reducible refine Ext.tr ?_ (by assumption))))) ?_); rintro e w6 ⟨⟨A6, c6, rfl, hR6, hfr⟩, hb⟩; have hc := hb.ccell; have hf := hb.frz; have hs := hb.sz; (try simp at hs); (try have t0 := hs (w.heap.size) (by first | assumption | omega)); (try have t1 := hs (no) (by first | assumption | omega)); (try have t2 := hs (w.heap.size + 1 + 1) (by first | assumption | omega)); (try have t3 := hs (w.heap.size) (by first | assumption | omega)); (try have t4 := hs (w.heap.size) (by first | assumption | omega)); (try have t5 := hs (w.heap.size) (by first | assumption | omega))))
    have hE6 : Ext wo w6 := by assumption
    have hT6 := tch_ext hT hE6
    have hO6 := Lib.hid (hO.out.ext hE6)
    have hR6 := Lib.hid hR6
    have hfg : Hid (∀ q off, A6 = some ⟨q, off, none⟩ → q ≠ g2) := Lib.hid (fun q off hq => by have := hfr q off hq; omega)
    clear hb hc hf hs t0 t1 t2 t3 t4 t5 hfr o0 o1 o2 o3 o4 o5 b0 b1 HSX hT hEr hE6 y3 y2 y0 hgw hO
    by_cases hz : SL.length = 0
    · have HIS : Hid (IsSl ps al (ngL g.L) (ngL K)) := Lib.hid ⟨hFa.out, fun p hp => okP_ng (HKK.out K hLK.out hFa.out _ (HPM.out p hp).2.2.1) (HKK.out K hLK.out hFa.out _ (HPM.out p hp).2.2.2) ((st_nil HCM.out ps).1 (by rw [HSL.out]; exact List.eq_nil_of_length_eq_zero hz) p hp)⟩
      have hz' : ((SL.length : Int) == 0) = true := by simp [hz]
      have e0 := CellsAt.grown kz hT6 z2 (by intro e; injection e with e; exact n2 e)
      have fz6 : ∀ o, w6.frozen? ⟨w.heap.size + 1 + 1, o, none⟩ = false := fun o => (grown_frzS hT6 z2 (by intro e; injection e with e; exact n2 e) o).trans (fz o)
      have HE0 := Lib.hid e0
      have hEw := tch_to_ext hT6 hEW hwg
      obtain ⟨q0, q1, q2, q3, q4, q5⟩ := e0.six
      obtain ⟨o0, o1, o2, o3, o4, o5⟩ := (CellsAt.grown ko hT6 zo (by intro e; injection e with e; exact n3 e)).six
      clear e0 hz hT6
      go_wp2
      have hSL := stL_at (w.heap.size + 1 + 1) [.int .i64 g.X, .int .i64 g.Y, .int .i64 g.S, .int .i64 g.C, .int .i64 g.R, .slice (some ⟨g2, 0, none⟩) g.L.length c2] _ 0 w6 HE0.out rfl
      have hXL := stL_ext (w.heap.size + 1 + 1) (by omega) [.int .i64 g.X, .int .i64 g.Y, .int .i64 g.S, .int .i64 g.C, .int .i64 g.R, .slice (some ⟨g2, 0, none⟩) g.L.length c2] 0 w6 hEw
      have hNL := stL_own (w.heap.size + 1 + 1) (Ne.symm n2) [.int .i64 g.X, .int .i64 g.Y, .int .i64 g.S, .int .i64 g.C, .int .i64 g.R, .slice (some ⟨g2, 0, none⟩) g.L.length c2] 0 w6 hO6.out
      show bodyPost _ _ _ _ _ (stL w6 (w.heap.size + 1 + 1) 0 [.int .i64 g.X, .int .i64 g.Y, .int .i64 g.S, .int .i64 g.C, .int .i64 g.R, .slice (some ⟨g2, 0, none⟩) g.L.length c2])
      generalize stL w6 (w.heap.size + 1 + 1) 0 [.int .i64 g.X, .int .i64 g.Y, .int .i64 g.S, .int .i64 g.C, .int .i64 g.R, .slice (some ⟨g2, 0, none⟩) g.L.length c2] = WL at hSL hXL hNL ⊢
      obtain ⟨s0, s1, s2, s3, s4, s5⟩ := hSL.six
      refine bodyPost_ret (v := .agg #[.int .i64 g.X, .int .i64 g.Y, .int .i64 g.S, .int .i64 g.C, .int .i64 g.R, .slice (some ⟨g2, 0, none⟩) g.L.length c2]) (by simp [results, Try.results47, go_sem, s0, s1, s2, s3, s4, s5]) rfl ⟨⟨K, some ⟨g2, 0, none⟩, c2, rfl, newZ_own hNL hwg, hLK.out, HIS.out⟩, hXL⟩
    · have hz' : ((SL.length : Int) == 0) = false := by simp [hz]
      obtain ⟨sumS, hsS⟩ : ∃ s, sumL (ngL K) = s := ⟨_, rfl⟩
      rw [hsS] at hgk
      have HLS := Lib.hid hsS
      have hzp : 0 < SL.length := by omega
      clear hsS hz
      obtain ⟨gko, hgko⟩ : ∃ x, x = gk := ⟨_, rfl⟩
      subst hgko
      go_wp2
      go_loopg [7] SL.length (fun g3 i wx => W.grownBy wx (some g2) ∧ ∃ (k : Nat) (N : List Int), k + g3 = SL.length ∧ i = .int .i64 (k : Int) ∧ Hid (N.length = g.L.length) ∧ Hid (Row 3 encSt wx A6 SL) ∧ Hid (OwnK 3 1 encZ wx g2 c2 N) ∧ Hid (LvOk N) ∧ Hid (Falls ps al (ngL g.L) (ngL N)) ∧ Hid (k = 0 → N = K) ∧ Hid (1 ≤ k → sumL (ngL N) < sumS))
      case atStart => exact ⟨hT6, 0, K, by omega, rfl, Lib.hid (by have := hFa.out.len; rw [ngL_len, ngL_len] at this; exact this), hR6, hO6, hLK, hFa, Lib.hid (fun _ => rfl), Lib.hid (fun h => absurd h (by omega))⟩
      case round =>
        clear hT6 hO6 hR6
        obtain ⟨hT, k, N, hkg, rfl, hNl, hR, hO, hLN, hFN, hk0, hsum⟩ := hrel
        have hEr := tch_to_ext hT hEW hwg
        by_cases hlt : k < SL.length
        case neg =>
          have hks : k = SL.length := by omega
          go_wp2
          go_roundg (gko - 1)
          case measure =>
            have h4 := HM0.out _ hFa.out
            have h3 := HM0.out _ hFN.out
            have h5 := hsum.out (by omega)
            rw [HLS.out] at h4
            omega
          case rel =>
            refine ⟨hT, N, hO, hLN, hFN, ?_⟩
            have h4 := HM0.out _ hFa.out
            have h3 := HM0.out _ hFN.out
            have h5 := hsum.out (by omega)
            rw [HLS.out] at h4
            omega
        have hmem : el SL k ∈ stN K al ps ps.length := by rw [HSL.out, el_lt _ _ hlt]; exact List.getElem_mem hlt
        obtain ⟨hpr, hov⟩ := st_pair hmem
        obtain ⟨bP, oP, rfl, hbP, hcP⟩ := hR.out.stO hlt
        obtain ⟨c0, c1⟩ := hcP _ (Ext.rfl' _)
        have hfq := hfg.out _ _ rfl
        have hRS : Hid (∀ w', wr.grownBy w' (some g2) → Row 3 encSt w' (some ⟨bP, oP, none⟩) SL) := Lib.hid (fun w' hw => tch_row hw hR.out hfq)
        clear hcP hmem hR
        generalize el SL k = u at *
        obtain ⟨pa, pb, po⟩ := u
        dsimp only at *
        have hin : pa < g.L.length ∧ pb < g.L.length ∧ gi g.L pa ≠ 30000 ∧ gi g.L pb ≠ 30000 := by
          rcases hpr with h | h
          · exact HPM.out _ h
          · have := HPM.out _ h
            exact ⟨this.2.1, this.1, this.2.2.2, this.2.2.1⟩
        obtain ⟨hpa, hpb, hka, hkb⟩ := hin
        have hd := HAP.out pa pb hpa hpb
        have hna := HKK.out N hLN.out hFN.out pa hka
        have hnb := HKK.out N hLN.out hFN.out pb hkb
        have hva : -20000 ≤ gi N pa ∧ gi N pa ≤ 20000 := by rcases hLN.out.all pa with h | h <;> omega
        have hvb : -20000 ≤ gi N pb ∧ gi N pb ≤ 20000 := by rcases hLN.out.all pb with h | h <;> omega
        have hpg := push_ng (K := N) (l := pb) (h := pa) (d := al pa pb) hnb hna (by omega)
        have hFQ := hFN.out.pull HCM.out (a := pb) (b := pa) hpr.symm (by rw [HCM.out pb pa]; omega) (by rw [ngL_len]; exact hpb) (by rw [gi_ngL, ngV_k hkb]; rcases HLV.out pb hpb with h | h <;> omega) (by rw [gi_ngL, ngV_k hka]; rcases HLV.out pa hpa with h | h <;> omega)
        have hSP := pull_sum (L := ngL N) (a := pb) (by rw [ngL_len, hNl.out]; exact hpb) (gi (ngL N) pa + al pa pb)
        rw [HCM.out pb pa, hpg] at hFQ
        have hst : gi N pb + al pa pb < gi N pa → gi (ngL N) pa + al pa pb < gi (ngL N) pb := by
          intro h
          rw [gi_ngL, gi_ngL, ngV_k hna, ngV_k hnb]
          omega
        rw [hpg] at hSP
        have hLP := Lib.hid (hLN.out.set pb (max (gi N pb) (gi N pa - al pa pb)) (by omega))
        have hFP := Lib.hid hFQ
        have hsn : Hid (sumL (ngL (N.set pb (max (gi N pb) (gi N pa - al pa pb)))) < sumS) := Lib.hid (by
          by_cases hk : k = 0
          · have h1 := hk0.out hk
            have h2 := HLS.out
            rw [← h1] at h2 hov
            have := hSP.2 (hst hov)
            omega
          · have := hsum.out (by omega)
            omega)
        have hAK := Lib.hid (fun w' (hw : Ext wr w') => HAL.out pa pb hpa hpb w' (hEr.tr hw))
        have la := hO.out.z (i := pa) (by rw [hNl.out]; exact hpa)
        have lb := hO.out.z (i := pb) (by rw [hNl.out]; exact hpb)
        have fg := hO.out.frozen encZ_len pb
        have zg := hO.out.lt
        have hOS : Hid (∀ w' z, Ext wr w' → z = max (gi N pb) (gi N pa - al pa pb) → OwnK 3 1 encZ (w'.setCell ⟨g2, pb, none⟩ (.int .i64 z)) g2 c2 (N.set pb (max (gi N pb) (gi N pa - al pa pb)))) := Lib.hid (fun w' z hw hz => by rw [hz]; exact (hO.out.ext hw).setZ pb (by rw [hNl.out]; exact hpb) _)
        have hNN : Hid ((N.set pb (max (gi N pb) (gi N pa - al pa pb))).length = g.L.length) := Lib.hid (by rw [List.length_set]; exact hNl.out)
        obtain ⟨b0, b1⟩ : wr.cell? ⟨w.heap.size, 0, none⟩ = some (.slice AS soils.length cS) ∧ wr.cell? ⟨w.heap.size, 1, none⟩ = some (.slice AB bos.length cB) := by
          have h1 := CellsAt.grown ka hT z0 (by intro e; injection e with e; exact n0 e)
          exact ⟨by simpa using h1 0 _ rfl, by simpa using h1 1 _ rfl⟩
        obtain ⟨o0, o1, o2, o3, o4, o5⟩ := (CellsAt.grown ko hT zo (by intro e; injection e with e; exact n3 e)).six
        obtain ⟨m0, m1, m2, m3, m4, m5⟩ := (CellsAt.grown km hT z1 (by intro e; injection e with e; exact n1 e)).six
        have y3 : no < wr.heap.size := Nat.lt_of_lt_of_le zo hT.size
        have y1 : w.heap.size + 1 < wr.heap.size := Nat.lt_of_lt_of_le z1 hT.size
        have y0 : w.heap.size < wr.heap.size := by omega
        have hpi : (pa : Int) < (g.L.length : Int) := by omega
        have hpj : (pb : Int) < (g.L.length : Int) := by omega
        clear hO hov hpr hSP hk0 hsum hFN hLN hNl hka hkb hna hnb hpg hFQ hst
        generalize N.set pb (max (gi N pb) (gi N pa - al pa pb)) = N2 at *
        generalize al pa pb = dd at *
        generalize gi N pa = xa at *
        generalize gi N pb = xb at *
        obtain ⟨y, hy⟩ : ∃ y, xa - dd = y := ⟨_, rfl⟩
        have hwy : IntKind.i64.wrap (xa - dd) = y := by rw [hy]; exact IntWalk.i64_in _ (by omega)
        rw [hy] at hOS
        have hki : (k : Int) < (SL.length : Int) := by omega
        have hOY := Lib.hid (fun w' hw => hOS.out w' (max xb y) hw rfl)
        clear hy hOS
        go_upto_region 8 with fail
        refine region_grow_tail 41 (by kernel_rfl) (by kernel_rfl) ?_
        simp only [List.take_succ_cons, List.take_zero, List.drop_succ_cons, List.drop_zero]
        repeat (first | go_big_quiet_step (first | (go_at_call 42; with_reducible exact callsGrow (hAK.out _ (Grow.ok _))) | fail) | quiet_step (first | (go_at_call 42; with_reducible exact callsGrow (hAK.out _ (Grow.ok _))) | fail))
        refine wpQuiet_nil ?_
        intro w1 hb
        have hc := hb.ccell
        have hf := hb.frz
        have hs := hb.sz
        (try simp at hs); (try have hs0 := hs w.heap.size (by omega)); (try have hs1 := hs (w.heap.size + 1) (by omega)); (try have hs2 := hs (w.heap.size + 1 + 1) (by omega)); (try have hs3 := hs (w.heap.size + 1 + 1 + 1) (by omega))
        have hE4 : Ext wr w1 := by assumption
        have f1 := (hb.frz g2 pb zg).trans fg
        have lb1 := (hb.ccell g2 pb zg).trans lb
        have zg1 := hs g2 zg
        have hTq := tch_set (tch_ext (tch_refl wr g2) hE4) pb (.int .i64 (max xb y))
        have hT4 := tch_set (tch_ext hT hE4) pb (.int .i64 (max xb y))
        have hO4 := Lib.hid (hOY.out _ hE4)
        have hR4 := Lib.hid (hRS.out _ hTq)
        clear hc hf hs hb hTq
        go_wp2
        go_roundg (SL.length - (k + 1))
        case measure => omega
        case rel => exact ⟨hT4, k + 1, N2, by omega, by go_num, hNN, hR4, hO4, hLP, hFP, Lib.hid (fun h => absurd h (by omega)), Lib.hid (fun _ => hsn.out)⟩
end Go.Proofs.Ytohdplnlbnoojaa

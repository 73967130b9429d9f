/- The contract of the reference's Shares. -/
import Derived.Test.YtohdplnlbnoojaaSshs
import Derived.Test.YtohdplnlbnoojaaSrcol
import Derived.Test.YtohdplnlbnoojaaSrsoft
namespace Go.Proofs.Ytohdplnlbnoojaa
open Go Go.RowKit Go.IntWalk

theorem keepM5 {W w' : World} {a b c d e : Nat} (h : Ext W w') (ha : a < W.heap.size) (hb : b < W.heap.size) (hc : c < W.heap.size) (hd : d < W.heap.size) (he : e < W.heap.size) :
    (∀ j : Nat, w'.cell? ⟨a, j, none⟩ = W.cell? ⟨a, j, none⟩) ∧ (∀ j : Nat, w'.cell? ⟨b, j, none⟩ = W.cell? ⟨b, j, none⟩) ∧ (∀ j : Nat, w'.cell? ⟨c, j, none⟩ = W.cell? ⟨c, j, none⟩) ∧ (∀ j : Nat, w'.cell? ⟨d, j, none⟩ = W.cell? ⟨d, j, none⟩) ∧ (∀ j : Nat, w'.cell? ⟨e, j, none⟩ = W.cell? ⟨e, j, none⟩) :=
  ⟨fun _ => h.ccell _ _ ha, fun _ => h.ccell _ _ hb, fun _ => h.ccell _ _ hc, fun _ => h.ccell _ _ hd, fun _ => h.ccell _ _ he⟩
/-- The first n shares lie in block q, which has room for cap. -/
def ShR (F : Nat → Sr) (n cap q : Nat) (w : World) : Prop := n ≤ cap ∧ ∃ f, w.rowIs q 125 (cap * 2) f ∧ ∀ i, i < n * 2 → f i = evS F i
theorem ShR.row {F : Nat → Sr} {n cap q : Nat} {w : World} (h : ShR F n cap q w) : Row 2 encSr w (some ⟨q, 0, none⟩) (mkS F n) := by
  obtain ⟨hc, f, hf, hv⟩ := h
  refine .inr ⟨q, 0, rfl, hf.lt, fun i hi j v hv' => ?_⟩
  rw [mkS_len] at hi
  have hj : j < 2 := (List.getElem?_eq_some_iff.1 hv').1
  rw [Nat.zero_add, hf.cell (show i * 2 + j < cap * 2 by omega), hv _ (by omega), ← hv']
  rw [mkS_get]
  unfold evS encSr
  rw [show (i * 2 + j) / 2 = i by omega, show (i * 2 + j) % 2 = j by omega]
  rcases (by omega : j = 0 ∨ j = 1) with rfl | rfl <;> rfl
theorem ShR.of {F : Nat → Sr} {n cap q : Nat} {w : World} (h : OwnK 125 2 encSr w q cap (mkS F n)) : ShR F n cap q w := by
  have hr := h.row encSr_len
  obtain ⟨cur, h1, h2, h3, h4, h5⟩ := h
  rw [mkS_len] at h3
  have hI : w.rowIs q 125 (cap * 2) (fun i => cur.toList.getD i (.bool false)) := ⟨cur, h1, h2, fun i hi => by simp [List.getD_eq_getElem?_getD, show i < cur.size by omega]⟩
  refine ⟨h3, _, hI, fun i hi => ?_⟩
  have hc := hI.cell (i := i) (by omega)
  have hi2 : i / 2 < (mkS F n).length := by rw [mkS_len]; omega
  obtain ⟨b, off, e1, _, e3⟩ := hr.addr (by omega)
  injection e1 with e1
  injection e1 with e1 e2
  subst e1 e2
  have hlt : i % 2 < (encSr (mkS F n)[i / 2]).length := by rw [encSr_len]; omega
  have h6 := e3 w (Ext.rfl' w) (i / 2) hi2 (i % 2) _ (List.getElem?_eq_getElem hlt)
  rw [show 0 + i / 2 * 2 + i % 2 = i by omega] at h6
  rw [h6] at hc
  injection hc with hc
  rw [← hc]
  unfold evS
  rcases (by omega : i % 2 = 0 ∨ i % 2 = 1) with h7 | h7
  · simp [h7, mkS_get, encSr]
  · simp [h7, mkS_get, encSr]
theorem ShR.kept {F : Nat → Sr} {n cap q : Nat} {w w' : World} (h : ShR F n cap q w) (hw : Ext w w') : ShR F n cap q w' := by
  obtain ⟨hc, f, hf, hv⟩ := h
  exact ⟨hc, f, hf.of_block (hw.block q hf.lt), hv⟩
theorem ShR.congr {F F' : Nat → Sr} {n cap q : Nat} {w : World} (h : ShR F n cap q w) (hF : ∀ i, i < n → F' i = F i) : ShR F' n cap q w := by
  obtain ⟨hc, f, hf, hv⟩ := h
  exact ⟨hc, f, hf, fun i hi => by rw [hv i hi]; unfold evS; rw [hF _ (by omega)]⟩
theorem ShR.put {F F' : Nat → Sr} {n cap q k : Nat} {w : World} (h : ShR F n cap q w) (hk : k < n) (v : Int) (hF : ∀ i, i < n → F' i = if i = k then ⟨(F k).s, v⟩ else F i) : ShR F' n cap q (w.setCell ⟨q, k * 2 + 1, none⟩ (.int .i64 v)) := by
  obtain ⟨hc, f, hf, hv⟩ := h
  refine ⟨hc, _, hf.set _ _, fun i hi => ?_⟩
  by_cases h1 : i = k * 2 + 1
  · subst h1
    unfold evS
    rw [hF _ (by omega)]
    simp [show (k * 2 + 1) / 2 = k by omega]
  · simp only [h1, if_false]
    rw [hv i hi]
    unfold evS
    by_cases h2 : i / 2 = k
    · rw [hF _ (by omega), if_pos h2, if_pos (by omega), if_pos (by omega), h2]
    · rw [hF _ (by omega), if_neg h2]
/-- The shares after the first cells and the first parts of the next one. -/
def rsF (soils : List So) (bos : List Bo) (g h : Gr) (cn i j k : Nat) : Sr := ⟨(el soils k).s, (htN (knP g h) (coC bos g h cn) (el soils k).s i + hgN (coC bos g h cn i) (el soils k).s j) * (g.S * g.S)⟩
theorem rsF_zero (soils : List So) (bos : List Bo) (g h : Gr) (cn k : Nat) : rsF soils bos g h cn 0 0 k = ⟨(el soils k).s, 0⟩ := by simp [rsF, htN, hgN, sumN]
theorem rsF_skip {soils : List So} {bos : List Bo} {g h : Gr} {cn i : Nat} (hk : knP g h i = false) (k : Nat) : rsF soils bos g h cn (i + 1) 0 k = rsF soils bos g h cn i 0 k := by
  simp [rsF, htN_succ, htF, hk, hgN, sumN]
theorem rsF_done {soils : List So} {bos : List Bo} {g h : Gr} {cn i : Nat} (hk : knP g h i = true) (k : Nat) : rsF soils bos g h cn (i + 1) 0 k = rsF soils bos g h cn i (coC bos g h cn i).length k := by
  unfold rsF
  rw [htN_succ]
  unfold htF
  rw [hk, if_pos rfl]
  simp [hgN, sumN]
theorem rsF_last (soils : List So) (bos : List Bo) (g h : Gr) (cn k : Nat) : rsF soils bos g h cn g.L.length 0 k = srF soils bos g h cn k := by simp [rsF, srF, hgN, sumN]
theorem rsF_put {soils : List So} (v : VS soils) (bos : List Bo) (g h : Gr) (cn i j : Nat) {kk : Nat} (hkk : kk < soils.length) (hs : (el soils kk).s = (el (coC bos g h cn i) j).s) : ∀ k, k < soils.length → rsF soils bos g h cn i (j + 1) k = if k = kk then ⟨(rsF soils bos g h cn i j kk).s, (rsF soils bos g h cn i j kk).v + ((el (coC bos g h cn i) j).t - (el (coC bos g h cn i) j).b) * g.S * g.S⟩ else rsF soils bos g h cn i j k := by
  intro k hk
  unfold rsF
  rw [hgN_succ]
  unfold hgF
  by_cases h1 : k = kk
  · subst h1
    rw [if_pos rfl, hs, sameS_self, if_pos rfl]
    simp only [Sr.mk.injEq, true_and]
    rw [← Int.add_assoc, Int.add_mul _ ((el (coC bos g h cn i) j).t - _), Int.mul_assoc _ g.S g.S]
  · rw [if_neg h1]
    have h2 : sameS (el (coC bos g h cn i) j).s (el soils k).s = false := by
      rw [← hs]
      rcases Nat.lt_or_gt_of_ne h1 with h3 | h3
      · have := v.one k kk h3 hkk
        rw [Bool.eq_false_iff] at this ⊢
        exact fun e => this ((sameS_iff _ _).2 ((sameS_iff _ _).1 e).symm)
      · exact v.one kk k h3 hk
    rw [h2]
    simp
/-- The soils of the parts are soils of the ground. -/
theorem co_has {soils : List So} {bos : List Bo} (v : VGd soils bos) {g h : Gr} {cn i : Nat} : ∀ p ∈ coC bos g h cn i, hasSoil soils p.s = true := by
  have hn := nearB_lt v (ctX g cn i) (ctY g cn i)
  have vb := v.b _ hn
  exact colN_nm _ _ _ (fun s => hasSoil soils s = true) (fun k hk => vb.has k hk) _ (Nat.le_refl _)
theorem sr_put {w : World} {base n : Nat} {v : Value} {l l' : List Sr} {s : ByteArray} {x : Int} (hl : l' = l ++ [⟨s, x⟩]) (hn : n = l.length + 1) (h : w.ownsRow base 125 2 v n (l.flatMap encSr ++ [.string s, .int .i64 x])) : w.ownsRow base 125 2 v l'.length (l'.flatMap encSr) := by
  subst hl hn
  rw [List.length_append, List.flatMap_append]
  exact h
def OutSz (l : List Sr) (e : Ending) (w' : World) : Prop := ∃ A c, e = .returned (.slice A l.length c) ∧ Row 2 encSr w' A l
set_option maxHeartbeats 16000000 in
set_option maxRecDepth 100000 in
theorem rshares_c (soils : List So) (bos : List Bo) (g h : Gr) (cn : Nat) (w : World) (AS AB A B : Option Addr) (cS cB c d : Nat) (gw : GrW w soils AS bos AB) (v : VGd soils bos) (h0 : chkG g = 0) (h1 : chkG h = 0) (hlen : h.L.length = g.L.length) (hC : g.C = cn) (hA : Row 1 encZ w A g.L) (hB : Row 1 encZ w B h.L) :
    Calls Try.prog 36 #[.agg #[.slice AS soils.length cS, .slice AB bos.length cB], .agg #[.int .i64 g.X, .int .i64 g.Y, .int .i64 g.S, .int .i64 g.C, .int .i64 g.R, .slice A g.L.length c], .agg #[.int .i64 h.X, .int .i64 h.Y, .int .i64 h.S, .int .i64 h.C, .int .i64 h.R, .slice B h.L.length d]] w fun e w' => OutSz (mkS (srF soils bos g h cn) soils.length) e w' ∧ Ext w w' := by
  have vg := chkG_ok h0
  have vh := chkG_ok h1
  have hs := vg.hs
  have hnn := vg.nat
  have hn : g.L.length ≤ 1024 := by obtain ⟨_, _, e1, e2, e3, e4, e5, e6, e7, e8⟩ := hnn; omega
  have HKG := Lib.hid (fun k (hk : k < g.L.length) w' (hw : Ext w w') => known_c g k w' A c hk (hA.ext hw))
  have HKH := Lib.hid (fun k (hk : k < h.L.length) w' (hw : Ext w w') => known_c h k w' B d hk (hB.ext hw))
  have HCE := Lib.hid (fun k (hk : k < g.L.length) w' => rcentre_c g cn k w' A c vg hC hk)
  have HCO := Lib.hid (fun k (hk : k < g.L.length) w' (hw : Ext w w') => rcolumnF_c soils bos (ctX g cn k) (ctY g cn k) (gi g.L k) (gi h.L k) w' AS AB cS cB (gw.ext hw) v (ct_in vg hC hk))
  have HSO := Lib.hid (fun s w' (hw : Ext w w') => soilOf_c soils s w' AS cS gw.ls (gw.so.ext hw))
  have HSR := Lib.hid (fun w' (hw : Ext w w') => (gw.ext hw).so)
  have HHA := Lib.hid (fun k => co_has v (g := g) (h := h) (cn := cn) (i := k))
  have HLV := Lib.hid (fun k (hk : k < g.L.length) (hp : knP g h k = true) => coC_lv v vg vh (cn := cn) hk (by omega) hp)
  have HBD := Lib.hid (fun x k (hk : k ≤ g.L.length) => htN_bound (P := knP g h) (C := coC bos g h cn) x k (fun i hi hp => coC_lv v vg vh (cn := cn) (by omega) (by omega) hp))
  have HRA := Lib.hid hA
  have HRB := Lib.hid hB
  have HLN := Lib.hid hlen
  have HVS := Lib.hid v.s
  have hsp := v.s.pos
  have hsl := v.s.le
  have hpos : 0 < g.L.length := by obtain ⟨_, _, e1, e2, e3, e4, e5, e6, e7, e8⟩ := hnn; rw [e7]; exact Nat.mul_pos e3 e5
  obtain ⟨i0, hi, hz0, hz1, hz2⟩ := info_parts infoSr
  have HI := Lib.hid (And.intro hi (And.intro hz0 (And.intro hz1 hz2)))
  clear hnn vg vh v gw h0 h1 hA hB hC hlen hi hz0 hz1 hz2
  go_enter Try.func36, Try.ntmps36
  go_upto_region 1 with fail
  refine wp_name (fun W0 hW => ?_)
  have hE0 : Ext w W0 := by rw [hW]; (repeat (first | with_reducible exact Ext.rfl' _ | with_reducible assumption | with_reducible refine Ext.al ?_ _ | with_reducible refine Ext.dr ?_ | with_reducible refine Ext.st ?_ (by simp) _ | with_reducible refine Ext.tr ?_ (by assumption)))
  have ka : CellsAt W0 w.heap.size 0 [.slice AS soils.length cS, .slice AB bos.length cB] := by
    rw [hW]
    intro j u hj
    match j with
    | 0 => simp at hj; subst hj; simp [go_sem]
    | 1 => simp at hj; subst hj; simp [go_sem]
    | j + 2 => simp at hj
  have km : CellsAt W0 (w.heap.size + 1) 0 [.int .i64 g.X, .int .i64 g.Y, .int .i64 g.S, .int .i64 g.C, .int .i64 g.R, .slice A g.L.length c] := by rw [hW]; refine cells_six ⟨?_, ?_, ?_, ?_, ?_, ?_⟩ <;> simp [go_sem]
  have kn : CellsAt W0 (w.heap.size + 1 + 1) 0 [.int .i64 h.X, .int .i64 h.Y, .int .i64 h.S, .int .i64 h.C, .int .i64 h.R, .slice B h.L.length d] := by rw [hW]; refine cells_six ⟨?_, ?_, ?_, ?_, ?_, ?_⟩ <;> simp [go_sem]
  have zn : w.heap.size + 1 + 1 < W0.heap.size := by rw [hW]; simp
  have zm : w.heap.size + 1 < W0.heap.size := by omega
  have za : w.heap.size < W0.heap.size := by omega
  clear hW
  go_wp2
  go_loopw [7, 8] (fun o i wr => Ext W0 wr ∧ ∃ k : Nat, k ≤ soils.length ∧ i = .int .i64 k ∧ Hid (wr.ownsRow W0.heap.size 125 2 o (mkS (rsF soils bos g h cn 0 0) k).length ((mkS (rsF soils bos g h cn 0 0) k).flatMap encSr))) (fun _ i _ => soils.length - (intOf i).toNat)
  case atStart => exact ⟨Ext.rfl' _, 0, Nat.zero_le _, rfl, Lib.hid (World.ownsRow_nil _ _ _ _)⟩
  case round =>
    obtain ⟨hE', k, hk, rfl, hO⟩ := hrel
    have hE := hE0.tr hE'
    obtain ⟨hi, hz0, hz1, hz2⟩ := HI.out
    have a0 : wr.cell? ⟨w.heap.size, 0, none⟩ = some (.slice AS soils.length cS) := by have := (ka.ext hE' za) 0 _ rfl; simpa using this
    have za1 := hE'.sz _ za
    have hzE := hE'.size
    by_cases hlt : k < soils.length
    · obtain ⟨bs, os, rfl, hbs, hcs⟩ := (HSR.out _ hE).so hlt
      obtain ⟨c0, _⟩ := hcs _ (Ext.rfl' _)
      have hki : (k : Int) < (soils.length : Int) := by omega
      have HP : Hid (mkS (rsF soils bos g h cn 0 0) (k + 1) = mkS (rsF soils bos g h cn 0 0) k ++ [⟨(el soils k).s, 0⟩]) := Lib.hid (by unfold mkS; rw [List.range_succ, List.map_append]; simp [rsF_zero])
      have hPl := mkS_len (rsF soils bos g h cn 0 0) k
      generalize el soils k = x at *
      generalize mkS (rsF soils bos g h cn 0 0) k = PN at *
      clear hcs
      go_wp2_with (first | (at_builtin; refine wpList_append_own _ rfl _ _ 59 rfl W0.heap.size 125 i0 _ 2 24 Try.underlying59 hi hz0 hz1 hz2 rfl (by decide) _ _ _ rfl (World.ownsRow.alloc hO.out _) ⟨_, 0, none⟩ 1 1 [.string x.s, .int .i64 0] rfl rfl ?ar1 ?ar2 ?ar3 ?ar4 ?ar5 ?_))
      try case ar1 =>
        intro j u hu
        match j with
        | 0 => simpa [Addr.add, go_sem] using hu
        | 1 => simpa [Addr.add, go_sem] using hu
        | j + 2 => simp at hu
      try case ar2 => first | exact ⟨rfl, rfl⟩ | (intro u hu; simp at hu; rcases hu with rfl | rfl <;> rfl)
      try case ar3 => unfold maxLen; omega
      try case ar4 => omega
      try case ar5 => first | omega | (simp; omega)
      intro v' w4 hown hgrow _
      have hE4 : Ext W0 w4 := grown_ext (Ext.al hE' _) (World.ownsRow.alloc hO.out _) (Nat.le_refl _) hgrow
      have hown2 := Lib.hid (sr_put HP.out (by omega) hown)
      clear hown hgrow hi hz0 hz1 hz2
      go_wp2
      exact ⟨⟨hE4, k + 1, by omega, by go_num, hown2⟩, by simp [intOf]; omega⟩
    · have hks : k = soils.length := by omega
      subst hks
      obtain ⟨A', cap, hv, _, hcm, hcase⟩ := ownK_cases encSr_len rfl rfl hO.out
      subst hv
      obtain ⟨q, rfl, hq0, hOwn⟩ : ∃ q, A' = some ⟨q, 0, none⟩ ∧ W0.heap.size ≤ q ∧ OwnK 125 2 encSr wr q cap (mkS (rsF soils bos g h cn 0 0) soils.length) := by
        rcases hcase with ⟨h1, _⟩ | h1
        · exfalso
          have := mkS_len (rsF soils bos g h cn 0 0) soils.length
          rw [h1] at this
          simp at this
          omega
        · exact h1
      have hR := Lib.hid (ShR.of hOwn)
      have hqz := hOwn.lt
      clear hO hcase hOwn hi hz0 hz1 hz2
      rw [mkS_len]
      obtain ⟨W1, hW1⟩ : ∃ W1, W1 = wr := ⟨_, rfl⟩
      subst hW1
      have ka := ka.ext hE' za
      have km := km.ext hE' zm
      have kn := kn.ext hE' zn
      have za := hE'.sz _ za
      have zm := hE'.sz _ zm
      have zn := hE'.sz _ zn
      have hn0 : w.heap.size + 1 + 1 < q := by have := zn; omega
      have hw0 : w.heap.size ≤ q := by omega
      clear hE' hE0 hk hlt hq0 za1
      go_upto_region 7 with fail
      clear a0
      go_loopw [9] (fun i wr => W1.grownBy wr (some q) ∧ ∃ k : Nat, k ≤ g.L.length ∧ i = .int .i64 k ∧ Hid (ShR (rsF soils bos g h cn k 0) soils.length cap q wr)) (fun i _ => g.L.length - (intOf i).toNat)
      case atStart => exact ⟨tch_refl _ _, 0, Nat.zero_le _, rfl, hR⟩
      case round =>
        clear hR
        obtain ⟨hT, k, hk, rfl, hR⟩ := hrel
        have hEr := tch_to_ext hT hE hw0
        have kar := CellsAt.grown ka hT za (by intro e; injection e with e; omega)
        have kmr := CellsAt.grown km hT zm (by intro e; injection e with e; omega)
        have knr := CellsAt.grown kn hT zn (by intro e; injection e with e; omega)
        have yq : q < wr.heap.size := Nat.lt_of_lt_of_le hqz hT.size
        obtain ⟨m0, m1, m2, m3, m4, m5⟩ := kmr.six
        obtain ⟨n0, n1, n2, n3, n4, n5⟩ := knr.six
        by_cases hlt : k < g.L.length
        · have hlh : k < h.L.length := by rw [HLN.out]; exact hlt
          have HK1 := Lib.hid (fun w' (hw : Ext wr w') => HKG.out k hlt w' (hEr.tr hw))
          have HK2 := Lib.hid (fun w' (hw : Ext wr w') => HKH.out k hlh w' (hEr.tr hw))
          have hki : (k : Int) < (g.L.length : Int) := by omega
          have hkh : (k : Int) < (h.L.length : Int) := by omega
          have ya : w.heap.size < wr.heap.size := by omega
          have ym : w.heap.size + 1 < wr.heap.size := by omega
          have yn : w.heap.size + 1 + 1 < wr.heap.size := by omega
          cases hkn : knP g h k
          · have hNX : Hid (∀ w', Ext wr w' → ShR (rsF soils bos g h cn (k + 1) 0) soils.length cap q w') := Lib.hid (fun w' hw => (hR.out.kept hw).congr (fun i _ => rsF_skip hkn i))
            unfold knP at hkn
            clear hR
            cases hk1 : knB g.L k
            · rw [hk1] at HK1
              clear hkn hk1
              go_wp2_with (first | (go_at_call 51; with_reducible refine Calls.mono (HK1.out _ (by (repeat (first | with_reducible exact Ext.rfl' _ | with_reducible assumption | with_reducible refine Ext.al ?_ _ | with_reducible refine Ext.dr ?_ | with_reducible refine Ext.st ?_ (by simp) _ | with_reducible refine Ext.tr ?_ (by assumption))))) ?_; rintro e w3 ⟨rfl, hb⟩; have hc := hb.ccell; have hf := hb.frz; have hs := hb.sz; (try simp at hs); (try have t0 := hs (w.heap.size) (by first | assumption | omega)); (try have t1 := hs (w.heap.size + 1) (by first | assumption | omega)); (try have t2 := hs (w.heap.size + 1 + 1) (by first | assumption | omega)); (try have t3 := hs (q) (by first | assumption | omega)); (try have t4 := hs (w.heap.size) (by first | assumption | omega)); (try have t5 := hs (w.heap.size) (by first | assumption | omega))))
              have hE6 : Ext wr w3 := by assumption
              exact ⟨⟨tch_ext hT hE6, k + 1, by omega, by go_num, Lib.hid (hNX.out _ hE6)⟩, by simp [intOf]; omega⟩
            · rw [hk1] at HK1 hkn
              have hk2 : knB h.L k = false := by simpa using hkn
              rw [hk2] at HK2
              clear hkn hk1 hk2
              go_wp2_with (first | (go_at_call 51; with_reducible refine Calls.mono (HK1.out _ (by (repeat (first | with_reducible exact Ext.rfl' _ | with_reducible assumption | with_reducible refine Ext.al ?_ _ | with_reducible refine Ext.dr ?_ | with_reducible refine Ext.st ?_ (by simp) _ | with_reducible refine Ext.tr ?_ (by assumption))))) ?_; rintro e w3 ⟨rfl, hb⟩; have hc := hb.ccell; have hf := hb.frz; have hs := hb.sz; (try simp at hs); (try have t0 := hs (w.heap.size) (by first | assumption | omega)); (try have t1 := hs (w.heap.size + 1) (by first | assumption | omega)); (try have t2 := hs (w.heap.size + 1 + 1) (by first | assumption | omega)); (try have t3 := hs (q) (by first | assumption | omega)); (try have t4 := hs (w.heap.size) (by first | assumption | omega)); (try have t5 := hs (w.heap.size) (by first | assumption | omega))) | (go_at_call 51; with_reducible refine Calls.mono (HK2.out _ (by (repeat (first | with_reducible exact Ext.rfl' _ | with_reducible assumption | with_reducible refine Ext.al ?_ _ | with_reducible refine Ext.dr ?_ | with_reducible refine Ext.st ?_ (by simp) _ | with_reducible refine Ext.tr ?_ (by assumption))))) ?_; rintro e w4 ⟨rfl, hb⟩; have hc := hb.ccell; have hf := hb.frz; have hs := hb.sz; (try simp at hs); (try have t0 := hs (w.heap.size) (by first | assumption | omega)); (try have t1 := hs (w.heap.size + 1) (by first | assumption | omega)); (try have t2 := hs (w.heap.size + 1 + 1) (by first | assumption | omega)); (try have t3 := hs (q) (by first | assumption | omega)); (try have t4 := hs (w.heap.size) (by first | assumption | omega)); (try have t5 := hs (w.heap.size) (by first | assumption | omega))))
              have hE6 : Ext wr w4 := by (repeat (first | with_reducible exact Ext.rfl' _ | with_reducible assumption | with_reducible refine Ext.al ?_ _ | with_reducible refine Ext.dr ?_ | with_reducible refine Ext.st ?_ (by simp) _ | with_reducible refine Ext.tr ?_ (by assumption)))
              exact ⟨⟨tch_ext hT hE6, k + 1, by omega, by go_num, Lib.hid (hNX.out _ hE6)⟩, by simp [intOf]; omega⟩
          · have hkn2 := hkn
            unfold knP at hkn2
            rw [Bool.and_eq_true] at hkn2
            rw [hkn2.1] at HK1
            rw [hkn2.2] at HK2
            obtain ⟨hlv, hl12⟩ := HLV.out k hlt hkn
            have HLK2 := Lib.hid hlv
            have hDone := Lib.hid (fun i => rsF_done (soils := soils) (bos := bos) (cn := cn) hkn i)
            have hPut := Lib.hid (fun j kk (h1 : kk < soils.length) h2 => rsF_put HVS.out bos g h cn k j h1 h2)
            have hHas := Lib.hid (HHA.out k)
            obtain ⟨bA, oA, rfl, hbA, hcA⟩ := HRA.out.p1 hlt
            obtain ⟨bB, oB, rfl, hbB, hcB⟩ := HRB.out.p1 hlh
            have xa := hcA _ hEr
            have xb := hcB _ hEr
            rw [← gi_lt] at xa xb
            have zA := hEr.sz _ hbA
            have zB := hEr.sz _ hbB
            clear hkn hkn2 hcA hcB hlv
            go_upto_region 10 with (first | (go_at_call 51; with_reducible refine Calls.mono (HK1.out _ (by (repeat (first | with_reducible exact Ext.rfl' _ | with_reducible assumption | with_reducible refine Ext.al ?_ _ | with_reducible refine Ext.dr ?_ | with_reducible refine Ext.st ?_ (by simp) _ | with_reducible refine Ext.tr ?_ (by assumption))))) ?_; rintro e w3 ⟨rfl, hb⟩; have hc := hb.ccell; have hf := hb.frz; have hs := hb.sz; (try simp at hs); (try have t0 := hs (w.heap.size) (by first | assumption | omega)); (try have t1 := hs (w.heap.size + 1) (by first | assumption | omega)); (try have t2 := hs (w.heap.size + 1 + 1) (by first | assumption | omega)); (try have t3 := hs (q) (by first | assumption | omega)); (try have t4 := hs (bA) (by first | assumption | omega)); (try have t5 := hs (bB) (by first | assumption | omega))) | (go_at_call 51; with_reducible refine Calls.mono (HK2.out _ (by (repeat (first | with_reducible exact Ext.rfl' _ | with_reducible assumption | with_reducible refine Ext.al ?_ _ | with_reducible refine Ext.dr ?_ | with_reducible refine Ext.st ?_ (by simp) _ | with_reducible refine Ext.tr ?_ (by assumption))))) ?_; rintro e w4 ⟨rfl, hb⟩; have hc := hb.ccell; have hf := hb.frz; have hs := hb.sz; (try simp at hs); (try have t0 := hs (w.heap.size) (by first | assumption | omega)); (try have t1 := hs (w.heap.size + 1) (by first | assumption | omega)); (try have t2 := hs (w.heap.size + 1 + 1) (by first | assumption | omega)); (try have t3 := hs (q) (by first | assumption | omega)); (try have t4 := hs (bA) (by first | assumption | omega)); (try have t5 := hs (bB) (by first | assumption | omega))))
            have hE6 : Ext wr w4 := by (repeat (first | with_reducible exact Ext.rfl' _ | with_reducible assumption | with_reducible refine Ext.al ?_ _ | with_reducible refine Ext.dr ?_ | with_reducible refine Ext.st ?_ (by simp) _ | with_reducible refine Ext.tr ?_ (by assumption)))
            have zA := hE6.sz _ zA
            have zB := hE6.sz _ zB
            have xa := (hE6.ccell _ _ (hEr.sz _ hbA)).trans xa
            have xb := (hE6.ccell _ _ (hEr.sz _ hbB)).trans xb
            have kaf := kar.ext hE6 ya
            have kmf := kmr.ext hE6 ym
            have knf := knr.ext hE6 yn
            clear m0 m1 m2 m3 m4 m5 n0 n1 n2 n3 n4 n5 hb hc hf hs t0 t1 t2 t3 t4 t5 kar kmr knr
            obtain ⟨m0, m1, m2, m3, m4, m5⟩ := kmf.six
            obtain ⟨n0, n1, n2, n3, n4, n5⟩ := knf.six
            obtain ⟨g0, g1⟩ : w4.cell? ⟨w.heap.size, 0, none⟩ = some (.slice AS soils.length cS) ∧ w4.cell? ⟨w.heap.size, 1, none⟩ = some (.slice AB bos.length cB) := ⟨by simpa using kaf 0 _ rfl, by simpa using kaf 1 _ rfl⟩
            have va := hE6.sz _ ya
            have vm := hE6.sz _ ym
            have vn := hE6.sz _ yn
            have vq := hE6.sz _ yq
            have hT6 := tch_ext hT hE6
            have hR6 := Lib.hid (hR.out.kept hE6)
            have hEw4 := hEr.tr hE6
            have HCK := Lib.hid (fun w' => HCE.out k hlt w')
            have HLK := Lib.hid (fun w' (hw : Ext w4 w') => HCO.out k hlt w' (hEw4.tr hw))
            clear hT hR hE6 hEr ya ym yn yq HK1 HK2 hbA hbB
            go_cut [10] (fun s wx => ∃ (A6 : Option Addr) (c6 : Nat), s = .slice A6 (coC bos g h cn k).length c6 ∧ Ext w4 wx ∧ Hid (Row 3 encPa wx A6 (coC bos g h cn k)) ∧ Hid (∀ b off, A6 = some ⟨b, off, none⟩ → w4.heap.size ≤ b))
            case first =>
              go_region_held3 (fun w' => (∀ j : Nat, w'.cell? ⟨w.heap.size, j, none⟩ = w4.cell? ⟨w.heap.size, j, none⟩) ∧ (∀ j : Nat, w'.cell? ⟨w.heap.size + 1, j, none⟩ = w4.cell? ⟨w.heap.size + 1, j, none⟩) ∧ (∀ j : Nat, w'.cell? ⟨w.heap.size + 1 + 1, j, none⟩ = w4.cell? ⟨w.heap.size + 1 + 1, j, none⟩) ∧ (∀ j : Nat, w'.cell? ⟨bA, j, none⟩ = w4.cell? ⟨bA, j, none⟩) ∧ (∀ j : Nat, w'.cell? ⟨bB, j, none⟩ = w4.cell? ⟨bB, j, none⟩)) ((refine keepM5 ?_ va vm vn zA zB; (repeat (first | with_reducible exact Ext.rfl' _ | with_reducible assumption | with_reducible refine Ext.al ?_ _ | with_reducible refine Ext.dr ?_ | with_reducible refine Ext.st ?_ (by first | (simp; done) | ((try have s2 := Below.size hb2); (try have s3 := Below.size hb3); (try have s4 := Below.size hb4); (try simp at s2); (try simp at s3); (try simp at s4); (try simp); omega)) _ | with_reducible refine Ext.tr ?_ (by with_reducible assumption))))) (first | (go_at_call 76; (with_reducible refine Calls.mono (HCK.out _) ?_); rintro e w5 ⟨rfl, hb2⟩; have hc2 := hb2.ccell) | (go_at_call 28; (with_reducible refine Calls.mono (HLK.out _ (by (repeat (first | with_reducible exact Ext.rfl' _ | with_reducible assumption | with_reducible refine Ext.al ?_ _ | with_reducible refine Ext.dr ?_ | with_reducible refine Ext.st ?_ (by first | (simp; done) | ((try have s2 := Below.size hb2); (try have s3 := Below.size hb3); (try have s4 := Below.size hb4); (try simp at s2); (try simp at s3); (try simp at s4); (try simp); omega)) _ | with_reducible refine Ext.tr ?_ (by with_reducible assumption))))) ?_); rintro e w6 ⟨⟨A6, c6, rfl, hQ6, hF6⟩, hb3⟩; have hc3 := hb3.ccell))
              all_goals
                rename_i hJ hK h1 h2 hH
                clear hH
                refine h2 _ _ (Met.intro (h1 _ _ ?_))
                (repeat apply Exists.intro)
                refine ⟨?_, rfl⟩
                exact ⟨A6, c6, rfl, by (repeat (first | with_reducible exact Ext.rfl' _ | with_reducible assumption | with_reducible refine Ext.al ?_ _ | with_reducible refine Ext.dr ?_ | with_reducible refine Ext.st ?_ (by first | (simp; done) | ((try have s2 := Below.size hb2); (try have s3 := Below.size hb3); (try have s4 := Below.size hb4); (try simp at s2); (try simp at s3); (try simp at s4); (try simp); omega)) _ | with_reducible refine Ext.tr ?_ (by with_reducible assumption))), Lib.hid hQ6, Lib.hid (fun b off he => by refine Nat.le_trans ?_ (hF6 b off he); exact (show Ext w4 _ by (repeat (first | with_reducible exact Ext.rfl' _ | with_reducible assumption | with_reducible refine Ext.al ?_ _ | with_reducible refine Ext.dr ?_ | with_reducible refine Ext.st ?_ (by first | (simp; done) | ((try have s2 := Below.size hb2); (try have s3 := Below.size hb3); (try have s4 := Below.size hb4); (try simp at s2); (try simp at s3); (try simp at s4); (try simp); omega)) _ | with_reducible refine Ext.tr ?_ (by with_reducible assumption)))).size)⟩
            case rest =>
            obtain ⟨A6, c6, rfl, hx, hP6, hF6⟩ := hcut
            rename World => wx
            have hT7 := tch_ext hT6 hx
            have hR7 := Lib.hid (hR6.out.kept hx)
            have hEw7 := hEw4.tr hx
            have kax := kaf.ext hx va
            have kmx := kmf.ext hx vm
            have va := hx.sz _ va
            have vm := hx.sz _ vm
            have vqx := hx.sz _ vq
            have hHT := HBD.out
            clear hT6 hR6 hx m0 m1 m2 m3 m4 m5 n0 n1 n2 n3 n4 n5 xa xb zA zB vn g0 g1 HLK HCK kaf kmf knf
            generalize hLc : coC bos g h cn k = Lc at *
            go_upto_region 12 with fail
            go_loopw [11] (fun s wr => wx.grownBy wr (some q) ∧ ∃ j : Nat, j ≤ Lc.length ∧ s = .int .i64 j ∧ Hid (ShR (rsF soils bos g h cn k j) soils.length cap q wr)) (fun s _ => Lc.length - (intOf s).toNat)
            case atStart => exact ⟨tch_refl _ _, 0, Nat.zero_le _, rfl, hR7⟩
            case round =>
              clear hR7
              obtain ⟨hU, j, hj, rfl, hR⟩ := hrel
              have hEu := tch_to_ext hU hEw7 hw0
              by_cases hjl : j < Lc.length
              · have hjj : (j : Int) < (Lc.length : Int) := by omega
                have hmem : el Lc j ∈ Lc := by rw [el_lt _ _ hjl]; exact List.getElem_mem hjl
                obtain ⟨q6, o6, rfl, hq6, hc6⟩ := hP6.out.pa hjl
                have hqne : q6 ≠ q := by have := hF6.out _ _ rfl; omega
                obtain ⟨_, _, hh, hqu, hcu⟩ := (tch_row hU hP6.out hqne).pa hjl
                injection hh with hh
                injection hh with e1 e2
                subst e1 e2
                obtain ⟨kk, hkk, hso, hks⟩ := sofI_at (hHas.out _ hmem)
                have HSK := Lib.hid (fun w' (hw : Ext wr w') => HSO.out (el Lc j).s w' (hEu.tr hw))
                rw [hso] at HSK
                have hP1 := Lib.hid (hPut.out j kk hkk hks)
                have hlv := HLK2.out _ hmem
                have hft := hHT (el soils kk).s k (by omega)
                have hgb := hgN_bound HLK2.out (el soils kk).s j (by omega)
                have hV : (rsF soils bos g h cn k j kk).v = (htN (knP g h) (coC bos g h cn) (el soils kk).s k + hgN Lc (el soils kk).s j) * (g.S * g.S) := by rw [← hLc]; rfl
                have hka : CellsAt wr w.heap.size 0 [.slice AS soils.length cS, .slice AB bos.length cB] := CellsAt.grown kax hU va (by intro e; injection e with e; omega)
                have hkm := CellsAt.grown kmx hU vm (by intro e; injection e with e; omega)
                have ya : w.heap.size < wr.heap.size := Nat.lt_of_lt_of_le va hU.size
                have ym : w.heap.size + 1 < wr.heap.size := Nat.lt_of_lt_of_le vm hU.size
                have yq : q < wr.heap.size := Nat.lt_of_lt_of_le vqx hU.size
                have a0 : wr.cell? ⟨w.heap.size, 0, none⟩ = some (.slice AS soils.length cS) := by simpa using hka 0 _ rfl
                have hcp := hcu _ (Ext.rfl' _)
                obtain ⟨c0, c1, c2⟩ := hcp
                clear hcu hc6 hmem hHT hso hks
                have hkkI : (kk : Int) < (soils.length : Int) := by omega
                go_upto_region 14 with fail
                refine region_grow (by kernel_rfl) (by kernel_rfl) ?_
                repeat (first | go_big_quiet_step (first | (go_at_call 63; with_reducible exact callsGrow (HSK.out _ (Grow.ok _))) | fail) | quiet_step (first | (go_at_call 63; with_reducible exact callsGrow (HSK.out _ (Grow.ok _))) | fail))
                refine wpQuiet_nil ?_
                intro w1 hb
                have hc := hb.ccell
                have hf := hb.frz
                have hs := hb.sz
                (try simp at hs); (try have hs0 := hs w.heap.size (by omega)); (try have hs1 := hs (w.heap.size + 1) (by omega)); (try have hs2 := hs (w.heap.size + 1 + 1) (by omega)); (try have hs3 := hs (w.heap.size + 1 + 1 + 1) (by omega))
                (try simp only [IntWalk.i64_left])
                have hE1 : Ext wr w1 := by assumption
                clear hb hc hf hs hs0 hs1 hs2 hs3
                obtain ⟨w5, hw5⟩ : ∃ w5, w5 = w1 := ⟨_, rfl⟩
                subst hw5
                have hR5 := Lib.hid (hR.out.kept hE1)
                have hU5 := tch_ext hU hE1
                obtain ⟨m0, m1, m2, m3, m4, m5⟩ := (hkm.ext hE1 ym).six
                have c0 := (hE1.ccell _ _ hqu).trans c0
                have c1 := (hE1.ccell _ _ hqu).trans c1
                have c2 := (hE1.ccell _ _ hqu).trans c2
                have zq := hE1.sz _ yq
                have zm := hE1.sz _ ym
                have z6 := hE1.sz _ hqu
                obtain ⟨hcap, f, hf, hfv⟩ := hR5.out
                have fr := hf.frozen
                have q1 := hf.cell (i := kk * 2 + 1) (by omega)
                rw [hfv _ (by omega)] at q1
                have hev : evS (rsF soils bos g h cn k j) (kk * 2 + 1) = .int .i64 (rsF soils bos g h cn k j kk).v := by unfold evS; simp [show (kk * 2 + 1) / 2 = kk by omega]
                rw [hev] at q1
                clear hf hfv hev a0 hka hkm ya ym yq hE1 hR HSK hU hqu hq6 hF6 hP6
                have hYP : Hid (∀ w', Ext w5 w' → ShR (rsF soils bos g h cn k (j + 1)) soils.length cap q (w'.setCell ⟨q, kk * 2 + 1, none⟩ (.int .i64 ((rsF soils bos g h cn k j kk).v + ((el Lc j).t - (el Lc j).b) * g.S * g.S)))) := Lib.hid (fun w' hw => (hR5.out.kept hw).put hkk _ hP1.out)
                clear hR5 hP1
                have hb0 : 0 ≤ g.S * g.S ∧ g.S * g.S ≤ 10000 * 10000 := ⟨Int.mul_nonneg (by omega) (by omega), Int.mul_le_mul (by omega) (by omega) (by omega) (by omega)⟩
                have hb1 : 0 ≤ (htN (knP g h) (coC bos g h cn) (el soils kk).s k + hgN Lc (el soils kk).s j) * (g.S * g.S) ∧ (htN (knP g h) (coC bos g h cn) (el soils kk).s k + hgN Lc (el soils kk).s j) * (g.S * g.S) ≤ 1000000000 * (10000 * 10000) := ⟨Int.mul_nonneg (by omega) (by omega), Int.mul_le_mul (by omega) (by omega) (by omega) (by omega)⟩
                rw [← hV] at hb1
                clear hV hft hgb
                generalize (rsF soils bos g h cn k j kk).v = V at *
                generalize el Lc j = u at *
                have hb2 : 0 ≤ (u.t - u.b) * g.S ∧ (u.t - u.b) * g.S ≤ 40000 * 10000 := ⟨Int.mul_nonneg (by omega) (by omega), Int.mul_le_mul (by omega) (by omega) (by omega) (by omega)⟩
                have hb3 : 0 ≤ (u.t - u.b) * g.S * g.S ∧ (u.t - u.b) * g.S * g.S ≤ 40000 * 10000 * 10000 := ⟨Int.mul_nonneg (by omega) (by omega), Int.mul_le_mul (by omega) (by omega) (by omega) (by omega)⟩
                go_upto_region 15 with fail
                refine region_grow_tail 27 (by kernel_rfl) (by kernel_rfl) ?_
                simp only [List.take_succ_cons, List.take_zero, List.drop_succ_cons, List.drop_zero]
                repeat (first | go_big_quiet_step (first | fail | fail) | quiet_step (first | fail | fail))
                refine wpQuiet_nil ?_
                intro w1 hb
                have hc := hb.ccell
                have hf := hb.frz
                have hs := hb.sz
                (try simp at hs); (try have hs0 := hs w.heap.size (by omega)); (try have hs1 := hs (w.heap.size + 1) (by omega)); (try have hs2 := hs (w.heap.size + 1 + 1) (by omega)); (try have hs3 := hs (w.heap.size + 1 + 1 + 1) (by omega))
                have hE7 : Ext w5 w1 := by assumption
                have hXQ : Hid (ShR (rsF soils bos g h cn k (j + 1)) soils.length cap q (w1.setCell ⟨q, kk * 2 + 1, none⟩ (.int .i64 (V + (u.t - u.b) * g.S * g.S)))) := Lib.hid (hYP.out w1 hE7)
                go_wp2
                exact ⟨⟨tch_set (tch_ext hU5 hE7) _ _, j + 1, by omega, by go_num, hXQ⟩, by simp [intOf]; omega⟩
              · have hjs : j = Lc.length := by omega
                subst hjs
                go_wp2
                exact ⟨⟨tch_tr hT7 hU, k + 1, by omega, by go_num, Lib.hid (hR.out.congr (fun i _ => hDone.out i))⟩, by simp [intOf]; omega⟩
        · have hks : k = g.L.length := by omega
          subst hks
          have hrow := Lib.hid (hR.out.congr (fun i _ => (rsF_last soils bos g h cn i).symm)).row
          clear hR
          go_wp2
          go_ret
          exact ⟨⟨_, _, by rw [mkS_len]; rfl, hrow.out⟩, hEr⟩
end Go.Proofs.Ytohdplnlbnoojaa

/- The contracts of differences, of Residuals and of Calibrate. -/
import Derived.Test.YtblmljcgjibfgaaTshift
import Derived.Test.YtblmljcgjibfgaaTrshift
namespace Go.Proofs.Ytblmljcgjibfgaa
open Go Go.RowKit Go.IntWalk Go.Shelf

theorem infoI : (Try.prog.info? 28).map (fun i => (i.zero, i.size, i.bytes)) = some (some (.agg #[.int .i64 0, .int .i64 0]), 2, 16) := by kernel_rfl
def seenErr (l : List Pt) (P : Int → Nat) (p : Pt) : Int := if okM p = false then 2 else if mOk l p.x (P p.x) = false then 11 else 0
def seenE (s : ByteArray) (x er : Int) (l : List Pt) (P : Int → Nat) (sn : List Pt) : Int :=
  if gaugeE s x er l ≠ 0 then gaugeE s x er l else if 400 < sn.length then 8 else if sn.length = 0 then 11 else firstE (fun k => seenErr l P (gt sn k)) sn.length
def dL (l : List Pt) (P : Int → Nat) (p : Pt) : Pt := ⟨p.y - mHi l p.x (P p.x), p.y - mLo l p.x (P p.x)⟩
def resL (l : List Pt) (P : Int → Nat) (sn : List Pt) : List Pt := sn.map (dL l P)
theorem resL_len (l : List Pt) (P : Int → Nat) (sn : List Pt) : (resL l P sn).length = sn.length := by simp [resL]
theorem resL_take (l : List Pt) (P : Int → Nat) (sn : List Pt) (k : Nat) (hk : k < sn.length) : resL l P (sn.take (k + 1)) = resL l P (sn.take k) ++ [dL l P sn[k]] := by
  unfold resL
  rw [List.take_succ_eq_append_getElem hk, List.map_append]; rfl
theorem two_at (w : World) (n : Nat) (hn : n = w.heap.size) (x y : Value) (t : TypeId) : ∀ j u, [x, y][j]? = some u → (w.alloc (.cells #[x, y] t)).cell? ((⟨n, 0, none⟩ : Addr).add j) = some u := by subst hn; exact two_new w x y t
theorem ownI_cases {e : TypeId} {w : World} {base : Nat} {v : Value} {L : List Pt} (h : w.ownsRow base e 2 v L.length (L.flatMap encP)) : ∃ A' c', v = .slice A' L.length c' ∧ Row 2 encP w A' L ∧ ∀ a, A' = some a → base ≤ a.block := by
  have h1 := h.2
  rcases h.2 with ⟨h', h''⟩ | ⟨g', cap', cur, h', hb, hg, hnc, hcm, hcs, htake⟩
  · have hn : L = [] := by
      cases L with
      | nil => rfl
      | cons p L => simp at h''
    subst hn
    exact ⟨none, 0, h', .inl rfl, fun a h => by cases h⟩
  · subst h'
    refine ⟨_, _, rfl, .inr ⟨g', 0, rfl, ?_, fun i hi j v hv => ?_⟩, fun a h => by injection h with h; subst h; exact hb⟩
    · rcases Nat.lt_or_ge g' w.heap.size with h | h
      · exact h
      · rw [Array.getElem?_eq_none h] at hg; cases hg
    · rw [Nat.zero_add]
      have hv2 := flat_get encP_len L i hi j v hv
      have := h.cellAt (i * 2 + j) (by have := (List.getElem?_eq_some_iff.1 hv2).1; rw [flat_len] at this; exact this)
      rw [this]; exact hv2
/-- A list of intervals, or the error. -/
def DfOut (h : Nat) (L : List Pt) (E : Int) (e : Ending) (w' : World) : Prop :=
  (E = 0 ∧ ∃ A' c', e = .returned (.tuple #[.slice A' L.length c', .int .i64 0]) ∧ Row 2 encP w' A' L ∧ ∀ a, A' = some a → h ≤ a.block) ∨
  (E ≠ 0 ∧ e = .returned (.tuple #[.slice none 0 0, .int .i64 E]))
set_option maxHeartbeats 4000000 in
theorem diff_c (s : ByteArray) (x er : Int) (l sn : List Pt) (P : Int → Nat) (w : World) (A B : Option Addr) (c c' : Nat) (hl : l.length ≤ 1000) (hsn : sn.length ≤ 1000) (hA : Row 2 encP w A l) (hB : Row 2 encP w B sn) (hP : Good l → ∀ t, PosAt l t (P t)) :
    Calls Try.prog 94 #[.agg #[.string s, .int .i64 x, .int .i64 er, .slice A l.length c], .slice B sn.length c'] w
      fun e w' => DfOut w.heap.size (resL l P sn) (seenE s x er l P sn) e w' ∧ Ext w w' := by
  have HC := Lib.hid (fun w' (hw : Ext w w') => checkGauge_c s x er l w' A c hl (hA.ext hw))
  unfold seenE
  by_cases h0 : gaugeE s x er l = 0
  case neg =>
    rw [if_pos h0]
    generalize gaugeE s x er l = r at *
    have h' : (r == 0) = false := by simp [h0]
    go_enter Try.func94, Try.ntmps94
    go_wp2_with (first | (go_at_call 62; with_reducible refine Calls.mono (HC.out _ (by (repeat (first | with_reducible exact Ext.rfl' _ | with_reducible assumption | with_reducible refine Ext.al ?_ _ | with_reducible refine Ext.dr ?_ | with_reducible refine Ext.st ?_ (by simp) _ | with_reducible refine Ext.tr ?_ (by assumption))))) ?_; rintro e w1 ⟨rfl, hb⟩; have hc := hb.ccell; have hf := hb.frz; have hs := hb.sz; (try simp at hs); (try have hs0 := hs w.heap.size (by omega)); (try have hs1 := hs (w.heap.size + 1) (by omega)); (try have hs2 := hs (w.heap.size + 1 + 1) (by omega)); (try have hs3 := hs (w.heap.size + 1 + 1 + 1) (by omega))))
    exact bodyPost_ret (v := .tuple #[.slice none 0 0, .int .i64 r]) (by simp [results, Try.results94, go_sem]) rfl ⟨.inr ⟨h0, rfl⟩, by (repeat (first | with_reducible exact Ext.rfl' _ | with_reducible assumption | with_reducible refine Ext.al ?_ _ | with_reducible refine Ext.dr ?_ | with_reducible refine Ext.st ?_ (by simp) _ | with_reducible refine Ext.tr ?_ (by assumption)))⟩
  rw [if_neg (by rw [h0]; simp)]
  rw [h0] at HC
  obtain ⟨_, _, he, hG⟩ := gaugeE_zero h0
  by_cases h4 : 400 < sn.length
  · rw [if_pos h4]
    have h4' : (400 : Int) < (sn.length : Int) := by omega
    go_enter Try.func94, Try.ntmps94
    go_wp2_with (first | (go_at_call 62; with_reducible refine Calls.mono (HC.out _ (by (repeat (first | with_reducible exact Ext.rfl' _ | with_reducible assumption | with_reducible refine Ext.al ?_ _ | with_reducible refine Ext.dr ?_ | with_reducible refine Ext.st ?_ (by simp) _ | with_reducible refine Ext.tr ?_ (by assumption))))) ?_; rintro e w1 ⟨rfl, hb⟩; have hc := hb.ccell; have hf := hb.frz; have hs := hb.sz; (try simp at hs); (try have hs0 := hs w.heap.size (by omega)); (try have hs1 := hs (w.heap.size + 1) (by omega)); (try have hs2 := hs (w.heap.size + 1 + 1) (by omega)); (try have hs3 := hs (w.heap.size + 1 + 1 + 1) (by omega))))
    exact bodyPost_ret (v := .tuple #[.slice none 0 0, .int .i64 8]) (by simp [results, Try.results94, go_sem]) rfl ⟨.inr ⟨by decide, rfl⟩, by (repeat (first | with_reducible exact Ext.rfl' _ | with_reducible assumption | with_reducible refine Ext.al ?_ _ | with_reducible refine Ext.dr ?_ | with_reducible refine Ext.st ?_ (by simp) _ | with_reducible refine Ext.tr ?_ (by assumption)))⟩
  rw [if_neg h4]
  have h4' : (sn.length : Int) ≤ 400 := by omega
  by_cases hz : sn.length = 0
  · rw [if_pos hz]
    have hz' : ((sn.length : Int) == 0) = true := by rw [beq_iff_eq]; omega
    rw [hz] at *
    clear hz hz' h4' h4
    go_enter Try.func94, Try.ntmps94
    go_wp2_with (first | (go_at_call 62; with_reducible refine Calls.mono (HC.out _ (by (repeat (first | with_reducible exact Ext.rfl' _ | with_reducible assumption | with_reducible refine Ext.al ?_ _ | with_reducible refine Ext.dr ?_ | with_reducible refine Ext.st ?_ (by simp) _ | with_reducible refine Ext.tr ?_ (by assumption))))) ?_; rintro e w1 ⟨rfl, hb⟩; have hc := hb.ccell; have hf := hb.frz; have hs := hb.sz; (try simp at hs); (try have hs0 := hs w.heap.size (by omega)); (try have hs1 := hs (w.heap.size + 1) (by omega)); (try have hs2 := hs (w.heap.size + 1 + 1) (by omega)); (try have hs3 := hs (w.heap.size + 1 + 1 + 1) (by omega))))
    exact bodyPost_ret (v := .tuple #[.slice none 0 0, .int .i64 11]) (by simp [results, Try.results94, go_sem]) rfl ⟨.inr ⟨by decide, rfl⟩, by (repeat (first | with_reducible exact Ext.rfl' _ | with_reducible assumption | with_reducible refine Ext.al ?_ _ | with_reducible refine Ext.dr ?_ | with_reducible refine Ext.st ?_ (by simp) _ | with_reducible refine Ext.tr ?_ (by assumption)))⟩
  rw [if_neg hz]
  have hz' : ((sn.length : Int) == 0) = false := by rw [beq_eq_false_iff_ne]; omega
  obtain ⟨Z, hZ⟩ : ∃ Z : Int, firstE (fun k => seenErr l P (gt sn k)) sn.length = Z := ⟨_, rfl⟩
  rw [hZ]
  have HZ := Lib.hid hZ
  have HPA := Lib.hid (hP hG)
  clear hZ h0 hP
  go_enter Try.func94, Try.ntmps94
  go_wp2_with (first | (go_at_call 62; with_reducible refine Calls.mono (HC.out _ (by (repeat (first | with_reducible exact Ext.rfl' _ | with_reducible assumption | with_reducible refine Ext.al ?_ _ | with_reducible refine Ext.dr ?_ | with_reducible refine Ext.st ?_ (by simp) _ | with_reducible refine Ext.tr ?_ (by assumption))))) ?_; rintro e w1 ⟨rfl, hb⟩; have hc := hb.ccell; have hf := hb.frz; have hs := hb.sz; (try simp at hs); (try have t0 := hs (w.heap.size) (by first | assumption | omega)); (try have t1 := hs (w.heap.size) (by first | assumption | omega)); (try have t2 := hs (w.heap.size) (by first | assumption | omega)); (try have t3 := hs (w.heap.size) (by first | assumption | omega)); (try have t4 := hs (w.heap.size) (by first | assumption | omega)); (try have t5 := hs (w.heap.size) (by first | assumption | omega))))
  have hE1 : Ext w w1 := by (repeat (first | with_reducible exact Ext.rfl' _ | with_reducible assumption | with_reducible refine Ext.al ?_ _ | with_reducible refine Ext.dr ?_ | with_reducible refine Ext.st ?_ (by simp) _ | with_reducible refine Ext.tr ?_ (by assumption)))
  have gz : Fo w1 w.heap.size (.string s) (.int .i64 x) (.int .i64 er) (.slice A l.length c) := by refine ⟨?_, ?_, ?_, ?_⟩ <;> simp [*, go_sem]
  have hs1 : w.heap.size < w1.heap.size := t0
  have HK := Lib.hid (And.intro hE1 (And.intro gz hs1))
  clear gz hc hf hs hb HC t0 t1 t2 t3 t4 t5
  go_loopw [7, 25] (fun vl v wr => Ext w1 wr ∧ ∃ k : Nat, k ≤ sn.length ∧ v = .int .i64 k ∧ Hid (firstE (fun k => seenErr l P (gt sn k)) k = 0) ∧ Hid (wr.ownsRow w1.heap.size 28 2 vl k ((resL l P (sn.take k)).flatMap encP))) (fun _ v _ => sn.length - (intOf v).toNat)
  case atStart => exact ⟨Ext.rfl' _, 0, Nat.zero_le _, rfl, rfl, World.ownsRow_nil _ _ _ _⟩
  case round =>
    obtain ⟨hE, k, hk, rfl, hN, hO⟩ := hrel
    have hEw : Ext w wr := hE1.tr hE
    have hsz := hE.size
    have hzr := hE.sz _ hs1
    by_cases hlt : k < sn.length
    · obtain ⟨b, off, rfl, hb0, hcell⟩ := hB.p2 hlt
      have hc0 := hcell _ hEw
      clear hcell
      have hzb := hEw.sz _ hb0
      obtain ⟨c1, c2⟩ := hc0
      have hgk := gt_lt sn k hlt
      obtain ⟨g0, g1, g2, g3⟩ := Fo.all (HK.out.2.1.ext hE hs1)
      have HI := Lib.hid (fun r (h : okM (gt sn k) = r) w => inRange_c sn[k].x sn[k].y r (by rw [hgk] at h; exact h) w)
      have herr : ∀ z, seenErr l P (gt sn k) = z → z ≠ 0 → Z = z := fun z hz hne => by
        have h := firstE_at (f := fun k => seenErr l P (gt sn k)) hlt hN.out (by rw [hz]; exact hne)
        rw [← HZ.out, h, hz]
      have HER := Lib.hid herr
      have hstep : seenErr l P (gt sn k) = 0 → firstE (fun k => seenErr l P (gt sn k)) (k + 1) = 0 := fun h => firstE_step hN.out h
      have HST := Lib.hid hstep
      clear herr hstep
      cases hq : okM (gt sn k)
      · have HI2 := Lib.hid (HI.out false hq)
        have hZ2 : Z = 2 := HER.out 2 (by unfold seenErr; rw [hq]; rfl) (by decide)
        subst hZ2
        clear hq HI HER HST hgk
        generalize sn[k].x = px at *
        generalize sn[k].y = py at *
        go_wp2_with (first | (go_at_call 86; with_reducible refine Calls.mono (HI2.out _) ?_; rintro e w3 ⟨rfl, hb⟩; have hc := hb.ccell; have hf := hb.frz; have hs := hb.sz; (try simp at hs); (try have t0 := hs (w.heap.size) (by first | assumption | omega)); (try have t1 := hs (wr.heap.size) (by first | assumption | omega)); (try have t2 := hs (w.heap.size) (by first | assumption | omega)); (try have t3 := hs (w.heap.size) (by first | assumption | omega)); (try have t4 := hs (w.heap.size) (by first | assumption | omega)); (try have t5 := hs (w.heap.size) (by first | assumption | omega))))
        exact bodyPost_ret (v := .tuple #[.slice none 0 0, .int .i64 2]) (by simp [results, Try.results94, go_sem]) rfl ⟨.inr ⟨by decide, rfl⟩, by (repeat (first | with_reducible exact Ext.rfl' _ | with_reducible assumption | with_reducible refine Ext.al ?_ _ | with_reducible refine Ext.dr ?_ | with_reducible refine Ext.st ?_ (by simp) _ | with_reducible refine Ext.tr ?_ (by assumption)))⟩
      · have HI2 := Lib.hid (HI.out true hq)
        have hok := (okM_iff _).1 hq
        obtain ⟨⟨o1, o2⟩, o3, o4⟩ := hok
        have hp := HPA.out (gt sn k).x
        have HM := Lib.hid (fun w' (hw : Ext w w') => meanLevel_c l (gt sn k).x (P (gt sn k).x) w' A c hG ⟨o1, o2⟩ (hA.ext hw) hp)
        obtain ⟨⟨b1, b2⟩, b3, b4⟩ := lohi_bound hG ⟨o1, o2⟩ hp
        cases ho : mOk l (gt sn k).x (P (gt sn k).x)
        · have hZ2 : Z = 11 := HER.out 11 (by unfold seenErr; rw [hq, ho]; rfl) (by decide)
          subst hZ2
          rw [ho] at HM
          clear hq HI HER HST ho hp b1 b2 b3 b4
          rw [hgk] at HM o1 o2 o3 o4
          clear hgk
          generalize mLo l sn[k].x (P sn[k].x) = lo at *
          generalize mHi l sn[k].x (P sn[k].x) = hi at *
          generalize sn[k].x = px at *
          generalize sn[k].y = py at *
          go_wp2_with (first | (go_at_call 86; with_reducible refine Calls.mono (HI2.out _) ?_; rintro e w3 ⟨rfl, hb⟩; have hc := hb.ccell; have hf := hb.frz; have hs := hb.sz; (try simp at hs); (try have t0 := hs (w.heap.size) (by first | assumption | omega)); (try have t1 := hs (wr.heap.size) (by first | assumption | omega)); (try have t2 := hs (w.heap.size) (by first | assumption | omega)); (try have t3 := hs (w.heap.size) (by first | assumption | omega)); (try have t4 := hs (w.heap.size) (by first | assumption | omega)); (try have t5 := hs (w.heap.size) (by first | assumption | omega))) | (go_at_call 95; with_reducible refine Calls.mono (HM.out _ (by (repeat (first | with_reducible exact Ext.rfl' _ | with_reducible assumption | with_reducible refine Ext.al ?_ _ | with_reducible refine Ext.dr ?_ | with_reducible refine Ext.st ?_ (by simp) _ | with_reducible refine Ext.tr ?_ (by assumption))))) ?_; rintro e w4 ⟨rfl, hb⟩; have hc := hb.ccell; have hf := hb.frz; have hs := hb.sz; (try simp at hs); (try have t0 := hs (w.heap.size) (by first | assumption | omega)); (try have t1 := hs (wr.heap.size) (by first | assumption | omega)); (try have t2 := hs (w3.heap.size) (by first | assumption | omega)); (try have t3 := hs (w.heap.size) (by first | assumption | omega)); (try have t4 := hs (w.heap.size) (by first | assumption | omega)); (try have t5 := hs (w.heap.size) (by first | assumption | omega))))
          exact bodyPost_ret (v := .tuple #[.slice none 0 0, .int .i64 11]) (by simp [results, Try.results94, go_sem]) rfl ⟨.inr ⟨by decide, rfl⟩, by (repeat (first | with_reducible exact Ext.rfl' _ | with_reducible assumption | with_reducible refine Ext.al ?_ _ | with_reducible refine Ext.dr ?_ | with_reducible refine Ext.st ?_ (by simp) _ | with_reducible refine Ext.tr ?_ (by assumption)))⟩
        · have hst := HST.out (by unfold seenErr; rw [hq, ho]; rfl)
          have HST2 := Lib.hid hst
          have HTK := Lib.hid (resL_take l P sn k hlt)
          rw [ho] at HM
          clear hq HI HER HST ho hp hst
          rw [hgk] at HM o1 o2 o3 o4 b1 b2 b3 b4
          clear hgk
          unfold dL at HTK
          generalize mLo l sn[k].x (P sn[k].x) = lo at *
          generalize mHi l sn[k].x (P sn[k].x) = hi at *
          generalize sn[k].x = px at *
          generalize sn[k].y = py at *
          have HO := Lib.hid hO.out
          obtain ⟨i0, hi0, hzi0, hzi1, hzi2⟩ := info_parts infoI
          go_wp2_with (first | (go_at_call 86; with_reducible refine Calls.mono (HI2.out _) ?_; rintro e w3 ⟨rfl, hb⟩; have hc := hb.ccell; have hf := hb.frz; have hs := hb.sz; (try simp at hs); (try have t0 := hs (w.heap.size) (by first | assumption | omega)); (try have t1 := hs (wr.heap.size) (by first | assumption | omega)); (try have t2 := hs (w.heap.size) (by first | assumption | omega)); (try have t3 := hs (w.heap.size) (by first | assumption | omega)); (try have t4 := hs (w.heap.size) (by first | assumption | omega)); (try have t5 := hs (w.heap.size) (by first | assumption | omega))) | (go_at_call 95; with_reducible refine Calls.mono (HM.out _ (by (repeat (first | with_reducible exact Ext.rfl' _ | with_reducible assumption | with_reducible refine Ext.al ?_ _ | with_reducible refine Ext.dr ?_ | with_reducible refine Ext.st ?_ (by simp) _ | with_reducible refine Ext.tr ?_ (by assumption))))) ?_; rintro e w4 ⟨rfl, hb⟩; have hc := hb.ccell; have hf := hb.frz; have hs := hb.sz; (try simp at hs); (try have t0 := hs (w.heap.size) (by first | assumption | omega)); (try have t1 := hs (wr.heap.size) (by first | assumption | omega)); (try have t2 := hs (w3.heap.size) (by first | assumption | omega)); (try have t3 := hs (w.heap.size) (by first | assumption | omega)); (try have t4 := hs (w.heap.size) (by first | assumption | omega)); (try have t5 := hs (w.heap.size) (by first | assumption | omega))) | (at_builtin; refine wpList_append_own _ rfl _ _ 118 rfl w1.heap.size 28 i0 _ 2 16 Try.underlying118 hi0 hzi0 hzi1 hzi2 rfl (by decide) _ _ _ rfl (World.ownsRow.alloc (ownsRow_ext HO.out (by (repeat (first | with_reducible exact Ext.rfl' _ | with_reducible assumption | with_reducible refine Ext.al ?_ _ | with_reducible refine Ext.dr ?_ | with_reducible refine Ext.st ?_ (by simp) _ | with_reducible refine Ext.tr ?_ (by assumption))))) _) ⟨_, 0, none⟩ 1 1 [.int .i64 (py - hi), .int .i64 (py - lo)] rfl rfl ?_ ?_ ?_ ?_ ?_ ?_))
          any_goals first | (exact two_new _ _ _ _; done) | (exact two_at _ _ (by simp) _ _ _) | (intro u hu; simp at hu; rcases hu with rfl | rfl <;> rfl) | (exact ⟨rfl, rfl⟩) | (unfold maxLen; omega) | omega | (simp; omega) | (have h9 := (hE.tr (show Ext wr w4 by (repeat (first | with_reducible exact Ext.rfl' _ | with_reducible assumption | with_reducible refine Ext.al ?_ _ | with_reducible refine Ext.dr ?_ | with_reducible refine Ext.st ?_ (by simp) _ | with_reducible refine Ext.tr ?_ (by assumption))))).size; simp; omega)
          intro v' w5 hown5 hgrow5 _
          clear hi0 hzi0 hzi1 hzi2
          have hX4 : Ext wr w4 := by (repeat (first | with_reducible exact Ext.rfl' _ | with_reducible assumption | with_reducible refine Ext.al ?_ _ | with_reducible refine Ext.dr ?_ | with_reducible refine Ext.st ?_ (by simp) _ | with_reducible refine Ext.tr ?_ (by assumption)))
          have hlt5 := World.ownsRow.lt (ownsRow_ext HO.out hX4)
          have hE5 : Ext w1 w5 := Below.grown (show Below w1.heap.size w1 _ from by (repeat (first | with_reducible exact Ext.rfl' _ | with_reducible assumption | with_reducible refine Ext.al ?_ _ | with_reducible refine Ext.dr ?_ | with_reducible refine Ext.st ?_ (by simp) _ | with_reducible refine Ext.tr ?_ (by assumption)))) hgrow5 (by have := (hE.tr hX4).size; simp; omega) (by intro q hq; exact (hlt5 q hq).1)
          go_wp2
          refine ⟨⟨hE5, k + 1, by omega, by go_num, HST2.out, ?_⟩, by simp [intOf]; omega⟩
          show w5.ownsRow _ _ _ _ _ _
          rw [HTK.out, List.flatMap_append]
          exact hown5
    · have hkl : k = sn.length := by omega
      subst hkl
      have hZ0 : Z = 0 := HZ.out.symm.trans hN.out
      subst hZ0
      have hO2 := hO.out
      rw [List.take_length] at hO2
      have hln := resL_len l P sn
      obtain ⟨A', c', hv, hO3, hO4⟩ := ownI_cases (by rw [hln]; exact hO2)
      rw [hln] at hv
      subst hv
      clear hO hO2
      go_wp2
      exact bodyPost_ret (v := .tuple #[.slice A' sn.length c', .int .i64 0]) (by simp [results, Try.results94, go_sem]) rfl ⟨.inl ⟨rfl, A', c', by rw [hln], hO3, fun a h => by have := hO4 a h; have := HK.out.1.size; omega⟩, by (repeat (first | with_reducible exact Ext.rfl' _ | with_reducible assumption | with_reducible refine Ext.al ?_ _ | with_reducible refine Ext.dr ?_ | with_reducible refine Ext.st ?_ (by simp) _ | with_reducible refine Ext.tr ?_ (by assumption)))⟩
end Go.Proofs.Ytblmljcgjibfgaa

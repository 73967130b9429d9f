/- The contracts of the reference's CheckSeen, Residuals and Need. -/
import Derived.Test.YtblmljcgjibfgaaTseen2
import Derived.Test.YtblmljcgjibfgaaTref2
import Derived.Outline
namespace Go.Proofs.Ytblmljcgjibfgaa
open Go Go.RowKit Go.IntWalk Go.Shelf

set_option maxHeartbeats 4000000 in
set_option maxRecDepth 100000 in
theorem rcheckSeen_c (s : ByteArray) (x er : Int) (l sn : List Pt) (P : Int → Nat) (w : World) (A B : Option Addr) (c c' : Nat) (hl : l.length ≤ 1000) (hsn : sn.length ≤ 1000) (hA : Row 2 encP w A l) (hB : Row 2 encP w B sn) (hP : Good l → ∀ t, PosAt l t (P t)) :
    Calls Try.prog 58 #[.agg #[.string s, .int .i64 x, .int .i64 er, .slice A l.length c], .slice B sn.length c'] w
      fun e w' => e = .returned (.int .i64 (seenE s x er l P sn)) ∧ Ext w w' := by
  have HC := Lib.hid (fun w' (hw : Ext w w') => rcheckGauge_c s x er l w' A c hl (hA.ext hw))
  unfold seenE
  by_cases h0 : gaugeE s x er l = 0
  case neg =>
    rw [if_pos h0]
    generalize gaugeE s x er l = r at *
    have h' : (r == 0) = false := by simp [h0]
    go_enter Try.func58, Try.ntmps58
    go_wp2_with (first | (go_at_call 18; with_reducible refine Calls.mono (HC.out _ (by (repeat (first | with_reducible exact Ext.rfl' _ | with_reducible assumption | with_reducible refine Ext.al ?_ _ | with_reducible refine Ext.dr ?_ | with_reducible refine Ext.st ?_ (by simp) _ | with_reducible refine Ext.tr ?_ (by assumption))))) ?_; rintro e w1 ⟨rfl, hb⟩; have hc := hb.ccell; have hf := hb.frz; have hs := hb.sz; (try simp at hs); (try have hs0 := hs w.heap.size (by omega)); (try have hs1 := hs (w.heap.size + 1) (by omega)); (try have hs2 := hs (w.heap.size + 1 + 1) (by omega)); (try have hs3 := hs (w.heap.size + 1 + 1 + 1) (by omega))))
    go_ret
    exact ⟨rfl, by (repeat (first | with_reducible exact Ext.rfl' _ | with_reducible assumption | with_reducible refine Ext.al ?_ _ | with_reducible refine Ext.dr ?_ | with_reducible refine Ext.st ?_ (by simp) _ | with_reducible refine Ext.tr ?_ (by assumption)))⟩
  rw [if_neg (by rw [h0]; simp)]
  rw [h0] at HC
  obtain ⟨_, _, he, hG⟩ := gaugeE_zero h0
  by_cases h4 : 400 < sn.length
  · rw [if_pos h4]
    have h4' : (400 : Int) < (sn.length : Int) := by omega
    go_enter Try.func58, Try.ntmps58
    go_wp2_with (first | (go_at_call 18; with_reducible refine Calls.mono (HC.out _ (by (repeat (first | with_reducible exact Ext.rfl' _ | with_reducible assumption | with_reducible refine Ext.al ?_ _ | with_reducible refine Ext.dr ?_ | with_reducible refine Ext.st ?_ (by simp) _ | with_reducible refine Ext.tr ?_ (by assumption))))) ?_; rintro e w1 ⟨rfl, hb⟩; have hc := hb.ccell; have hf := hb.frz; have hs := hb.sz; (try simp at hs); (try have hs0 := hs w.heap.size (by omega)); (try have hs1 := hs (w.heap.size + 1) (by omega)); (try have hs2 := hs (w.heap.size + 1 + 1) (by omega)); (try have hs3 := hs (w.heap.size + 1 + 1 + 1) (by omega))))
    go_ret
    exact ⟨rfl, by (repeat (first | with_reducible exact Ext.rfl' _ | with_reducible assumption | with_reducible refine Ext.al ?_ _ | with_reducible refine Ext.dr ?_ | with_reducible refine Ext.st ?_ (by simp) _ | with_reducible refine Ext.tr ?_ (by assumption)))⟩
  rw [if_neg h4]
  have h4' : (sn.length : Int) ≤ 400 := by omega
  by_cases hz : sn.length = 0
  · rw [if_pos hz]
    rw [hz] at *
    clear hz h4' h4
    go_enter Try.func58, Try.ntmps58
    go_wp2_with (first | (go_at_call 18; with_reducible refine Calls.mono (HC.out _ (by (repeat (first | with_reducible exact Ext.rfl' _ | with_reducible assumption | with_reducible refine Ext.al ?_ _ | with_reducible refine Ext.dr ?_ | with_reducible refine Ext.st ?_ (by simp) _ | with_reducible refine Ext.tr ?_ (by assumption))))) ?_; rintro e w1 ⟨rfl, hb⟩; have hc := hb.ccell; have hf := hb.frz; have hs := hb.sz; (try simp at hs); (try have hs0 := hs w.heap.size (by omega)); (try have hs1 := hs (w.heap.size + 1) (by omega)); (try have hs2 := hs (w.heap.size + 1 + 1) (by omega)); (try have hs3 := hs (w.heap.size + 1 + 1 + 1) (by omega))))
    go_ret
    exact ⟨rfl, by (repeat (first | with_reducible exact Ext.rfl' _ | with_reducible assumption | with_reducible refine Ext.al ?_ _ | with_reducible refine Ext.dr ?_ | with_reducible refine Ext.st ?_ (by simp) _ | with_reducible refine Ext.tr ?_ (by assumption)))⟩
  rw [if_neg hz]
  have hz' : ((sn.length : Int) == 0) = false := by rw [beq_eq_false_iff_ne]; omega
  obtain ⟨Z, hZ⟩ : ∃ Z : Int, firstE (fun k => seenErr l P (gt sn k)) sn.length = Z := ⟨_, rfl⟩
  rw [hZ]
  have HZ := Lib.hid hZ
  have HPA := Lib.hid (hP hG)
  clear hZ h0 hP
  go_enter Try.func58, Try.ntmps58
  go_wp2_with (first | (go_at_call 18; with_reducible refine Calls.mono (HC.out _ (by (repeat (first | with_reducible exact Ext.rfl' _ | with_reducible assumption | with_reducible refine Ext.al ?_ _ | with_reducible refine Ext.dr ?_ | with_reducible refine Ext.st ?_ (by simp) _ | with_reducible refine Ext.tr ?_ (by assumption))))) ?_; rintro e w1 ⟨rfl, hb⟩; have hc := hb.ccell; have hf := hb.frz; have hs := hb.sz; (try simp at hs); (try have t0 := hs (w.heap.size) (by first | assumption | omega)); (try have t1 := hs (w.heap.size) (by first | assumption | omega)); (try have t2 := hs (w.heap.size) (by first | assumption | omega)); (try have t3 := hs (w.heap.size) (by first | assumption | omega)); (try have t4 := hs (w.heap.size) (by first | assumption | omega)); (try have t5 := hs (w.heap.size) (by first | assumption | omega))))
  have hE1 : Ext w w1 := by (repeat (first | with_reducible exact Ext.rfl' _ | with_reducible assumption | with_reducible refine Ext.al ?_ _ | with_reducible refine Ext.dr ?_ | with_reducible refine Ext.st ?_ (by simp) _ | with_reducible refine Ext.tr ?_ (by assumption)))
  have gz : Fo w1 w.heap.size (.string s) (.int .i64 x) (.int .i64 er) (.slice A l.length c) := by refine ⟨?_, ?_, ?_, ?_⟩ <;> simp [*, go_sem]
  have hs1 : w.heap.size < w1.heap.size := t0
  have HK := Lib.hid (And.intro hE1 (And.intro gz hs1))
  clear gz hc hf hs hb HC t0 t1 t2 t3 t4 t5
  go_loopw [6] (fun v wr => Ext w1 wr ∧ ∃ k : Nat, k ≤ sn.length ∧ v = .int .i64 k ∧ Hid (firstE (fun k => seenErr l P (gt sn k)) k = 0)) (fun v _ => sn.length - (intOf v).toNat)
  case atStart => exact ⟨Ext.rfl' _, 0, Nat.zero_le _, rfl, rfl⟩
  case round =>
    obtain ⟨hE, k, hk, rfl, hN⟩ := hrel
    have hEw : Ext w wr := hE1.tr hE
    have hsz := hE.size
    have hzr := hE.sz _ hs1
    by_cases hlt : k < sn.length
    · obtain ⟨b, off, rfl, hb0, hcell⟩ := hB.p2 hlt
      have hc0 := hcell _ hEw
      clear hcell
      have hzb := hEw.sz _ hb0
      obtain ⟨c1, c2⟩ := hc0
      have hgk := gt_lt sn k hlt
      obtain ⟨g0, g1, g2, g3⟩ := Fo.all (HK.out.2.1.ext hE hs1)
      have HI := Lib.hid (fun r (h : okM (gt sn k) = r) w => checkMark_c sn[k].x sn[k].y r (by rw [hgk] at h; exact h) w)
      have herr : ∀ z, seenErr l P (gt sn k) = z → z ≠ 0 → Z = z := fun z hz hne => by
        have h := firstE_at (f := fun k => seenErr l P (gt sn k)) hlt hN.out (by rw [hz]; exact hne)
        rw [← HZ.out, h, hz]
      have HER := Lib.hid herr
      have hstep : seenErr l P (gt sn k) = 0 → firstE (fun k => seenErr l P (gt sn k)) (k + 1) = 0 := fun h => firstE_step hN.out h
      have HST := Lib.hid hstep
      clear herr hstep
      cases hq : okM (gt sn k)
      · have HI2 := Lib.hid (HI.out false hq)
        have hZ2 : Z = 2 := HER.out 2 (by unfold seenErr; rw [hq]; rfl) (by decide)
        subst hZ2
        clear hq HI HER HST hgk
        generalize sn[k].x = px at *
        generalize sn[k].y = py at *
        go_wp2_with (first | (go_at_call 88; with_reducible refine Calls.mono (HI2.out _) ?_; rintro e w3 ⟨rfl, hb⟩; have hc := hb.ccell; have hf := hb.frz; have hs := hb.sz; (try simp at hs); (try have t0 := hs (w.heap.size) (by first | assumption | omega)); (try have t1 := hs (b) (by first | assumption | omega)); (try have t2 := hs (w.heap.size) (by first | assumption | omega)); (try have t3 := hs (w.heap.size) (by first | assumption | omega)); (try have t4 := hs (w.heap.size) (by first | assumption | omega)); (try have t5 := hs (w.heap.size) (by first | assumption | omega))))
        go_ret
        exact ⟨rfl, by (repeat (first | with_reducible exact Ext.rfl' _ | with_reducible assumption | with_reducible refine Ext.al ?_ _ | with_reducible refine Ext.dr ?_ | with_reducible refine Ext.st ?_ (by simp) _ | with_reducible refine Ext.tr ?_ (by assumption)))⟩
      · have HI2 := Lib.hid (HI.out true hq)
        have hok := (okM_iff _).1 hq
        obtain ⟨⟨o1, o2⟩, o3, o4⟩ := hok
        have hp := HPA.out (gt sn k).x
        have HM := Lib.hid (fun w' (hw : Ext w w') => rmean_c s x er l (gt sn k).x (P (gt sn k).x) w' A c hG ⟨o1, o2⟩ (hA.ext hw) hp)
        cases ho : mOk l (gt sn k).x (P (gt sn k).x)
        · have hZ2 : Z = 11 := HER.out 11 (by unfold seenErr; rw [hq, ho]; rfl) (by decide)
          subst hZ2
          rw [ho] at HM
          clear hq HI HER HST ho hp
          rw [hgk] at HM o1 o2 o3 o4
          clear hgk
          generalize rN l sn[k].x (P sn[k].x) = lo at *
          generalize rD l sn[k].x (P sn[k].x) = hi at *
          generalize sn[k].x = px at *
          generalize sn[k].y = py at *
          go_wp2_with (first | (go_at_call 88; with_reducible refine Calls.mono (HI2.out _) ?_; rintro e w3 ⟨rfl, hb⟩; have hc := hb.ccell; have hf := hb.frz; have hs := hb.sz; (try simp at hs); (try have t0 := hs (w.heap.size) (by first | assumption | omega)); (try have t1 := hs (b) (by first | assumption | omega)); (try have t2 := hs (w.heap.size) (by first | assumption | omega)); (try have t3 := hs (w.heap.size) (by first | assumption | omega)); (try have t4 := hs (w.heap.size) (by first | assumption | omega)); (try have t5 := hs (w.heap.size) (by first | assumption | omega))) | (go_at_call 19; with_reducible refine Calls.mono (HM.out _ (by (repeat (first | with_reducible exact Ext.rfl' _ | with_reducible assumption | with_reducible refine Ext.al ?_ _ | with_reducible refine Ext.dr ?_ | with_reducible refine Ext.st ?_ (by simp) _ | with_reducible refine Ext.tr ?_ (by assumption))))) ?_; rintro e w4 ⟨rfl, hb⟩; have hc := hb.ccell; have hf := hb.frz; have hs := hb.sz; (try simp at hs); (try have t0 := hs (w.heap.size) (by first | assumption | omega)); (try have t1 := hs (b) (by first | assumption | omega)); (try have t2 := hs (w.heap.size) (by first | assumption | omega)); (try have t3 := hs (w.heap.size) (by first | assumption | omega)); (try have t4 := hs (w.heap.size) (by first | assumption | omega)); (try have t5 := hs (w.heap.size) (by first | assumption | omega))))
          have hE3 : Ext w w3 := by (repeat (first | with_reducible exact Ext.rfl' _ | with_reducible assumption | with_reducible refine Ext.al ?_ _ | with_reducible refine Ext.dr ?_ | with_reducible refine Ext.st ?_ (by simp) _ | with_reducible refine Ext.tr ?_ (by assumption)))
          refine region_grow (by kernel_rfl) (by kernel_rfl) ?_
          repeat (first | go_big_quiet_step (first | (go_at_call 19; with_reducible exact callsGrow (HM.out _ (hE3.tr (Grow.ok _)))) | fail) | quiet_step (first | (go_at_call 19; with_reducible exact callsGrow (HM.out _ (hE3.tr (Grow.ok _)))) | fail))
          refine wpQuiet_nil ?_
          intro w1 hb
          have hc := hb.ccell
          have hf := hb.frz
          have hs := hb.sz
          (try simp at hs); (try have hs0 := hs w.heap.size (by omega)); (try have hs1 := hs (w.heap.size + 1) (by omega)); (try have hs2 := hs (w.heap.size + 1 + 1) (by omega)); (try have hs3 := hs (w.heap.size + 1 + 1 + 1) (by omega))
          (try simp only [IntWalk.i64_left])
          go_wp2
          go_ret
          exact ⟨rfl, by (repeat (first | with_reducible exact Ext.rfl' _ | with_reducible assumption | with_reducible refine Ext.al ?_ _ | with_reducible refine Ext.dr ?_ | with_reducible refine Ext.st ?_ (by simp) _ | with_reducible refine Ext.tr ?_ (by assumption)))⟩
        · have hst := HST.out (by unfold seenErr; rw [hq, ho]; rfl)
          have HST2 := Lib.hid hst
          rw [ho] at HM
          clear hq HI HER HST ho hp hst
          rw [hgk] at HM o1 o2 o3 o4
          clear hgk
          generalize rN l sn[k].x (P sn[k].x) = lo at *
          generalize rD l sn[k].x (P sn[k].x) = hi at *
          generalize sn[k].x = px at *
          generalize sn[k].y = py at *
          go_wp2_with (first | (go_at_call 88; with_reducible refine Calls.mono (HI2.out _) ?_; rintro e w3 ⟨rfl, hb⟩; have hc := hb.ccell; have hf := hb.frz; have hs := hb.sz; (try simp at hs); (try have t0 := hs (w.heap.size) (by first | assumption | omega)); (try have t1 := hs (b) (by first | assumption | omega)); (try have t2 := hs (w.heap.size) (by first | assumption | omega)); (try have t3 := hs (w.heap.size) (by first | assumption | omega)); (try have t4 := hs (w.heap.size) (by first | assumption | omega)); (try have t5 := hs (w.heap.size) (by first | assumption | omega))) | (go_at_call 19; with_reducible refine Calls.mono (HM.out _ (by (repeat (first | with_reducible exact Ext.rfl' _ | with_reducible assumption | with_reducible refine Ext.al ?_ _ | with_reducible refine Ext.dr ?_ | with_reducible refine Ext.st ?_ (by simp) _ | with_reducible refine Ext.tr ?_ (by assumption))))) ?_; rintro e w4 ⟨rfl, hb⟩; have hc := hb.ccell; have hf := hb.frz; have hs := hb.sz; (try simp at hs); (try have t0 := hs (w.heap.size) (by first | assumption | omega)); (try have t1 := hs (b) (by first | assumption | omega)); (try have t2 := hs (w.heap.size) (by first | assumption | omega)); (try have t3 := hs (w.heap.size) (by first | assumption | omega)); (try have t4 := hs (w.heap.size) (by first | assumption | omega)); (try have t5 := hs (w.heap.size) (by first | assumption | omega))))
          have hE3 : Ext w w3 := by (repeat (first | with_reducible exact Ext.rfl' _ | with_reducible assumption | with_reducible refine Ext.al ?_ _ | with_reducible refine Ext.dr ?_ | with_reducible refine Ext.st ?_ (by simp) _ | with_reducible refine Ext.tr ?_ (by assumption)))
          have hE31 : Ext w1 w3 := hE.tr (by (repeat (first | with_reducible exact Ext.rfl' _ | with_reducible assumption | with_reducible refine Ext.al ?_ _ | with_reducible refine Ext.dr ?_ | with_reducible refine Ext.st ?_ (by simp) _ | with_reducible refine Ext.tr ?_ (by assumption))))
          refine region_grow (by kernel_rfl) (by kernel_rfl) ?_
          repeat (first | go_big_quiet_step (first | (go_at_call 19; with_reducible exact callsGrow (HM.out _ (hE3.tr (Grow.ok _)))) | fail) | quiet_step (first | (go_at_call 19; with_reducible exact callsGrow (HM.out _ (hE3.tr (Grow.ok _)))) | fail))
          refine wpQuiet_nil ?_
          intro w1 hb
          have hc := hb.ccell
          have hf := hb.frz
          have hs := hb.sz
          (try simp at hs); (try have hs0 := hs w.heap.size (by omega)); (try have hs1 := hs (w.heap.size + 1) (by omega)); (try have hs2 := hs (w.heap.size + 1 + 1) (by omega)); (try have hs3 := hs (w.heap.size + 1 + 1 + 1) (by omega))
          (try simp only [IntWalk.i64_left])
          go_wp2
          exact ⟨⟨hE31.tr hb, k + 1, by omega, by go_num, HST2.out⟩, by simp [intOf]; omega⟩
    · have hkl : k = sn.length := by omega
      subst hkl
      have hZ0 : Z = 0 := HZ.out.symm.trans hN.out
      subst hZ0
      go_wp2
      go_ret
      exact ⟨rfl, by (repeat (first | with_reducible exact Ext.rfl' _ | with_reducible assumption | with_reducible refine Ext.al ?_ _ | with_reducible refine Ext.dr ?_ | with_reducible refine Ext.st ?_ (by simp) _ | with_reducible refine Ext.tr ?_ (by assumption)))⟩
theorem sub_div (y n d : Int) (hd : 0 < d) : (y * d - n) / d = y - (-((-n) / d)) ∧ -((-(y * d - n)) / d) = y - n / d := by
  constructor
  · rw [show y * d - n = -n + y * d by omega, Int.add_mul_ediv_right _ _ (by omega)]; omega
  · rw [show -(y * d - n) = n + (-y) * d by grind, Int.add_mul_ediv_right _ _ (by omega)]; omega
theorem fo_st2 {w : World} {b b2 : Nat} {v0 v1 v2 v3 : Value} (h : Fo w b v0 v1 v2 v3) (hb : b ≠ b2) (x y : Int) : Fo (st2 w b2 x y) b v0 v1 v2 v3 := by
  obtain ⟨h0, h1, h2, h3⟩ := h
  unfold st2
  refine ⟨?_, ?_, ?_, ?_⟩ <;> (rw [World.cell?_setCell_far _ _ _ _ (by simpa using Ne.symm hb), World.cell?_setCell_far _ _ _ _ (by simpa using Ne.symm hb)]; assumption)
/-- What the observations are. -/
structure SeenOk (l sn : List Pt) (P : Int → Nat) : Prop where
  good : Good l
  len : sn.length ≤ 400
  pos : ∀ t, PosAt l t (P t)
  ok : ∀ k, k < sn.length → okM (gt sn k) = true ∧ mOk l (gt sn k).x (P (gt sn k).x) = true
set_option maxHeartbeats 4000000 in
set_option maxRecDepth 100000 in
theorem rneed_c (s : ByteArray) (x er : Int) (l sn : List Pt) (P : Int → Nat) (w : World) (A B : Option Addr) (c c' : Nat) (hS : SeenOk l sn P) (hA : Row 2 encP w A l) (hB : Row 2 encP w B sn) :
    Calls Try.prog 60 #[.agg #[.string s, .int .i64 x, .int .i64 er, .slice A l.length c], .slice B sn.length c'] w
      fun e w' => e = .returned (.int .i64 (needN er (resL l P sn) sn.length)) ∧ Ext w w' := by
  have HS := Lib.hid hS
  have hsn := hS.len
  clear hS
  go_enter Try.func60, Try.ntmps60
  go_wp2
  have hEp : Ext w (w.alloc (.cells #[.string s, .int .i64 x, .int .i64 er, .slice A l.length c] 24)) := by (repeat (first | with_reducible exact Ext.rfl' _ | with_reducible assumption | with_reducible refine Ext.al ?_ _ | with_reducible refine Ext.dr ?_ | with_reducible refine Ext.st ?_ (by simp) _ | with_reducible refine Ext.tr ?_ (by assumption)))
  have kp : Fo (w.alloc (.cells #[.string s, .int .i64 x, .int .i64 er, .slice A l.length c] 24)) w.heap.size (.string s) (.int .i64 x) (.int .i64 er) (.slice A l.length c) := by refine ⟨?_, ?_, ?_, ?_⟩ <;> simp [World.cell?_alloc_new, go_sem]
  have zp : w.heap.size < (w.alloc (.cells #[.string s, .int .i64 x, .int .i64 er, .slice A l.length c] 24)).heap.size := by simp
  generalize w.alloc (.cells #[.string s, .int .i64 x, .int .i64 er, .slice A l.length c] 24) = wp at *
  go_loopw [5, 6] (fun e v wr => Ext wp wr ∧ ∃ k : Nat, k ≤ sn.length ∧ v = .int .i64 k ∧ e = .int .i64 (needN er (resL l P sn) k)) (fun _ v _ => sn.length - (intOf v).toNat)
  case atStart => exact ⟨Ext.rfl' _, 0, Nat.zero_le _, rfl, rfl⟩
  case round =>
    obtain ⟨hE, k, hk, rfl, rfl⟩ := hrel
    have hEw : Ext w wr := hEp.tr hE
    have hzr := hE.sz _ zp
    by_cases hlt : k < sn.length
    · obtain ⟨b, off, rfl, hb0, hcell⟩ := hB.p2 hlt
      have hc0 := hcell _ hEw
      clear hcell
      have hzb := hEw.sz _ hb0
      obtain ⟨c1, c2⟩ := hc0
      have hgk := gt_lt sn k hlt
      obtain ⟨g0, g1, g2, g3⟩ := Fo.all (kp.ext hE zp)
      obtain ⟨hq, ho⟩ := HS.out.ok k hlt
      have hok := (okM_iff _).1 hq
      obtain ⟨⟨o1, o2⟩, o3, o4⟩ := hok
      have hp := HS.out.pos (gt sn k).x
      have hG := HS.out.good
      have HM := Lib.hid (fun w' (hw : Ext w w') => rmean_c s x er l (gt sn k).x (P (gt sn k).x) w' A c hG ⟨o1, o2⟩ (hA.ext hw) hp)
      obtain ⟨m1, m2⟩ := m_bound hG ⟨o1, o2⟩ hp
      obtain ⟨⟨b1, b2⟩, b3, b4⟩ := lohi_bound hG ⟨o1, o2⟩ hp
      obtain ⟨d0, d1⟩ := m2 ho
      obtain ⟨r1, r2⟩ := r_eq ho
      rw [ho, r1, r2] at HM
      have q1 : mLo l (gt sn k).x (P (gt sn k).x) = mN l (gt sn k).x (P (gt sn k).x) / mD l (gt sn k).x (P (gt sn k).x) := by unfold mLo; rw [ho]; rfl
      have q2 : mHi l (gt sn k).x (P (gt sn k).x) = -((-mN l (gt sn k).x (P (gt sn k).x)) / mD l (gt sn k).x (P (gt sn k).x)) := by unfold mHi; rw [ho]; rfl
      have HDN := Lib.hid (fun w => down_c (mN l (gt sn k).x (P (gt sn k).x)) (mD l (gt sn k).x (P (gt sn k).x)) w d0 (by omega) (by rw [← q1]; omega) (by rw [← q1]; omega))
      have HUP := Lib.hid (fun w => up_c (mN l (gt sn k).x (P (gt sn k).x)) (mD l (gt sn k).x (P (gt sn k).x)) w d0 (by omega) (by omega) (by omega) (by omega) (by omega))
      rw [← q1] at HDN
      rw [← q2] at HUP
      have hnx : needN er (resL l P sn) (k + 1) = max (max (needN er (resL l P sn) k) (sn[k].y - mHi l (gt sn k).x (P (gt sn k).x))) (-(sn[k].y - mLo l (gt sn k).x (P (gt sn k).x))) := by
        show max (max _ (gt (resL l P sn) k).x) (-(gt (resL l P sn) k).y) = _
        rw [resL_gt hlt]
        unfold dL
        rw [hgk]
      have HNX := Lib.hid hnx
      clear hnx q1 q2 r1 r2 hq ho hp hG m1 m2
      rw [hgk] at HM o1 o2 o3 o4 HDN HUP b1 b2 b3 b4 d0 d1 HNX
      clear hgk
      generalize mLo l sn[k].x (P sn[k].x) = lo at *
      generalize mHi l sn[k].x (P sn[k].x) = hi at *
      generalize mN l sn[k].x (P sn[k].x) = mn at *
      generalize mD l sn[k].x (P sn[k].x) = md at *
      generalize sn[k].x = px at *
      generalize sn[k].y = py at *
      generalize needN er (resL l P sn) k = nk at *
      go_wp2
      refine region_grow (by kernel_rfl) (by kernel_rfl) ?_
      repeat (first | go_big_quiet_step (first | (go_at_call 19; with_reducible exact callsGrow (HM.out _ (hEw.tr (Grow.ok _)))) | fail) | quiet_step (first | (go_at_call 19; with_reducible exact callsGrow (HM.out _ (hEw.tr (Grow.ok _)))) | fail))
      refine wpQuiet_nil ?_
      intro w1 hb
      have hc := hb.ccell
      have hf := hb.frz
      have hs := hb.sz
      (try simp at hs); (try have hs0 := hs w.heap.size (by omega)); (try have hs1 := hs (w.heap.size + 1) (by omega)); (try have hs2 := hs (w.heap.size + 1 + 1) (by omega)); (try have hs3 := hs (w.heap.size + 1 + 1 + 1) (by omega))
      (try simp only [IntWalk.i64_left])
      go_wp2
      have hE4 : Ext wp w1 := by (repeat (first | with_reducible exact Ext.rfl' _ | with_reducible assumption | with_reducible refine Ext.al ?_ _ | with_reducible refine Ext.dr ?_ | with_reducible refine Ext.st ?_ (by simp) _ | with_reducible refine Ext.tr ?_ (by assumption)))
      have e1 := (hEw.tr hb).ccell _ (off + k * 2 + 1) hb0
      have f1 := hc b (off + k * 2 + 1) hzb
      have hw1 : IntKind.i64.wrap (lo - py) = lo - py := i64_in _ (by omega)
      have hw2 : IntKind.i64.wrap (py - hi) = py - hi := i64_in _ (by omega)
      have c3 := f1.trans c2
      have hzb2 := hb.sz _ hzb
      clear hb hc hf hs c1 c2 e1 f1 g0 g1 g2 g3 HM
      refine region_grow (by kernel_rfl) (by kernel_rfl) ?_
      repeat (first | go_big_quiet_step (first | (go_at_call 67; exact callsStay (HDN.out _)) | (go_at_call 68; exact callsStay (HUP.out _)) | fail) | quiet_step (first | (go_at_call 67; exact callsStay (HDN.out _)) | (go_at_call 68; exact callsStay (HUP.out _)) | fail))
      refine wpQuiet_nil ?_
      intro w1 hb
      have hc := hb.ccell
      have hf := hb.frz
      have hs := hb.sz
      (try simp at hs); (try have hs0 := hs w.heap.size (by omega)); (try have hs1 := hs (w.heap.size + 1) (by omega)); (try have hs2 := hs (w.heap.size + 1 + 1) (by omega)); (try have hs3 := hs (w.heap.size + 1 + 1 + 1) (by omega))
      (try simp only [IntWalk.i64_left])
      go_wp2
      refine ⟨⟨hE4.tr hb, k + 1, by omega, by go_num, ?_⟩, by simp [intOf]; omega⟩
      rw [HNX.out, ite_max, ite_max]
      exact congrArg (Value.int .i64) (by omega)
    · have hkl : k = sn.length := by omega
      subst hkl
      go_wp2
      go_ret
      exact ⟨rfl, by (repeat (first | with_reducible exact Ext.rfl' _ | with_reducible assumption | with_reducible refine Ext.al ?_ _ | with_reducible refine Ext.dr ?_ | with_reducible refine Ext.st ?_ (by simp) _ | with_reducible refine Ext.tr ?_ (by assumption)))⟩
/-- The world of the loop of the reference's Residuals. -/
structure RrW (w wr : World) (s : ByteArray) (x er : Int) (v : Value) (lo hi : Int) : Prop where
  rs : RsW w wr (w.heap.size + 1 + 1) lo hi
  par : Fo wr w.heap.size (.string s) (.int .i64 x) (.int .i64 er) v
theorem RrW.grow {w wr w' : World} {s : ByteArray} {x er : Int} {v : Value} {lo hi : Int} (h : RrW w wr s x er v lo hi) (hX : Ext wr w') : RrW w w' s x er v lo hi :=
  ⟨h.rs.grow hX, h.par.ext hX (by have := h.rs.zres; omega)⟩
theorem RrW.set {w wr : World} {s : ByteArray} {x er : Int} {v : Value} {lo hi : Int} (h : RrW w wr s x er v lo hi) (lo' hi' : Int) : RrW w (st2 wr (w.heap.size + 1 + 1) lo' hi') s x er v lo' hi' :=
  ⟨h.rs.set (by omega) lo' hi', fo_st2 h.par (by omega) _ _⟩
set_option maxHeartbeats 4000000 in
set_option maxRecDepth 100000 in
theorem rresid_c (s : ByteArray) (x er : Int) (l sn : List Pt) (P : Int → Nat) (w : World) (A B : Option Addr) (c c' : Nat) (hS : SeenOk l sn P) (hz : 0 < sn.length) (hA : Row 2 encP w A l) (hB : Row 2 encP w B sn) :
    Calls Try.prog 59 #[.agg #[.string s, .int .i64 x, .int .i64 er, .slice A l.length c], .slice B sn.length c'] w
      fun e w' => e = .returned (.agg #[.int .i64 (fLo (resL l P sn) sn.length), .int .i64 (fHi (resL l P sn) sn.length)]) ∧ Ext w w' := by
  have HS := Lib.hid hS
  have hsn := hS.len
  clear hS
  go_enter Try.func59, Try.ntmps59
  go_wp2
  have Hp : RrW w (((w.alloc (.cells #[.string s, .int .i64 x, .int .i64 er, .slice A l.length c] 24)).alloc (.cells #[.int .i64 0, .int .i64 0] 28)).alloc (.cells #[.int .i64 0, .int .i64 0] 28)) s x er (.slice A l.length c) 0 0 := by
    refine ⟨⟨by (repeat (first | with_reducible exact Ext.rfl' _ | with_reducible assumption | with_reducible refine Ext.al ?_ _ | with_reducible refine Ext.dr ?_ | with_reducible refine Ext.st ?_ (by simp) _ | with_reducible refine Ext.tr ?_ (by assumption))), ⟨?_, ?_⟩, ⟨?_, ?_⟩, fun o => ?_, fun o => ?_, ?_, ?_⟩, ⟨?_, ?_, ?_, ?_⟩⟩
    all_goals first | (simp [World.cell?_alloc_past, World.cell?_alloc_new, go_sem]; done) | (simp [go_sem]; done) | (simp; done) | (simp; omega)
  generalize (((w.alloc (.cells #[.string s, .int .i64 x, .int .i64 er, .slice A l.length c] 24)).alloc (.cells #[.int .i64 0, .int .i64 0] 28)).alloc (.cells #[.int .i64 0, .int .i64 0] 28)) = wp at *
  go_loopw [6] (fun v wr => ∃ k : Nat, k ≤ sn.length ∧ v = .int .i64 k ∧ ∃ a b, RrW w wr s x er (.slice A l.length c) a b ∧ (k = 0 ∨ (a = fLo (resL l P sn) k ∧ b = fHi (resL l P sn) k))) (fun v _ => sn.length - (intOf v).toNat)
  case atStart => exact ⟨0, Nat.zero_le _, rfl, 0, 0, Hp, .inl rfl⟩
  case round =>
    clear Hp
    obtain ⟨k, hk, rfl, va, vb, ⟨hW, kp⟩, hacc⟩ := hrel
    have HWR := Lib.hid (show RrW w wr s x er (.slice A l.length c) va vb from ⟨hW, kp⟩)
    obtain ⟨hEw, ⟨q0, q1⟩, ⟨u0, u1⟩, fq, fo, zq, zo⟩ := hW
    have hzr : w.heap.size < wr.heap.size := by omega
    by_cases hlt : k < sn.length
    · obtain ⟨b, off, rfl, hb0, hcell⟩ := hB.p2 hlt
      have hc0 := hcell _ hEw
      clear hcell
      have hzb := hEw.sz _ hb0
      obtain ⟨c1, c2⟩ := hc0
      have hgk := gt_lt sn k hlt
      obtain ⟨g0, g1, g2, g3⟩ := kp.all
      obtain ⟨hq, ho⟩ := HS.out.ok k hlt
      have hok := (okM_iff _).1 hq
      obtain ⟨⟨o1, o2⟩, o3, o4⟩ := hok
      have hp := HS.out.pos (gt sn k).x
      have hG := HS.out.good
      have HM := Lib.hid (fun w' (hw : Ext w w') => rmean_c s x er l (gt sn k).x (P (gt sn k).x) w' A c hG ⟨o1, o2⟩ (hA.ext hw) hp)
      obtain ⟨m1, m2⟩ := m_bound hG ⟨o1, o2⟩ hp
      obtain ⟨⟨b1, b2⟩, b3, b4⟩ := lohi_bound hG ⟨o1, o2⟩ hp
      obtain ⟨d0, d1⟩ := m2 ho
      obtain ⟨r1, r2⟩ := r_eq ho
      rw [ho, r1, r2] at HM
      have q1 : mLo l (gt sn k).x (P (gt sn k).x) = mN l (gt sn k).x (P (gt sn k).x) / mD l (gt sn k).x (P (gt sn k).x) := by unfold mLo; rw [ho]; rfl
      have q2 : mHi l (gt sn k).x (P (gt sn k).x) = -((-mN l (gt sn k).x (P (gt sn k).x)) / mD l (gt sn k).x (P (gt sn k).x)) := by unfold mHi; rw [ho]; rfl
      obtain ⟨e1, e2⟩ := sub_div (gt sn k).y (mN l (gt sn k).x (P (gt sn k).x)) (mD l (gt sn k).x (P (gt sn k).x)) d0
      rw [← q2] at e1
      rw [← q1] at e2
      have hmb := mul_bound (x := (gt sn k).y) (y := mD l (gt sn k).x (P (gt sn k).x)) (M := 20000) (N := 1000000) (by omega) (by omega) (by omega) (by omega)
      have HDN := Lib.hid (fun w => down_c ((gt sn k).y * mD l (gt sn k).x (P (gt sn k).x) - mN l (gt sn k).x (P (gt sn k).x)) (mD l (gt sn k).x (P (gt sn k).x)) w d0 (by omega) (by rw [e1]; omega) (by rw [e1]; omega))
      have HUP := Lib.hid (fun w => up_c ((gt sn k).y * mD l (gt sn k).x (P (gt sn k).x) - mN l (gt sn k).x (P (gt sn k).x)) (mD l (gt sn k).x (P (gt sn k).x)) w d0 (by omega) (by omega) (by omega) (by omega) (by omega))
      rw [e1] at HDN
      rw [e2] at HUP
      have hnx : fLo (resL l P sn) (k + 1) = min (fLo (resL l P sn) k) (sn[k].y - mHi l (gt sn k).x (P (gt sn k).x)) ∧ fHi (resL l P sn) (k + 1) = max (fHi (resL l P sn) k) (sn[k].y - mLo l (gt sn k).x (P (gt sn k).x)) := by
        show min _ (gt (resL l P sn) k).x = _ ∧ max _ (gt (resL l P sn) k).y = _
        rw [resL_gt hlt]
        unfold dL
        rw [hgk]
        exact ⟨rfl, rfl⟩
      have hz0 : k = 0 → fLo (resL l P sn) k = sn[k].y - mHi l (gt sn k).x (P (gt sn k).x) ∧ fHi (resL l P sn) k = sn[k].y - mLo l (gt sn k).x (P (gt sn k).x) := by
        intro e
        subst e
        show (gt (resL l P sn) 0).x = _ ∧ (gt (resL l P sn) 0).y = _
        rw [resL_gt hlt]
        unfold dL
        rw [hgk]
        exact ⟨rfl, rfl⟩
      have HNX := Lib.hid hnx
      have HZ0 := Lib.hid hz0
      have HACC := Lib.hid hacc
      clear hnx hz0 hacc q1 q2 r1 r2 hq ho hp hG m2 e1 e2
      obtain ⟨m3, m4⟩ := m1
      rw [hgk] at HM o1 o2 o3 o4 HDN HUP b1 b2 b3 b4 d0 d1 HNX HZ0 hmb m3 m4
      clear hgk
      generalize mLo l sn[k].x (P sn[k].x) = lo at *
      generalize mHi l sn[k].x (P sn[k].x) = hi at *
      generalize mN l sn[k].x (P sn[k].x) = mn at *
      generalize mD l sn[k].x (P sn[k].x) = md at *
      generalize sn[k].x = px at *
      generalize sn[k].y = py at *
      obtain ⟨f0, f1⟩ := hmb
      generalize fLo (resL l P sn) k = lk at *
      generalize fHi (resL l P sn) k = hk' at *
      go_wp2
      refine region_grow (by kernel_rfl) (by kernel_rfl) ?_
      repeat (first | go_big_quiet_step (first | (go_at_call 19; with_reducible exact callsGrow (HM.out _ (hEw.tr (Grow.ok _)))) | fail) | quiet_step (first | (go_at_call 19; with_reducible exact callsGrow (HM.out _ (hEw.tr (Grow.ok _)))) | fail))
      refine wpQuiet_nil ?_
      intro w1 hb
      have hc := hb.ccell
      have hf := hb.frz
      have hs := hb.sz
      (try simp at hs); (try have hs0 := hs w.heap.size (by omega)); (try have hs1 := hs (w.heap.size + 1) (by omega)); (try have hs2 := hs (w.heap.size + 1 + 1) (by omega)); (try have hs3 := hs (w.heap.size + 1 + 1 + 1) (by omega))
      (try simp only [IntWalk.i64_left])
      go_wp2
      have HW2 := Lib.hid (HWR.out.grow hb)
      have e1 := (hEw.tr hb).ccell _ (off + k * 2 + 1) hb0
      have hw2 : IntKind.i64.wrap (py * md - mn) = py * md - mn := i64_in _ (by omega)
      have hw1 : IntKind.i64.wrap (py * md) = py * md := i64_in _ (by omega)
      have c3 := (hc b (off + k * 2 + 1) hzb).trans c2
      have hzb2 := hb.sz _ hzb
      have hc0 := hb
      clear hb hc hf hs c1 c2 e1 g0 g1 g2 g3 HM q0 q1 u0 u1 fq fo zq zo HWR kp hEw
      refine region_grow (by kernel_rfl) (by kernel_rfl) ?_
      repeat (first | go_big_quiet_step (first | (go_at_call 67; exact callsStay (HDN.out _)) | (go_at_call 68; exact callsStay (HUP.out _)) | fail) | quiet_step (first | (go_at_call 67; exact callsStay (HDN.out _)) | (go_at_call 68; exact callsStay (HUP.out _)) | fail))
      refine wpQuiet_nil ?_
      intro w1 hb
      have hc := hb.ccell
      have hf := hb.frz
      have hs := hb.sz
      (try simp at hs); (try have hs0 := hs w.heap.size (by omega)); (try have hs1 := hs (w.heap.size + 1) (by omega)); (try have hs2 := hs (w.heap.size + 1 + 1) (by omega)); (try have hs3 := hs (w.heap.size + 1 + 1 + 1) (by omega))
      (try simp only [IntWalk.i64_left])
      have HW3 := Lib.hid (HW2.out.grow hb)
      obtain ⟨⟨hEw, ⟨q0, q1⟩, ⟨u0, u1⟩, fq, fo, zq, zo⟩, kp⟩ := HW2.out.grow hb
      clear hb hc hf hs hc0
      by_cases hk0 : k = 0
      · have hkz : ((k : Int) == 0) = true := by rw [beq_iff_eq]; omega
        have hz1 := HZ0.out hk0
        have HK0 := Lib.hid hk0
        clear hk0
        go_wp2
        refine ⟨⟨k + 1, by omega, by go_num, _, _, (HW3.out.set _ _).set _ _, .inr ?_⟩, by have := HK0.out; simp [intOf]; omega⟩
        rw [HNX.out.1, HNX.out.2, hz1.1, hz1.2]
        exact ⟨by omega, by omega⟩
      · have hkz : ((k : Int) == 0) = false := by rw [beq_eq_false_iff_ne]; omega
        have hac : va = lk ∧ vb = hk' := by
          rcases HACC.out with h | h
          · exact absurd h hk0
          · exact h
        obtain ⟨rfl, rfl⟩ := hac
        have HK0 := Lib.hid hk0
        clear hk0
        go_wp2
        refine ⟨⟨k + 1, by omega, by go_num, _, _, HW3.out.set _ _, .inr ?_⟩, by have := HK0.out; simp [intOf]; omega⟩
        rw [HNX.out.1, HNX.out.2]
        exact ⟨by omega, by omega⟩
    · have hkl : k = sn.length := by omega
      subst hkl
      have hac : va = fLo (resL l P sn) sn.length ∧ vb = fHi (resL l P sn) sn.length := by
        rcases hacc with h | h
        · omega
        · exact h
      obtain ⟨rfl, rfl⟩ := hac
      clear hacc
      go_wp2
      have kz : Two wr (w.heap.size + 1) 0 0 := HWR.out.rs.res
      have hS2 := Two.store (w := wr) (b := w.heap.size + 1) kz (fLo (resL l P sn) sn.length) (fHi (resL l P sn) sn.length)
      have hX2 := Ext.store2 (b := w.heap.size + 1) hEw (by omega) (fLo (resL l P sn) sn.length) (fHi (resL l P sn) sn.length)
      show bodyPost _ _ _ _ _ (st2 wr (w.heap.size + 1) (fLo (resL l P sn) sn.length) (fHi (resL l P sn) sn.length))
      generalize st2 wr (w.heap.size + 1) (fLo (resL l P sn) sn.length) (fHi (resL l P sn) sn.length) = W6 at hS2 hX2 ⊢
      obtain ⟨s0, s1⟩ := hS2
      refine bodyPost_ret (v := .agg #[.int .i64 (fLo (resL l P sn) sn.length), .int .i64 (fHi (resL l P sn) sn.length)]) (by simp [results, Try.results59, go_sem, s0, s1]) rfl ⟨rfl, hX2⟩
end Go.Proofs.Ytblmljcgjibfgaa

/- The contract of the reference's Locate. -/
import Derived.Test.YtcdbekmcobghbaaLoc2
import Derived.Deep.RegionHeld3
import Derived.Deep.DeepCutAuto
namespace Go.Proofs.Ytcdbekmcobghbaa
open Go Go.RowKit Go.IntWalk

theorem Row.q2 {w : World} {b off : Nat} {l : List Pt} (h : Row 2 encP w (some ⟨b, off, none⟩) l) {k : Nat} (hk : k < l.length) :
    ∀ w', Ext w w' → w'.cell? ⟨b, off + k * 2, none⟩ = some (.int .i64 l[k].x) ∧ w'.cell? ⟨b, off + k * 2 + 1, none⟩ = some (.int .i64 l[k].y) := by
  obtain ⟨b', off', h1, _, h3⟩ := h.p2 hk
  injection h1 with h1
  injection h1 with h1 h2
  subst h1 h2
  exact h3
theorem cmp_le0 (z : Int) : (cmpI z 0 ≤ 0) = (z ≤ 0) := by unfold cmpI; split <;> (try split) <;> simp <;> omega
theorem cmp_ge0 (z : Int) : (0 ≤ cmpI z 0) = (0 ≤ z) := by unfold cmpI; split <;> (try split) <;> simp <;> omega

set_option maxHeartbeats 8000000 in
theorem rlocate_c (l : List Pt) (ts : List I3) (px py : Int) (w : World) (A B : Option Addr) (cA cB : Nat) (hl : l.length ≤ maxLen) (ht : ts.length ≤ maxLen) (hA : Row 2 encP w A l) (hB : Row 3 encI w B ts) :
    Calls Try.prog 62 #[.slice A l.length cA, .slice B ts.length cB, .agg #[.int .i64 px, .int .i64 py]] w
      fun e w' => e = .returned (.tuple #[.int .i64 (locV l ts ⟨px, py⟩).1, .int .i64 (locV l ts ⟨px, py⟩).2]) ∧ Ext w w' := by
  have HL := Lib.hid hl
  have HCK := Lib.hid (fun w' (hw : Ext w w') => rcheck_c l w' A cA hl (hA.ext hw))
  have HHAS := Lib.hid (fun a b c w => has_c l a b c w hl)
  unfold maxLen at ht hl
  by_cases h1 : chkP l = 0
  case neg =>
    have hV : locV l ts ⟨px, py⟩ = (0, chkP l) := by
      have : locE l ts ⟨px, py⟩ = chkP l := by unfold locE; rw [if_pos h1]
      unfold locV; rw [this, if_pos h1]
    rw [hV]
    generalize chkP l = r at HCK h1 ⊢
    have h' : (r == 0) = false := by simp [h1]
    clear hV
    go_enter Try.func62, Try.ntmps62
    go_wp2_with (first | (go_at_call 51; with_reducible refine Calls.mono (HCK.out _ (by (repeat (first | with_reducible exact Ext.rfl' _ | with_reducible assumption | with_reducible refine Ext.al ?_ _ | with_reducible refine Ext.dr ?_ | with_reducible refine Ext.st ?_ (by simp) _ | with_reducible refine Ext.tr ?_ (by assumption))))) ?_; rintro e w1 ⟨rfl, hb⟩; have hc := hb.ccell; have hf := hb.frz; have hs := hb.sz; (try simp at hs); (try have hs0 := hs w.heap.size (by omega)); (try have hs1 := hs (w.heap.size + 1) (by omega)); (try have hs2 := hs (w.heap.size + 1 + 1) (by omega)); (try have hs3 := hs (w.heap.size + 1 + 1 + 1) (by omega))))
    go_ret2
    exact ⟨rfl, by (repeat (first | with_reducible exact Ext.rfl' _ | with_reducible assumption | with_reducible refine Ext.al ?_ _ | with_reducible refine Ext.dr ?_ | with_reducible refine Ext.st ?_ (by simp) _ | with_reducible refine Ext.tr ?_ (by assumption)))⟩
  by_cases h2 : 128 < ts.length
  · have hV : locV l ts ⟨px, py⟩ = (0, 8) := by
      have : locE l ts ⟨px, py⟩ = 8 := by unfold locE; rw [if_neg (by omega), if_pos h2]
      unfold locV; rw [this, if_pos (by omega)]
    rw [hV]
    rw [h1] at HCK
    have h2' : (128 : Int) < (ts.length : Int) := by omega
    clear hV
    go_enter Try.func62, Try.ntmps62
    go_wp2_with (first | (go_at_call 51; with_reducible refine Calls.mono (HCK.out _ (by (repeat (first | with_reducible exact Ext.rfl' _ | with_reducible assumption | with_reducible refine Ext.al ?_ _ | with_reducible refine Ext.dr ?_ | with_reducible refine Ext.st ?_ (by simp) _ | with_reducible refine Ext.tr ?_ (by assumption))))) ?_; rintro e w1 ⟨rfl, hb⟩; have hc := hb.ccell; have hf := hb.frz; have hs := hb.sz; (try simp at hs); (try have hs0 := hs w.heap.size (by omega)); (try have hs1 := hs (w.heap.size + 1) (by omega)); (try have hs2 := hs (w.heap.size + 1 + 1) (by omega)); (try have hs3 := hs (w.heap.size + 1 + 1 + 1) (by omega))))
    go_ret2
    exact ⟨rfl, by (repeat (first | with_reducible exact Ext.rfl' _ | with_reducible assumption | with_reducible refine Ext.al ?_ _ | with_reducible refine Ext.dr ?_ | with_reducible refine Ext.st ?_ (by simp) _ | with_reducible refine Ext.tr ?_ (by assumption)))⟩
  rw [h1] at HCK
  have h2' : (ts.length : Int) ≤ 128 := by omega
  obtain ⟨v, e, hve⟩ : ∃ v e, locV l ts ⟨px, py⟩ = (v, e) := ⟨_, _, rfl⟩
  rw [hve]
  have HV := Lib.hid hve
  have HLE : Hid (locE l ts ⟨px, py⟩ = if firstBad l ts ≠ 0 then firstBad l ts else if good ⟨px, py⟩ then 0 else 2) := by
    show _ = _
    unfold locE; rw [if_neg (by omega), if_neg h2]
  have H2 := Lib.hid h2
  clear hve h1 h2
  go_enter Try.func62, Try.ntmps62
  go_wp2_with (first | (go_at_call 51; with_reducible refine Calls.mono (HCK.out _ (by (repeat (first | with_reducible exact Ext.rfl' _ | with_reducible assumption | with_reducible refine Ext.al ?_ _ | with_reducible refine Ext.dr ?_ | with_reducible refine Ext.st ?_ (by simp) _ | with_reducible refine Ext.tr ?_ (by assumption))))) ?_; rintro e w1 ⟨rfl, hb⟩; have hc := hb.ccell; have hf := hb.frz; have hs := hb.sz; (try simp at hs); (try have hs0 := hs w.heap.size (by omega)); (try have hs1 := hs (w.heap.size + 1) (by omega)); (try have hs2 := hs (w.heap.size + 1 + 1) (by omega)); (try have hs3 := hs (w.heap.size + 1 + 1 + 1) (by omega))))
  have hEw : Ext w w1 := by (repeat (first | with_reducible exact Ext.rfl' _ | with_reducible assumption | with_reducible refine Ext.al ?_ _ | with_reducible refine Ext.dr ?_ | with_reducible refine Ext.st ?_ (by simp) _ | with_reducible refine Ext.tr ?_ (by assumption)))
  have k : w1.cell? ⟨w.heap.size, 0, none⟩ = some (.int .i64 px) ∧ w1.cell? ⟨w.heap.size, 1, none⟩ = some (.int .i64 py) := by
    refine ⟨?_, ?_⟩ <;> simp [*, go_sem]
  have K := Lib.hid k
  clear k hc hf hs hb
  go_loopw [9] (fun i wr => Ext w1 wr ∧ ∃ k : Nat, k ≤ ts.length ∧ i = .int .i64 k ∧ Hid (∀ j (h : j < k) (h2 : j < ts.length), badT l ts[j] = 0)) (fun i _ => ts.length - (intOf i).toNat)
  case atStart => exact ⟨Ext.rfl' _, 0, Nat.zero_le _, rfl, fun j h => absurd h (by omega)⟩
  case round =>
    obtain ⟨hr, k, hk, rfl, hK⟩ := hrel
    have hE := hEw.tr hr
    by_cases hlt : k < ts.length
    · obtain ⟨b, off, rfl, hb0, hcell⟩ := hB.p3 hlt
      have c := hcell _ hE
      clear hcell
      have hz := hE.sz _ hb0
      have HH := Lib.hid (fun w => HHAS.out ts[k].1 ts[k].2.1 ts[k].2.2 w)
      cases hh : hasL l ts[k]
      · have hh' : hasL l (ts[k].1, ts[k].2.1, ts[k].2.2) = false := hh
        rw [hh'] at HH
        have HB := Lib.hid (show badT l ts[k] = 6 by simp [badT, hh])
        clear hh hh'
        go_wp2_with (first | (go_at_call 105; with_reducible refine Calls.mono (HH.out _) ?_; rintro e w1 ⟨rfl, hb⟩; have hc := hb.ccell; have hf := hb.frz; have hs := hb.sz; (try simp at hs); (try have hs0 := hs w.heap.size (by omega)); (try have hs1 := hs (w.heap.size + 1) (by omega)); (try have hs2 := hs (w.heap.size + 1 + 1) (by omega)); (try have hs3 := hs (w.heap.size + 1 + 1 + 1) (by omega))))
        go_ret2
        have hv := HV.out
        unfold locV at hv
        have hf := firstBad_at l ts k hlt (fun j hj => hK.out j hj (by omega)) (by rw [HB.out]; omega)
        rw [HB.out] at hf
        rw [HLE.out, hf] at hv
        simp at hv
        exact ⟨by simp [← hv.1, ← hv.2], by (repeat (first | with_reducible exact Ext.rfl' _ | with_reducible assumption | with_reducible refine Ext.al ?_ _ | with_reducible refine Ext.dr ?_ | with_reducible refine Ext.st ?_ (by simp) _ | with_reducible refine Ext.tr ?_ (by assumption)))⟩
      · have hh' : hasL l (ts[k].1, ts[k].2.1, ts[k].2.2) = true := hh
        rw [hh'] at HH
        have HB0 := (show badT l ts[k] = if crI l ts[k] ≤ 0 then 10 else 0 by simp [badT, hh])
        simp only [hasL, Bool.and_eq_true] at hh'
        obtain ⟨q0, q1, q2⟩ := hh'
        obtain ⟨i0, b0, n0⟩ := inL_nat q0
        obtain ⟨i1, b1, n1⟩ := inL_nat q1
        obtain ⟨i2, b2, n2⟩ := inL_nat q2
        obtain ⟨bl, ol, rfl, hbl, d0⟩ := hA.p2 b0
        have d1 := hA.q2 b1
        have d2 := hA.q2 b2
        have d0' := d0 _ hE
        have d1' := d1 _ hE
        have d2' := d2 _ hE
        have hzl := hE.sz _ hbl
        have hcr : crI l ts[k] = crossW ⟨l[i0].x, l[i0].y⟩ ⟨l[i1].x, l[i1].y⟩ ⟨l[i2].x, l[i2].y⟩ := by
          unfold crI; rw [n0, n1, n2, atI_nat l i0 b0, atI_nat l i1 b1, atI_nat l i2 b2]
        have HC := Lib.hid (fun w => rorient_c l[i0].x l[i0].y l[i1].x l[i1].y l[i2].x l[i2].y w)
        rw [← hcr] at HC
        rw [n0, n1, n2] at c HH
        have HB := Lib.hid HB0
        generalize crI l ts[k] = z at HC HB
        clear hh HB0 q0 q1 q2 d0 d1 d2 hcr n0 n1 n2
        cases hz3 : decide (cmpI z 0 ≤ 0)
        all_goals
          go_wp2_with (first | (go_at_call 105; with_reducible refine Calls.mono (HH.out _) ?_; rintro e w1 ⟨rfl, hb⟩; have hc := hb.ccell; have hf := hb.frz; have hs := hb.sz; (try simp at hs); (try have hs0 := hs w.heap.size (by omega)); (try have hs1 := hs (w.heap.size + 1) (by omega)); (try have hs2 := hs (w.heap.size + 1 + 1) (by omega)); (try have hs3 := hs (w.heap.size + 1 + 1 + 1) (by omega))))
          refine region_grow (by kernel_rfl) (by kernel_rfl) ?_
          repeat (first | go_big_quiet_step (first | (go_at_call 28; with_reducible exact callsGrow (HC.out _)) | fail) | quiet_step (first | (go_at_call 28; with_reducible exact callsGrow (HC.out _)) | fail))
          refine wpQuiet_nil ?_
          intro w1 hb
          have hc := hb.ccell
          have hf := hb.frz
          have hs := hb.sz
          (try simp at hs); (try have hs0 := hs w.heap.size (by omega)); (try have hs1 := hs (w.heap.size + 1) (by omega)); (try have hs2 := hs (w.heap.size + 1 + 1) (by omega)); (try have hs3 := hs (w.heap.size + 1 + 1 + 1) (by omega))
          (try simp only [IntWalk.i64_left])
        · go_wp2
          refine ⟨⟨by (repeat (first | with_reducible exact Ext.rfl' _ | with_reducible assumption | with_reducible refine Ext.al ?_ _ | with_reducible refine Ext.dr ?_ | with_reducible refine Ext.st ?_ (by simp) _ | with_reducible refine Ext.tr ?_ (by assumption))), k + 1, by omega, by go_num, ?_⟩, by simp [intOf]; omega⟩
          intro j hj hj2
          by_cases hjk : j = k
          · subst hjk
            have e0 := HB.out
            rw [decide_eq_false_iff_not, cmp_le0] at hz3
            rw [if_neg (by omega)] at e0; exact e0
          · exact hK.out j (by omega) hj2
        · go_wp2
          go_ret2
          have e0 := HB.out
          rw [decide_eq_true_iff, cmp_le0] at hz3
          rw [if_pos hz3] at e0
          have hv := HV.out
          unfold locV at hv
          have hf := firstBad_at l ts k hlt (fun j hj => hK.out j hj (by omega)) (by rw [e0]; omega)
          rw [e0] at hf
          rw [HLE.out, hf] at hv
          simp at hv
          exact ⟨by simp [← hv.1, ← hv.2], by (repeat (first | with_reducible exact Ext.rfl' _ | with_reducible assumption | with_reducible refine Ext.al ?_ _ | with_reducible refine Ext.dr ?_ | with_reducible refine Ext.st ?_ (by simp) _ | with_reducible refine Ext.tr ?_ (by assumption)))⟩
    · have hfb := firstBad_no l ts (fun j hj => hK.out j (by omega) hj)
      rw [hfb] at HLE
      have HBZ := Lib.hid (firstBad_zero l ts hfb)
      clear hfb hK
      obtain ⟨k0, k1⟩ := K.out
      have hz1 : w.heap.size < w1.heap.size := World.block_lt_of_cell? w1 ⟨w.heap.size, 0, none⟩ k0
      have e0 := (hr.ccell _ 0 hz1).trans k0
      have e1 := (hr.ccell _ 1 hz1).trans k1
      have hz2 := hr.sz _ hz1
      clear k0 k1
      have HG := Lib.hid (fun w => rgood_c px py w)
      cases hg : good ⟨px, py⟩
      · rw [hg] at HG HLE
        clear hg
        go_wp2_with (first | (go_at_call 24; with_reducible refine Calls.mono (HG.out _) ?_; rintro e w1 ⟨rfl, hb⟩; have hc := hb.ccell; have hf := hb.frz; have hs := hb.sz; (try simp at hs); (try have hs0 := hs w.heap.size (by omega)); (try have hs1 := hs (w.heap.size + 1) (by omega)); (try have hs2 := hs (w.heap.size + 1 + 1) (by omega)); (try have hs3 := hs (w.heap.size + 1 + 1 + 1) (by omega))))
        go_ret2
        have hv := HV.out
        unfold locV at hv
        rw [HLE.out] at hv
        simp at hv
        exact ⟨by simp [← hv.1, ← hv.2], by (repeat (first | with_reducible exact Ext.rfl' _ | with_reducible assumption | with_reducible refine Ext.al ?_ _ | with_reducible refine Ext.dr ?_ | with_reducible refine Ext.st ?_ (by simp) _ | with_reducible refine Ext.tr ?_ (by assumption)))⟩
      rw [hg] at HG HLE
      clear hg
      have hv := HV.out
      unfold locV at hv
      rw [HLE.out] at hv
      simp only [ne_eq, not_true_eq_false, if_true, if_false] at hv
      have HT := Lib.hid hv
      clear hv
      go_wp2_with (first | (go_at_call 24; with_reducible refine Calls.mono (HG.out _) ?_; rintro e w1 ⟨rfl, hb⟩; have hc := hb.ccell; have hf := hb.frz; have hs := hb.sz; (try simp at hs); (try have hs0 := hs w.heap.size (by omega)); (try have hs1 := hs (w.heap.size + 1) (by omega)); (try have hs2 := hs (w.heap.size + 1 + 1) (by omega)); (try have hs3 := hs (w.heap.size + 1 + 1 + 1) (by omega))))
      have hEx : Ext w w1 := by (repeat (first | with_reducible exact Ext.rfl' _ | with_reducible assumption | with_reducible refine Ext.al ?_ _ | with_reducible refine Ext.dr ?_ | with_reducible refine Ext.st ?_ (by simp) _ | with_reducible refine Ext.tr ?_ (by assumption)))
      have f0 := (hb.ccell _ 0 hz2).trans e0
      have f1 := (hb.ccell _ 1 hz2).trans e1
      have F := Lib.hid (And.intro f0 f1)
      have hzp := hb.sz _ hz2
      clear hc hf hs hb e0 e1 f0 f1 hE hr
      obtain ⟨wo, rfl⟩ : ∃ wo : World, wo = w1 := ⟨_, rfl⟩
      go_loopw [10, 11, 12, 13] (fun i _ _ _ wr => Ext wo wr ∧ ∃ k : Nat, k ≤ ts.length ∧ i = .int .i64 k ∧ Hid (∀ j (h : j < k) (h2 : j < ts.length), belT l ts[j] ⟨px, py⟩ = false)) (fun i _ _ _ _ => ts.length - (intOf i).toNat)
      case atStart => exact ⟨Ext.rfl' _, 0, Nat.zero_le _, rfl, fun j h => absurd h (by omega)⟩
      case round =>
        obtain ⟨hr, k, hk, rfl, hK⟩ := hrel
        have hE := hEx.tr hr
        by_cases hlt : k < ts.length
        · obtain ⟨b, off, rfl, hb0, hcell⟩ := hB.p3 hlt
          have c := hcell _ hE
          clear hcell
          have hz := hE.sz _ hb0
          have hh' := (badT_zero (HBZ.out k hlt)).1
          simp only [hasL, Bool.and_eq_true] at hh'
          obtain ⟨q0, q1, q2⟩ := hh'
          obtain ⟨i0, b0, n0⟩ := inL_nat q0
          obtain ⟨i1, b1, n1⟩ := inL_nat q1
          obtain ⟨i2, b2, n2⟩ := inL_nat q2
          obtain ⟨bl, ol, rfl, hbl, d0⟩ := hA.p2 b0
          have d1 := hA.q2 b1
          have d2 := hA.q2 b2
          obtain ⟨g0, g1⟩ := d0 _ hE
          obtain ⟨g2, g3⟩ := d1 _ hE
          obtain ⟨g4, g5⟩ := d2 _ hE
          have hzl := hE.sz _ hbl
          have hbt : belT l ts[k] ⟨px, py⟩ = belB ⟨l[i0].x, l[i0].y⟩ ⟨l[i1].x, l[i1].y⟩ ⟨l[i2].x, l[i2].y⟩ ⟨px, py⟩ := by
            unfold belT; rw [n0, n1, n2, atI_nat l i0 b0, atI_nat l i1 b1, atI_nat l i2 b2]
          unfold belB at hbt
          have HC1 := Lib.hid (fun w => rorient_c l[i0].x l[i0].y l[i1].x l[i1].y px py w)
          have HC2 := Lib.hid (fun w => rorient_c l[i1].x l[i1].y l[i2].x l[i2].y px py w)
          have HC3 := Lib.hid (fun w => rorient_c l[i2].x l[i2].y l[i0].x l[i0].y px py w)
          generalize crossW ⟨l[i0].x, l[i0].y⟩ ⟨l[i1].x, l[i1].y⟩ ⟨px, py⟩ = z1 at hbt HC1
          generalize crossW ⟨l[i1].x, l[i1].y⟩ ⟨l[i2].x, l[i2].y⟩ ⟨px, py⟩ = z2 at hbt HC2
          generalize crossW ⟨l[i2].x, l[i2].y⟩ ⟨l[i0].x, l[i0].y⟩ ⟨px, py⟩ = z3 at hbt HC3
          simp only [← cmp_ge0 z1, ← cmp_ge0 z2, ← cmp_ge0 z3] at hbt
          generalize cmpI z1 0 = o1 at hbt HC1
          generalize cmpI z2 0 = o2 at hbt HC2
          generalize cmpI z3 0 = o3 at hbt HC3
          have HBT := Lib.hid hbt
          rw [n0, n1, n2] at c
          obtain ⟨c0, c1, c2⟩ := c
          clear q0 q1 q2 d0 d1 d2 n0 n1 n2 hbt
          go_wp2_with fail
          go_cut [11, 12, 13] (fun s4 s5 s6 wx => ∃ b0 b1 b2 : Nat, s4 = .pointer (some ⟨b0, 0, none⟩) ∧ s5 = .pointer (some ⟨b1, 0, none⟩) ∧ s6 = .pointer (some ⟨b2, 0, none⟩) ∧ Ext wr wx ∧ (b0 < wx.heap.size ∧ b1 < wx.heap.size ∧ b2 < wx.heap.size) ∧
            (wx.cell? ⟨b0, 0, none⟩ = some (.int .i64 l[i0].x) ∧ wx.cell? ⟨b0, 1, none⟩ = some (.int .i64 l[i0].y)) ∧ (wx.cell? ⟨b1, 0, none⟩ = some (.int .i64 l[i1].x) ∧ wx.cell? ⟨b1, 1, none⟩ = some (.int .i64 l[i1].y)) ∧ (wx.cell? ⟨b2, 0, none⟩ = some (.int .i64 l[i2].x) ∧ wx.cell? ⟨b2, 1, none⟩ = some (.int .i64 l[i2].y)))
          case first =>
            clear HC1 HC2 HC3 HBT HT HBZ K HCK HHAS HV HLE H2 HG F hzp hEx hEw HL
            go_region_held3 (fun w' => (∀ j : Nat, w'.cell? ⟨b, j, none⟩ = wr.cell? ⟨b, j, none⟩) ∧ (∀ j : Nat, w'.cell? ⟨bl, j, none⟩ = wr.cell? ⟨bl, j, none⟩)) ((refine ⟨?_, ?_⟩ <;> (intro j; (repeat (first | with_reducible rfl | (exact (by assumption : (∀ j : Nat, _) ∧ (∀ j : Nat, _)).1 j) | (exact (by assumption : (∀ j : Nat, _) ∧ (∀ j : Nat, _)).2 j) | rw [World.cell?_drew] | rw [World.cell?_alloc_past _ _ _ (by first | omega | (simp; omega) | (simp; done))] | rw [World.cell?_setCell_far _ _ _ _ (by first | omega | (simp; omega) | (simp; done))]))))) (fail)
            all_goals
              rename_i J0 K0 h1 h2 hH
              clear hH c0 c1 c2 g0 g1 g2 g3 g4 g5
              refine h2 _ _ (Met.intro (h1 _ _ ?_))
              (repeat apply Exists.intro)
              refine ⟨?_, rfl⟩
              refine ⟨_, _, _, rfl, rfl, rfl, ?_, ⟨?_, ?_, ?_⟩, ?_⟩
              all_goals first | ((repeat (first | with_reducible exact Ext.rfl' _ | with_reducible assumption | with_reducible refine Ext.al ?_ _ | with_reducible refine Ext.dr ?_ | with_reducible refine Ext.st ?_ (by simp) _ | with_reducible refine Ext.tr ?_ (by assumption))); done) | (simp; done) | (simp; omega) | (simp [go_sem]; done) | (simp [World.cell?_alloc_past, World.cell?_alloc_new, go_sem]; done)
          case rest =>
            obtain ⟨r0, r1, r2, rfl, rfl, rfl, hx, ⟨l0, l1, l2⟩, ⟨m0, m1⟩, ⟨m2, m3⟩, ⟨m4, m5⟩⟩ := hcut
            have hzp2 := hr.sz _ hzp
            have hzp3 := hx.sz _ hzp2
            have p0 := (hx.ccell _ 0 hzp2).trans ((hr.ccell _ 0 hzp).trans F.out.1)
            have p1 := (hx.ccell _ 1 hzp2).trans ((hr.ccell _ 1 hzp).trans F.out.2)
            clear g0 g1 g2 g3 g4 g5 c0 c1 c2
            by_cases a1 : 0 ≤ o1
            · by_cases a2 : 0 ≤ o2
              · by_cases a3 : 0 ≤ o3
                all_goals
                  go_wp2_with (first | (go_at_call 28; with_reducible refine Calls.mono (HC1.out _) ?_; rintro e w1 ⟨rfl, hb⟩; have hc := hb.ccell; have hf := hb.frz; have hs := hb.sz; (try simp at hs); (try have t0 := hs r0 (by assumption)); (try have t1 := hs r1 (by assumption)); (try have t2 := hs r2 (by assumption)); (try have t3 := hs w.heap.size (by assumption))) | (go_at_call 28; with_reducible refine Calls.mono (HC2.out _) ?_; rintro e w1 ⟨rfl, hb⟩; have hc := hb.ccell; have hf := hb.frz; have hs := hb.sz; (try simp at hs); (try have t0 := hs r0 (by assumption)); (try have t1 := hs r1 (by assumption)); (try have t2 := hs r2 (by assumption)); (try have t3 := hs w.heap.size (by assumption))) | (go_at_call 28; with_reducible refine Calls.mono (HC3.out _) ?_; rintro e w1 ⟨rfl, hb⟩; have hc := hb.ccell; have hf := hb.frz; have hs := hb.sz; (try simp at hs); (try have t0 := hs r0 (by assumption)); (try have t1 := hs r1 (by assumption)); (try have t2 := hs r2 (by assumption)); (try have t3 := hs w.heap.size (by assumption))))
                · go_ret2
                  have hb3 := HBT.out
                  simp [a1, a2, a3] at hb3
                  have e2 := HT.out
                  rw [findT_at l ⟨px, py⟩ ts k 0 hlt (fun j hj => hK.out j hj (by omega)) hb3] at e2
                  simp only [Prod.mk.injEq] at e2
                  exact ⟨by simp [← e2.1, ← e2.2], by (repeat (first | with_reducible exact Ext.rfl' _ | with_reducible assumption | with_reducible refine Ext.al ?_ _ | with_reducible refine Ext.dr ?_ | with_reducible refine Ext.st ?_ (by simp) _ | with_reducible refine Ext.tr ?_ (by assumption)))⟩
                · refine ⟨⟨by (repeat (first | with_reducible exact Ext.rfl' _ | with_reducible assumption | with_reducible refine Ext.al ?_ _ | with_reducible refine Ext.dr ?_ | with_reducible refine Ext.st ?_ (by simp) _ | with_reducible refine Ext.tr ?_ (by assumption))), k + 1, by omega, by go_num, ?_⟩, by simp [intOf]; omega⟩
                  intro j hj hj2
                  by_cases hjk : j = k
                  · subst hjk; have hb3 := HBT.out; rw [hb3]; simp [a1, a2]; omega
                  · exact hK.out j (by omega) hj2
              · go_wp2_with (first | (go_at_call 28; with_reducible refine Calls.mono (HC1.out _) ?_; rintro e w1 ⟨rfl, hb⟩; have hc := hb.ccell; have hf := hb.frz; have hs := hb.sz; (try simp at hs); (try have t0 := hs r0 (by assumption)); (try have t1 := hs r1 (by assumption)); (try have t2 := hs r2 (by assumption)); (try have t3 := hs w.heap.size (by assumption))) | (go_at_call 28; with_reducible refine Calls.mono (HC2.out _) ?_; rintro e w1 ⟨rfl, hb⟩; have hc := hb.ccell; have hf := hb.frz; have hs := hb.sz; (try simp at hs); (try have t0 := hs r0 (by assumption)); (try have t1 := hs r1 (by assumption)); (try have t2 := hs r2 (by assumption)); (try have t3 := hs w.heap.size (by assumption))))
                refine ⟨⟨by (repeat (first | with_reducible exact Ext.rfl' _ | with_reducible assumption | with_reducible refine Ext.al ?_ _ | with_reducible refine Ext.dr ?_ | with_reducible refine Ext.st ?_ (by simp) _ | with_reducible refine Ext.tr ?_ (by assumption))), k + 1, by omega, by go_num, ?_⟩, by simp [intOf]; omega⟩
                intro j hj hj2
                by_cases hjk : j = k
                · subst hjk; have hb3 := HBT.out; rw [hb3]; simp [a1]; omega
                · exact hK.out j (by omega) hj2
            · go_wp2_with (first | (go_at_call 28; with_reducible refine Calls.mono (HC1.out _) ?_; rintro e w1 ⟨rfl, hb⟩; have hc := hb.ccell; have hf := hb.frz; have hs := hb.sz; (try simp at hs); (try have t0 := hs r0 (by assumption)); (try have t1 := hs r1 (by assumption)); (try have t2 := hs r2 (by assumption)); (try have t3 := hs w.heap.size (by assumption))))
              refine ⟨⟨by (repeat (first | with_reducible exact Ext.rfl' _ | with_reducible assumption | with_reducible refine Ext.al ?_ _ | with_reducible refine Ext.dr ?_ | with_reducible refine Ext.st ?_ (by simp) _ | with_reducible refine Ext.tr ?_ (by assumption))), k + 1, by omega, by go_num, ?_⟩, by simp [intOf]; omega⟩
              intro j hj hj2
              by_cases hjk : j = k
              · subst hjk; have hb3 := HBT.out; rw [hb3]; simp; omega
              · exact hK.out j (by omega) hj2
        · have e2 := HT.out
          rw [findT_no l ⟨px, py⟩ ts 0 (fun j hj => hK.out j (by omega) hj)] at e2
          simp only [Prod.mk.injEq] at e2
          have E2 := Lib.hid e2
          clear e2
          go_wp2
          go_ret2
          exact ⟨by simp [← E2.out.1, ← E2.out.2], by (repeat (first | with_reducible exact Ext.rfl' _ | with_reducible assumption | with_reducible refine Ext.al ?_ _ | with_reducible refine Ext.dr ?_ | with_reducible refine Ext.st ?_ (by simp) _ | with_reducible refine Ext.tr ?_ (by assumption)))⟩
end Go.Proofs.Ytcdbekmcobghbaa

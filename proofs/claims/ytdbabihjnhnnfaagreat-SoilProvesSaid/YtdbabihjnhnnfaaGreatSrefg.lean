/- The contracts of the reference's CheckGround, of slight. -/
import Derived.Test.YtdbabihjnhnnfaaGreatSref
import Derived.Test.YtdbabihjnhnnfaaGreatSat
namespace Go.Proofs.YtdbabihjnhnnfaaGreat
open Go Go.RowKit Go.IntWalk

set_option maxHeartbeats 8000000 in
theorem rcheckBoring_c (soils : List So) (bo : Bo) (w : World) (A : Option Addr) (c : Nat) (hl : soils.length ≤ 1000) (hL : bo.l.length ≤ 1000) (hA : Row 5 encSo w A soils) (hB : Row 2 encLa w bo.A bo.l) :
    Calls Tryz.prog 25 #[.slice A soils.length c, .agg #[.string bo.s, .int .i64 bo.x, .int .i64 bo.y, .slice bo.A bo.l.length bo.c]] w fun e w' => e = .returned (.int .i64 (boE soils bo)) ∧ Ext w w' := by
  have HP := Lib.hid (fun w => rgood_c bo.x bo.y w)
  have HSO := Lib.hid (fun s w' (hw : Ext w w') => soilOf_c soils s w' A c hl (hA.ext hw))
  unfold boE cntE
  obtain ⟨s, x, y, L, AL, cL⟩ := bo
  dsimp only at *
  rw [show good ⟨x, y⟩ = plB x y from rfl] at HP
  cases hp : plB x y
  · rw [hp] at HP
    rw [if_pos rfl]
    clear hp
    go_enter Tryz.func25, Tryz.ntmps25
    go_wp2_with (first | (go_at_call 50; with_reducible refine Calls.mono (HP.out _) ?_; rintro e w1 ⟨rfl, hb⟩; have hc := hb.ccell; have hf := hb.frz; have hs := hb.sz; (try simp at hs); (try have hs0 := hs w.heap.size (by omega)); (try have hs1 := hs (w.heap.size + 1) (by omega)); (try have hs2 := hs (w.heap.size + 1 + 1) (by omega)); (try have hs3 := hs (w.heap.size + 1 + 1 + 1) (by omega))))
    go_ret
    exact ⟨rfl, by (repeat (first | with_reducible exact Ext.rfl' _ | with_reducible assumption | with_reducible refine Ext.al ?_ _ | with_reducible refine Ext.dr ?_ | with_reducible refine Ext.st ?_ (by simp) _ | with_reducible refine Ext.tr ?_ (by assumption)))⟩
  rw [hp] at HP
  rw [if_neg (by decide)]
  clear hp
  by_cases h0 : L.length = 0
  · rw [if_pos h0, if_pos (by omega)]
    have h0' : ((L.length : Int) == 0) = true := by simp [h0]
    go_enter Tryz.func25, Tryz.ntmps25
    go_wp2_with (first | (go_at_call 50; with_reducible refine Calls.mono (HP.out _) ?_; rintro e w1 ⟨rfl, hb⟩; have hc := hb.ccell; have hf := hb.frz; have hs := hb.sz; (try simp at hs); (try have hs0 := hs w.heap.size (by omega)); (try have hs1 := hs (w.heap.size + 1) (by omega)); (try have hs2 := hs (w.heap.size + 1 + 1) (by omega)); (try have hs3 := hs (w.heap.size + 1 + 1 + 1) (by omega))))
    go_ret
    exact ⟨rfl, by (repeat (first | with_reducible exact Ext.rfl' _ | with_reducible assumption | with_reducible refine Ext.al ?_ _ | with_reducible refine Ext.dr ?_ | with_reducible refine Ext.st ?_ (by simp) _ | with_reducible refine Ext.tr ?_ (by assumption)))⟩
  rw [if_neg h0]
  have h0' : ((L.length : Int) == 0) = false := by rw [beq_eq_false_iff_ne]; omega
  by_cases h8 : (12 : Int) < (L.length : Int)
  · rw [if_pos h8, if_pos (by omega)]
    clear h0
    go_enter Tryz.func25, Tryz.ntmps25
    go_wp2_with (first | (go_at_call 50; with_reducible refine Calls.mono (HP.out _) ?_; rintro e w1 ⟨rfl, hb⟩; have hc := hb.ccell; have hf := hb.frz; have hs := hb.sz; (try simp at hs); (try have hs0 := hs w.heap.size (by omega)); (try have hs1 := hs (w.heap.size + 1) (by omega)); (try have hs2 := hs (w.heap.size + 1 + 1) (by omega)); (try have hs3 := hs (w.heap.size + 1 + 1 + 1) (by omega))))
    go_ret
    exact ⟨rfl, by (repeat (first | with_reducible exact Ext.rfl' _ | with_reducible assumption | with_reducible refine Ext.al ?_ _ | with_reducible refine Ext.dr ?_ | with_reducible refine Ext.st ?_ (by simp) _ | with_reducible refine Ext.tr ?_ (by assumption)))⟩
  rw [if_neg h8, if_neg (by omega)]
  obtain ⟨E, hE0⟩ : ∃ E, firstE (laE soils L) L.length = E := ⟨_, rfl⟩
  rw [hE0]
  have HE := Lib.hid hE0
  clear hE0
  go_enter Tryz.func25, Tryz.ntmps25
  go_upto_region 7 with (first | (go_at_call 50; with_reducible refine Calls.mono (HP.out _) ?_; rintro e w1 ⟨rfl, hb⟩; have hc := hb.ccell; have hf := hb.frz; have hs := hb.sz; (try simp at hs); (try have hs0 := hs w.heap.size (by omega)); (try have hs1 := hs (w.heap.size + 1) (by omega)); (try have hs2 := hs (w.heap.size + 1 + 1) (by omega)); (try have hs3 := hs (w.heap.size + 1 + 1 + 1) (by omega))))
  refine wp_name (fun W hW => ?_)
  have hEW : Ext w W := by rw [hW]; (repeat (first | with_reducible exact Ext.rfl' _ | with_reducible assumption | with_reducible refine Ext.al ?_ _ | with_reducible refine Ext.dr ?_ | with_reducible refine Ext.st ?_ (by simp) _ | with_reducible refine Ext.tr ?_ (by assumption)))
  have s3 : W.cell? ⟨w.heap.size, 3, none⟩ = some (.slice AL L.length cL) := by rw [hW]; simp [*, go_sem]
  have hz0 : w.heap.size < W.heap.size := by rw [hW]; assumption
  clear hW hb hc hf hs hs0
  go_wp2
  go_loopw [5] (fun i wr => Ext W wr ∧ ∃ k : Nat, k ≤ L.length ∧ i = .int .i64 k ∧ Hid (firstE (laE soils L) k = 0)) (fun i _ => L.length - (intOf i).toNat)
  case atStart => exact ⟨Ext.rfl' _, 0, Nat.zero_le _, rfl, rfl⟩
  case round =>
    obtain ⟨hE, k, hk, rfl, hF⟩ := hrel
    have hEr := hEW.tr hE
    have q3 := (hE.ccell _ 3 hz0).trans s3
    have z0 := hE.sz _ hz0
    by_cases hlt : k < L.length
    · obtain ⟨b, off, rfl, hb0, hcell⟩ := hB.la hlt
      obtain ⟨e0, e1⟩ := hcell _ hEr
      have hz := hEr.sz _ hb0
      have HLE : Hid (laE soils L k = if lvB (el L k).t = false then 2 else if 0 < k ∧ (el L (k - 1)).t ≤ (el L k).t then 9 else if hasSoil soils (el L k).s = false then 6 else 0) := rfl
      have HSK := Lib.hid (fun w' (hw : Ext wr w') => HSO.out (el L k).s w' (hEr.tr hw))
      have HSH := Lib.hid (sofI_has soils (el L k).s)
      have HV := Lib.hid (fun w => leveled_c (el L k).t w)
      have hprev : 0 < k → ∃ y, el L (k - 1) = y ∧ wr.cell? ⟨b, off + (k - 1) * 2, none⟩ = some (.int .i64 y.t) := by
        intro h0
        obtain ⟨b', off', hq, _, hc'⟩ := hB.la (k := k - 1) (by omega)
        injection hq with hq
        injection hq with h1 h2
        subst h1 h2
        exact ⟨_, rfl, (hc' _ hEr).1⟩
      clear hcell s3
      generalize el L k = u at *
      generalize hasSoil soils u.s = hs at *
      generalize sofI soils u.s = si at *
      cases hl : lvB u.t
      · rw [hl] at HV HLE
        have HT : Hid ((2 : Int) = E) := Lib.hid (by rw [← HE.out, firstE_at (laE soils L) hF.out (by rw [HLE.out]; simp) hlt, HLE.out]; rfl)
        clear hl hprev
        go_wp2_with (first | (go_at_call 27; with_reducible refine Calls.mono (HV.out _) ?_; rintro e w' ⟨rfl, rfl⟩))
        go_ret
        exact ⟨ret_int HT.out, by (repeat (first | with_reducible exact Ext.rfl' _ | with_reducible assumption | with_reducible refine Ext.al ?_ _ | with_reducible refine Ext.dr ?_ | with_reducible refine Ext.st ?_ (by simp) _ | with_reducible refine Ext.tr ?_ (by assumption)))⟩
      rw [hl] at HV HLE
      clear hl
      by_cases hk0 : 0 < k
      · obtain ⟨y, hy, cy⟩ := hprev hk0
        rw [hy] at HLE
        obtain ⟨m, hkm⟩ : ∃ m, k - 1 = m := ⟨_, rfl⟩
        rw [hkm] at cy
        have hw1 : IntKind.i64.wrap ((k : Int) - 1) = (m : Int) := by rw [show (k : Int) - 1 = (m : Int) by omega]; exact IntWalk.i64_in _ (by omega)
        have hmk : (m : Int) < (L.length : Int) := by omega
        have hm00 : (0 : Int) ≤ (m : Int) := by omega
        have hm0 : decide (0 < k) = true := decide_eq_true hk0
        clear hy hkm hprev
        by_cases hd : y.t ≤ u.t
        · have HT : Hid ((9 : Int) = E) := Lib.hid (by rw [← HE.out, firstE_at (laE soils L) hF.out (by rw [HLE.out, if_neg (by simp), if_pos ⟨hk0, hd⟩]; simp) hlt, HLE.out, if_neg (by simp), if_pos ⟨hk0, hd⟩])
          go_upto_region 12 with (first | (go_at_call 27; with_reducible refine Calls.mono (HV.out _) ?_; rintro e w' ⟨rfl, rfl⟩))
          refine region_grow (by kernel_rfl) (by kernel_rfl) ?_
          repeat (first | go_big_quiet_step (first  | fail) | quiet_step (first  | fail))
          refine wpQuiet_nil ?_
          intro w1 hb
          have hc := hb.ccell
          have hf := hb.frz
          have hs := hb.sz
          (try simp at hs); (try have hs0 := hs w.heap.size (by omega)); (try have hs1 := hs (w.heap.size + 1) (by omega)); (try have hs2 := hs (w.heap.size + 1 + 1) (by omega)); (try have hs3 := hs (w.heap.size + 1 + 1 + 1) (by omega))
          (try simp only [IntWalk.i64_left])
          have hE1 : Ext wr w1 := by assumption
          go_wp2
          go_ret
          exact ⟨ret_int HT.out, hEr.tr hE1⟩
        · have HLE2 : Hid (laE soils L k = if hs = false then 6 else 0) := Lib.hid (by rw [HLE.out, if_neg (by simp), if_neg (fun q => hd q.2)])
          clear HLE
          cases hh : hs
          · rw [hh] at HLE2 HSH
            have HT : Hid ((6 : Int) = E) := Lib.hid (by rw [← HE.out, firstE_at (laE soils L) hF.out (by rw [HLE2.out]; simp) hlt, HLE2.out]; rfl)
            have hsi : si < 0 := by have := of_decide_eq_false HSH.out; omega
            clear hh
            go_upto_region 12 with (first | (go_at_call 27; with_reducible refine Calls.mono (HV.out _) ?_; rintro e w' ⟨rfl, rfl⟩))
            refine region_grow (by kernel_rfl) (by kernel_rfl) ?_
            repeat (first | go_big_quiet_step (first  | fail) | quiet_step (first  | fail))
            refine wpQuiet_nil ?_
            intro w1 hb
            have hc := hb.ccell
            have hf := hb.frz
            have hs := hb.sz
            (try simp at hs); (try have hs0 := hs w.heap.size (by omega)); (try have hs1 := hs (w.heap.size + 1) (by omega)); (try have hs2 := hs (w.heap.size + 1 + 1) (by omega)); (try have hs3 := hs (w.heap.size + 1 + 1 + 1) (by omega))
            (try simp only [IntWalk.i64_left])
            have hE1 : Ext wr w1 := by assumption
            have e1' := (hE1.ccell _ _ hz).trans e1
            have q3' := (hE1.ccell _ 3 z0).trans q3
            have z0' := hE1.sz _ z0
            have hz' := hE1.sz _ hz
            go_wp2_with (first | (go_at_call 48; with_reducible refine Calls.mono (HSK.out _ (by (repeat (first | with_reducible exact Ext.rfl' _ | with_reducible assumption | with_reducible refine Ext.al ?_ _ | with_reducible refine Ext.dr ?_ | with_reducible refine Ext.st ?_ (by simp) _ | with_reducible refine Ext.tr ?_ (by assumption))))) ?_; rintro e w3 ⟨rfl, hb⟩; have hc := hb.ccell; have hf := hb.frz; have hs := hb.sz; (try simp at hs); (try have t0 := hs (w.heap.size) (by first | assumption | omega)); (try have t1 := hs (w.heap.size) (by first | assumption | omega)); (try have t2 := hs (w.heap.size) (by first | assumption | omega)); (try have t3 := hs (w.heap.size) (by first | assumption | omega)); (try have t4 := hs (w.heap.size) (by first | assumption | omega)); (try have t5 := hs (w.heap.size) (by first | assumption | omega))))
            go_ret
            have hE3 : Ext w1 w3 := by assumption
            exact ⟨ret_int HT.out, (hEr.tr hE1).tr hE3⟩
          · rw [hh] at HLE2 HSH
            have hsi : ¬ si < 0 := by have := of_decide_eq_true HSH.out; omega
            clear hh
            go_upto_region 12 with (first | (go_at_call 27; with_reducible refine Calls.mono (HV.out _) ?_; rintro e w' ⟨rfl, rfl⟩))
            refine region_grow (by kernel_rfl) (by kernel_rfl) ?_
            repeat (first | go_big_quiet_step (first  | fail) | quiet_step (first  | fail))
            refine wpQuiet_nil ?_
            intro w1 hb
            have hc := hb.ccell
            have hf := hb.frz
            have hs := hb.sz
            (try simp at hs); (try have hs0 := hs w.heap.size (by omega)); (try have hs1 := hs (w.heap.size + 1) (by omega)); (try have hs2 := hs (w.heap.size + 1 + 1) (by omega)); (try have hs3 := hs (w.heap.size + 1 + 1 + 1) (by omega))
            (try simp only [IntWalk.i64_left])
            have hE1 : Ext wr w1 := by assumption
            have e1' := (hE1.ccell _ _ hz).trans e1
            have q3' := (hE1.ccell _ 3 z0).trans q3
            have z0' := hE1.sz _ z0
            have hz' := hE1.sz _ hz
            go_wp2_with (first | (go_at_call 48; with_reducible refine Calls.mono (HSK.out _ (by (repeat (first | with_reducible exact Ext.rfl' _ | with_reducible assumption | with_reducible refine Ext.al ?_ _ | with_reducible refine Ext.dr ?_ | with_reducible refine Ext.st ?_ (by simp) _ | with_reducible refine Ext.tr ?_ (by assumption))))) ?_; rintro e w3 ⟨rfl, hb⟩; have hc := hb.ccell; have hf := hb.frz; have hs := hb.sz; (try simp at hs); (try have t0 := hs (w.heap.size) (by first | assumption | omega)); (try have t1 := hs (w.heap.size) (by first | assumption | omega)); (try have t2 := hs (w.heap.size) (by first | assumption | omega)); (try have t3 := hs (w.heap.size) (by first | assumption | omega)); (try have t4 := hs (w.heap.size) (by first | assumption | omega)); (try have t5 := hs (w.heap.size) (by first | assumption | omega))))
            have hE3 : Ext w1 w3 := by assumption
            exact ⟨⟨(hE.tr hE1).tr hE3, k + 1, by omega, by go_num, firstE_step _ hF.out (by rw [HLE2.out]; rfl)⟩, by simp [intOf]; omega⟩
      · have hk00 : k = 0 := by omega
        have HLE2 : Hid (laE soils L k = if hs = false then 6 else 0) := Lib.hid (by rw [HLE.out, if_neg (by simp), if_neg (fun q => hk0 q.1)])
        subst hk00
        clear hprev HLE hk0
        simp only [Nat.zero_mul, Nat.add_zero] at e0 e1
        cases hh : hs
        · rw [hh] at HLE2 HSH
          have HT : Hid ((6 : Int) = E) := Lib.hid (by rw [← HE.out, firstE_at (laE soils L) hF.out (by rw [HLE2.out]; simp) hlt, HLE2.out]; rfl)
          have hsi : si < 0 := by have := of_decide_eq_false HSH.out; omega
          clear hh
          go_upto_region 12 with (first | (go_at_call 27; with_reducible refine Calls.mono (HV.out _) ?_; rintro e w' ⟨rfl, rfl⟩))
          refine region_grow (by kernel_rfl) (by kernel_rfl) ?_
          repeat (first | go_big_quiet_step (first  | fail) | quiet_step (first  | fail))
          refine wpQuiet_nil ?_
          intro w1 hb
          have hc := hb.ccell
          have hf := hb.frz
          have hs := hb.sz
          (try simp at hs); (try have hs0 := hs w.heap.size (by omega)); (try have hs1 := hs (w.heap.size + 1) (by omega)); (try have hs2 := hs (w.heap.size + 1 + 1) (by omega)); (try have hs3 := hs (w.heap.size + 1 + 1 + 1) (by omega))
          (try simp only [IntWalk.i64_left])
          have hE1 : Ext wr w1 := by assumption
          go_wp2_with (first | (go_at_call 48; with_reducible refine Calls.mono (HSK.out _ (by (repeat (first | with_reducible exact Ext.rfl' _ | with_reducible assumption | with_reducible refine Ext.al ?_ _ | with_reducible refine Ext.dr ?_ | with_reducible refine Ext.st ?_ (by simp) _ | with_reducible refine Ext.tr ?_ (by assumption))))) ?_; rintro e w3 ⟨rfl, hb⟩; have hc := hb.ccell; have hf := hb.frz; have hs := hb.sz; (try simp at hs); (try have t0 := hs (w.heap.size) (by first | assumption | omega)); (try have t1 := hs (w.heap.size) (by first | assumption | omega)); (try have t2 := hs (w.heap.size) (by first | assumption | omega)); (try have t3 := hs (w.heap.size) (by first | assumption | omega)); (try have t4 := hs (w.heap.size) (by first | assumption | omega)); (try have t5 := hs (w.heap.size) (by first | assumption | omega))))
          go_ret
          have hE3 : Ext w1 w3 := by assumption
          exact ⟨ret_int HT.out, (hEr.tr hE1).tr hE3⟩
        · rw [hh] at HLE2 HSH
          have hsi : ¬ si < 0 := by have := of_decide_eq_true HSH.out; omega
          clear hh
          go_upto_region 12 with (first | (go_at_call 27; with_reducible refine Calls.mono (HV.out _) ?_; rintro e w' ⟨rfl, rfl⟩))
          refine region_grow (by kernel_rfl) (by kernel_rfl) ?_
          repeat (first | go_big_quiet_step (first  | fail) | quiet_step (first  | fail))
          refine wpQuiet_nil ?_
          intro w1 hb
          have hc := hb.ccell
          have hf := hb.frz
          have hs := hb.sz
          (try simp at hs); (try have hs0 := hs w.heap.size (by omega)); (try have hs1 := hs (w.heap.size + 1) (by omega)); (try have hs2 := hs (w.heap.size + 1 + 1) (by omega)); (try have hs3 := hs (w.heap.size + 1 + 1 + 1) (by omega))
          (try simp only [IntWalk.i64_left])
          have hE1 : Ext wr w1 := by assumption
          go_wp2_with (first | (go_at_call 48; with_reducible refine Calls.mono (HSK.out _ (by (repeat (first | with_reducible exact Ext.rfl' _ | with_reducible assumption | with_reducible refine Ext.al ?_ _ | with_reducible refine Ext.dr ?_ | with_reducible refine Ext.st ?_ (by simp) _ | with_reducible refine Ext.tr ?_ (by assumption))))) ?_; rintro e w3 ⟨rfl, hb⟩; have hc := hb.ccell; have hf := hb.frz; have hs := hb.sz; (try simp at hs); (try have t0 := hs (w.heap.size) (by first | assumption | omega)); (try have t1 := hs (w.heap.size) (by first | assumption | omega)); (try have t2 := hs (w.heap.size) (by first | assumption | omega)); (try have t3 := hs (w.heap.size) (by first | assumption | omega)); (try have t4 := hs (w.heap.size) (by first | assumption | omega)); (try have t5 := hs (w.heap.size) (by first | assumption | omega))))
          have hE3 : Ext w1 w3 := by assumption
          exact ⟨⟨(hE.tr hE1).tr hE3, 0 + 1, by omega, by go_num, firstE_step _ hF.out (by rw [HLE2.out]; rfl)⟩, by simp [intOf]; omega⟩
    · have hks : k = L.length := by omega
      have HT : Hid ((0 : Int) = E) := Lib.hid (by rw [← HE.out, ← hks, hF.out])
      go_wp2
      go_ret
      exact ⟨ret_int HT.out, hEr⟩
set_option maxHeartbeats 16000000 in
theorem rcheckGround_c (soils : List So) (bos : List Bo) (w : World) (AS AB : Option Addr) (cS cB : Nat) (g : GrW w soils AS bos AB) :
    Calls Tryz.prog 9 #[.agg #[.slice AS soils.length cS, .slice AB bos.length cB]] w fun e w' => e = .returned (.int .i64 (chkGr soils bos)) ∧ Ext w w' := by
  have HS := Lib.hid (fun w' (hw : Ext w w') => rcheckSoils_c soils w' AS cS g.ls (g.so.ext hw))
  have HB := Lib.hid (fun k (hk : k < bos.length) w' (hw : Ext w w') => rcheckBoring_c soils (el bos k) w' AS cS g.ls (g.la k hk).2.1 (g.so.ext hw) ((g.la k hk).1.ext hw))
  have hbo := Lib.hid g.bo
  have hlb := g.lb
  unfold chkGr chkBos cntE
  clear g
  by_cases h0 : chkSoils soils = 0
  case neg =>
    rw [if_pos h0]
    have h0' : (chkSoils soils != 0) = true := by simp [h0]
    clear h0
    generalize chkSoils soils = E at *
    go_enter Tryz.func9, Tryz.ntmps9
    go_wp2_with (first | (go_at_call 23; with_reducible refine Calls.mono (HS.out _ (by (repeat (first | with_reducible exact Ext.rfl' _ | with_reducible assumption | with_reducible refine Ext.al ?_ _ | with_reducible refine Ext.dr ?_ | with_reducible refine Ext.st ?_ (by simp) _ | with_reducible refine Ext.tr ?_ (by assumption))))) ?_; rintro e w1 ⟨rfl, hb⟩; have hc := hb.ccell; have hf := hb.frz; have hs := hb.sz; (try simp at hs); (try have hs0 := hs w.heap.size (by omega)); (try have hs1 := hs (w.heap.size + 1) (by omega)); (try have hs2 := hs (w.heap.size + 1 + 1) (by omega)); (try have hs3 := hs (w.heap.size + 1 + 1 + 1) (by omega))))
    go_ret
    exact ⟨rfl, by (repeat (first | with_reducible exact Ext.rfl' _ | with_reducible assumption | with_reducible refine Ext.al ?_ _ | with_reducible refine Ext.dr ?_ | with_reducible refine Ext.st ?_ (by simp) _ | with_reducible refine Ext.tr ?_ (by assumption)))⟩
  rw [if_neg (by omega)]
  rw [h0] at HS
  clear h0
  by_cases h1 : bos.length = 0
  · rw [if_pos h1, if_pos (by omega)]
    have h1' : ((bos.length : Int) == 0) = true := by simp [h1]
    go_enter Tryz.func9, Tryz.ntmps9
    go_wp2_with (first | (go_at_call 23; with_reducible refine Calls.mono (HS.out _ (by (repeat (first | with_reducible exact Ext.rfl' _ | with_reducible assumption | with_reducible refine Ext.al ?_ _ | with_reducible refine Ext.dr ?_ | with_reducible refine Ext.st ?_ (by simp) _ | with_reducible refine Ext.tr ?_ (by assumption))))) ?_; rintro e w1 ⟨rfl, hb⟩; have hc := hb.ccell; have hf := hb.frz; have hs := hb.sz; (try simp at hs); (try have hs0 := hs w.heap.size (by omega)); (try have hs1 := hs (w.heap.size + 1) (by omega)); (try have hs2 := hs (w.heap.size + 1 + 1) (by omega)); (try have hs3 := hs (w.heap.size + 1 + 1 + 1) (by omega))))
    go_ret
    exact ⟨rfl, by (repeat (first | with_reducible exact Ext.rfl' _ | with_reducible assumption | with_reducible refine Ext.al ?_ _ | with_reducible refine Ext.dr ?_ | with_reducible refine Ext.st ?_ (by simp) _ | with_reducible refine Ext.tr ?_ (by assumption)))⟩
  rw [if_neg h1]
  have h1' : ((bos.length : Int) == 0) = false := by rw [beq_eq_false_iff_ne]; omega
  by_cases h8 : (20 : Int) < (bos.length : Int)
  · rw [if_pos h8, if_pos (by omega)]
    clear h1
    go_enter Tryz.func9, Tryz.ntmps9
    go_wp2_with (first | (go_at_call 23; with_reducible refine Calls.mono (HS.out _ (by (repeat (first | with_reducible exact Ext.rfl' _ | with_reducible assumption | with_reducible refine Ext.al ?_ _ | with_reducible refine Ext.dr ?_ | with_reducible refine Ext.st ?_ (by simp) _ | with_reducible refine Ext.tr ?_ (by assumption))))) ?_; rintro e w1 ⟨rfl, hb⟩; have hc := hb.ccell; have hf := hb.frz; have hs := hb.sz; (try simp at hs); (try have hs0 := hs w.heap.size (by omega)); (try have hs1 := hs (w.heap.size + 1) (by omega)); (try have hs2 := hs (w.heap.size + 1 + 1) (by omega)); (try have hs3 := hs (w.heap.size + 1 + 1 + 1) (by omega))))
    go_ret
    exact ⟨rfl, by (repeat (first | with_reducible exact Ext.rfl' _ | with_reducible assumption | with_reducible refine Ext.al ?_ _ | with_reducible refine Ext.dr ?_ | with_reducible refine Ext.st ?_ (by simp) _ | with_reducible refine Ext.tr ?_ (by assumption)))⟩
  rw [if_neg h8, if_neg (by omega)]
  obtain ⟨E, hE0⟩ : ∃ E, firstE (bosE soils bos) bos.length = E := ⟨_, rfl⟩
  rw [hE0]
  have HE := Lib.hid hE0
  clear hE0
  go_enter Tryz.func9, Tryz.ntmps9
  go_upto_region 8 with (first | (go_at_call 23; with_reducible refine Calls.mono (HS.out _ (by (repeat (first | with_reducible exact Ext.rfl' _ | with_reducible assumption | with_reducible refine Ext.al ?_ _ | with_reducible refine Ext.dr ?_ | with_reducible refine Ext.st ?_ (by simp) _ | with_reducible refine Ext.tr ?_ (by assumption))))) ?_; rintro e w1 ⟨rfl, hb⟩; have hc := hb.ccell; have hf := hb.frz; have hs := hb.sz; (try simp at hs); (try have hs0 := hs w.heap.size (by omega)); (try have hs1 := hs (w.heap.size + 1) (by omega)); (try have hs2 := hs (w.heap.size + 1 + 1) (by omega)); (try have hs3 := hs (w.heap.size + 1 + 1 + 1) (by omega))))
  refine wp_name (fun W hW => ?_)
  have hEW : Ext w W := by rw [hW]; (repeat (first | with_reducible exact Ext.rfl' _ | with_reducible assumption | with_reducible refine Ext.al ?_ _ | with_reducible refine Ext.dr ?_ | with_reducible refine Ext.st ?_ (by simp) _ | with_reducible refine Ext.tr ?_ (by assumption)))
  have r0 : W.cell? ⟨w.heap.size, 0, none⟩ = some (.slice AS soils.length cS) := by rw [hW]; simp [*, go_sem]
  have r1 : W.cell? ⟨w.heap.size, 1, none⟩ = some (.slice AB bos.length cB) := by rw [hW]; simp [*, go_sem]
  have hz0 : w.heap.size < W.heap.size := by rw [hW]; assumption
  clear hW hb hc hf hs hs0
  go_wp2
  go_loopw [4] (fun i wr => Ext W wr ∧ ∃ k : Nat, k ≤ bos.length ∧ i = .int .i64 k ∧ Hid (firstE (bosE soils bos) k = 0)) (fun i _ => bos.length - (intOf i).toNat)
  case atStart => exact ⟨Ext.rfl' _, 0, Nat.zero_le _, rfl, rfl⟩
  case round =>
    obtain ⟨hE, k, hk, rfl, hF⟩ := hrel
    have hEr := hEW.tr hE
    have q0 := (hE.ccell _ 0 hz0).trans r0
    have q1 := (hE.ccell _ 1 hz0).trans r1
    have z0 := hE.sz _ hz0
    by_cases hlt : k < bos.length
    · obtain ⟨b, off, rfl, hb0, hcell⟩ := hbo.out.bo hlt
      obtain ⟨e0, e1, e2, e3⟩ := hcell _ hEr
      have hz := hEr.sz _ hb0
      have HSE : Hid (bosE soils bos k = if (!nameB (el bos k).s) = true then 4 else if dupAt (fun k => (el bos k).s) k = true then 5 else boE soils (el bos k)) := rfl
      have HDU : Hid (dupAt (fun k => (el bos k).s) k = anyN (fun j => sameS (el bos j).s (el bos k).s) k) := rfl
      have HBK := Lib.hid (fun w' (hw : Ext wr w') => HB.out k hlt w' (hEr.tr hw))
      have HIN := Lib.hid (fun w => rIsName_c (el bos k).s w)
      rw [name_same] at HIN
      have HK := Lib.hid (show el bos k = el bos k from rfl)
      clear hcell r0 r1
      generalize dupAt (fun k => (el bos k).s) k = du at *
      generalize el bos k = x at *
      cases hb : nameB x.s
      · rw [hb] at HIN HSE
        have HT : Hid ((4 : Int) = E) := Lib.hid (by rw [← HE.out, firstE_at (bosE soils bos) hF.out (by rw [HSE.out]; simp) hlt, HSE.out]; rfl)
        clear hb
        go_wp2_with (first | (go_at_call 24; with_reducible refine Calls.mono (HIN.out _) ?_; rintro e w' ⟨rfl, rfl⟩))
        go_ret
        exact ⟨ret_int HT.out, by (repeat (first | with_reducible exact Ext.rfl' _ | with_reducible assumption | with_reducible refine Ext.al ?_ _ | with_reducible refine Ext.dr ?_ | with_reducible refine Ext.st ?_ (by simp) _ | with_reducible refine Ext.tr ?_ (by assumption)))⟩
      rw [hb] at HIN HSE
      clear hb
      obtain ⟨wk, hwk⟩ : ∃ x, x = wr := ⟨_, rfl⟩
      subst hwk
      go_wp2_with (first | (go_at_call 24; with_reducible refine Calls.mono (HIN.out _) ?_; rintro e w' ⟨rfl, rfl⟩))
      go_loopw [5] (fun i wr => Ext wk wr ∧ ∃ j : Nat, j ≤ k ∧ i = .int .i64 j ∧ Hid (anyN (fun j => sameS (el bos j).s x.s) j = false)) (fun i _ => k - (intOf i).toNat)
      case atStart => exact ⟨Ext.rfl' _, 0, Nat.zero_le _, rfl, rfl⟩
      case round =>
        obtain ⟨hx, j, hj, rfl, hN⟩ := hrel
        have hEx := hEr.tr hx
        have y0 := (hx.ccell _ 0 z0).trans q0
        have y1 := (hx.ccell _ 1 z0).trans q1
        have zz := hx.sz _ z0
        have zb := hx.sz _ hz
        have d0 := (hx.ccell _ _ hz).trans e0
        have d1 := (hx.ccell _ _ hz).trans e1
        have d2 := (hx.ccell _ _ hz).trans e2
        have d3 := (hx.ccell _ _ hz).trans e3
        by_cases hjl : j < k
        · obtain ⟨b', off', hq, _, hc'⟩ := hbo.out.bo (k := j) (by omega)
          injection hq with hq
          injection hq with h1 h2
          subst h1 h2
          have c0 := (hc' _ hEx).1
          obtain ⟨y, hy⟩ : ∃ y, (el bos j).s = y := ⟨_, rfl⟩
          rw [hy] at c0
          have HY := Lib.hid hy
          have hjb : (j : Int) < (bos.length : Int) := by omega
          clear hy hc' q0 q1 e0 e1 e2 e3
          cases hs : sameS y x.s
          · have hq : (y.toList == x.s.toList) = false := hs
            have HB' := Lib.hid hs
            clear hs
            go_upto_region 16 with fail
            refine region_grow (by kernel_rfl) (by kernel_rfl) ?_
            repeat (first | go_big_quiet_step (first  | fail) | quiet_step (first  | fail))
            refine wpQuiet_nil ?_
            intro w1 hb
            have hc := hb.ccell
            have hf := hb.frz
            have hs := hb.sz
            (try simp at hs); (try have hs0 := hs w.heap.size (by omega)); (try have hs1 := hs (w.heap.size + 1) (by omega)); (try have hs2 := hs (w.heap.size + 1 + 1) (by omega)); (try have hs3 := hs (w.heap.size + 1 + 1 + 1) (by omega))
            (try simp only [IntWalk.i64_left])
            have hE1 : Ext wr w1 := by assumption
            go_wp2
            exact ⟨⟨hx.tr hE1, j + 1, by omega, by go_num, by show anyN _ (j + 1) = false; rw [anyN, hN.out, HY.out, HB'.out]; rfl⟩, by simp [intOf]; omega⟩
          · have hq : (y.toList == x.s.toList) = true := hs
            have hdt : du = true := by rw [HDU.out]; exact anyN_at _ hjl (by rw [HY.out]; exact hs)
            have HT : Hid ((5 : Int) = E) := Lib.hid (by rw [← HE.out, firstE_at (bosE soils bos) hF.out (by rw [HSE.out, hdt]; simp) hlt, HSE.out, hdt]; rfl)
            clear hs hdt
            go_upto_region 16 with fail
            refine region_grow (by kernel_rfl) (by kernel_rfl) ?_
            repeat (first | go_big_quiet_step (first  | fail) | quiet_step (first  | fail))
            refine wpQuiet_nil ?_
            intro w1 hb
            have hc := hb.ccell
            have hf := hb.frz
            have hs := hb.sz
            (try simp at hs); (try have hs0 := hs w.heap.size (by omega)); (try have hs1 := hs (w.heap.size + 1) (by omega)); (try have hs2 := hs (w.heap.size + 1 + 1) (by omega)); (try have hs3 := hs (w.heap.size + 1 + 1 + 1) (by omega))
            (try simp only [IntWalk.i64_left])
            have hE1 : Ext wr w1 := by assumption
            go_wp2
            go_ret
            exact ⟨ret_int HT.out, hEx.tr hE1⟩
        · have hjk : j = k := by omega
          subst hjk
          have hdf : du = false := by rw [HDU.out]; exact hN.out
          have HSE2 : Hid (bosE soils bos j = boE soils x) := Lib.hid (by rw [HSE.out, hdf]; rfl)
          have HBX := Lib.hid (fun w' (hw : Ext wr w') => HBK.out w' (hx.tr hw))
          clear hdf HSE HDU HBK q0 q1 e0 e1 e2 e3
          by_cases hn : boE soils x = 0
          · rw [hn] at HBX HSE2
            clear hn
            go_upto_region 18 with fail
            refine region_grow (by kernel_rfl) (by kernel_rfl) ?_
            repeat (first | go_big_quiet_step (first | (go_at_call 25; with_reducible exact callsGrow (HBX.out _ (Grow.ok _))) | fail) | quiet_step (first | (go_at_call 25; with_reducible exact callsGrow (HBX.out _ (Grow.ok _))) | fail))
            refine wpQuiet_nil ?_
            intro w1 hb
            have hc := hb.ccell
            have hf := hb.frz
            have hs := hb.sz
            (try simp at hs); (try have hs0 := hs w.heap.size (by omega)); (try have hs1 := hs (w.heap.size + 1) (by omega)); (try have hs2 := hs (w.heap.size + 1 + 1) (by omega)); (try have hs3 := hs (w.heap.size + 1 + 1 + 1) (by omega))
            (try simp only [IntWalk.i64_left])
            have hE1 : Ext wr w1 := by assumption
            go_wp2
            exact ⟨⟨(hE.tr hx).tr hE1, j + 1, by omega, by go_num, firstE_step _ hF.out HSE2.out⟩, by simp [intOf]; omega⟩
          · have hn' : (boE soils x != 0) = true := by simp [hn]
            have HT : Hid (boE soils x = E) := Lib.hid (by rw [← HE.out, firstE_at (bosE soils bos) hF.out (by rw [HSE2.out]; exact hn) hlt, HSE2.out])
            clear hn HSE2
            generalize boE soils x = q at *
            go_upto_region 18 with fail
            refine region_grow (by kernel_rfl) (by kernel_rfl) ?_
            repeat (first | go_big_quiet_step (first | (go_at_call 25; with_reducible exact callsGrow (HBX.out _ (Grow.ok _))) | fail) | quiet_step (first | (go_at_call 25; with_reducible exact callsGrow (HBX.out _ (Grow.ok _))) | fail))
            refine wpQuiet_nil ?_
            intro w1 hb
            have hc := hb.ccell
            have hf := hb.frz
            have hs := hb.sz
            (try simp at hs); (try have hs0 := hs w.heap.size (by omega)); (try have hs1 := hs (w.heap.size + 1) (by omega)); (try have hs2 := hs (w.heap.size + 1 + 1) (by omega)); (try have hs3 := hs (w.heap.size + 1 + 1 + 1) (by omega))
            (try simp only [IntWalk.i64_left])
            have hE1 : Ext wr w1 := by assumption
            go_wp2
            go_ret
            exact ⟨ret_int HT.out, hEx.tr hE1⟩
    · have hks : k = bos.length := by omega
      have HT : Hid ((0 : Int) = E) := Lib.hid (by rw [← HE.out, ← hks, hF.out])
      go_wp2
      go_ret
      exact ⟨ret_int HT.out, hEr⟩
end Go.Proofs.YtdbabihjnhnnfaaGreat

/- The contract of the reference's Touches. -/
import Derived.Test.YtcdbekmcobghbaaTouch
import Derived.Test.YtcdbekmcobghbaaRefNear
namespace Go.Proofs.Ytcdbekmcobghbaa
open Go Go.RowKit Go.IntWalk

def rectL (a b : Pt) : List Pt := [a, ⟨b.x, a.y⟩, b, ⟨a.x, b.y⟩]
def cornIn (l : List Pt) (R : List Pt) (k : Nat) : Bool := decide (0 ≤ placeR l (cor R k))
def sideMeets (l : List Pt) (R : List Pt) (i k : Nat) : Bool := meetR (cor l i) (cor l (i + 1)) (cor R k) (cor R (k + 1))
def sideTou (l : List Pt) (a b : Pt) (R : List Pt) (i : Nat) : Bool := (withinB (cor l i).x a.x b.x && withinB (cor l i).y a.y b.y) || anyN (sideMeets l R i) 4
def touRL (l : List Pt) (a b : Pt) : Bool := anyN (cornIn l (rectL a b)) 4 || anyN (sideTou l a b (rectL a b)) l.length
theorem rcornerN_c (l : List Pt) (n : Nat) (hn : l.length = n) (i : Nat) (w : World) (A : Option Addr) (c : Nat) (z : Int) (h0 : 0 < n) (hl : n ≤ 1000) (hi : i ≤ 100000) (hA : Row 2 encP w A l) (hz : z = i) :
    Calls Try.prog 91 #[.slice A n c, .int .i64 z] w
      fun e w' => e = .returned (.agg #[.int .i64 (cor l i).x, .int .i64 (cor l i).y]) ∧ Ext w w' := by
  subst hn hz; exact rcorner_c l i w A c h0 hl hi hA

set_option maxHeartbeats 8000000 in
theorem rtouches_c (l : List Pt) (ax ay bx by_ : Int) (w : World) (A : Option Addr) (c : Nat) (h0 : 0 < l.length) (hl : l.length ≤ 1000) (hA : Row 2 encP w A l) :
    Calls Try.prog 49 #[.slice A l.length c, .agg #[.int .i64 ax, .int .i64 ay], .agg #[.int .i64 bx, .int .i64 by_]] w
      fun e w' => e = .returned (.bool (touRL l ⟨ax, ay⟩ ⟨bx, by_⟩)) ∧ Ext w w' := by
  have HCO := Lib.hid (fun i (hi : i ≤ 100000) w' (hw : Ext w w') z hz => rcornerI_c l i w' A c z h0 hl hi (hA.ext hw) hz)
  have HI := Lib.hid (fun px py w' (hw : Ext w w') => rinside_c l px py w' A c h0 hl (hA.ext hw))
  obtain ⟨E, hE0⟩ : ∃ E, touRL l ⟨ax, ay⟩ ⟨bx, by_⟩ = E := ⟨_, rfl⟩
  rw [hE0]
  unfold touRL at hE0
  obtain ⟨R, hR⟩ : ∃ R, rectL ⟨ax, ay⟩ ⟨bx, by_⟩ = R := ⟨_, rfl⟩
  rw [hR] at hE0
  have hR4 : R.length = 4 := by rw [← hR]; rfl
  have HT := Lib.hid hE0
  clear hE0
  go_enter Try.func49, Try.ntmps49
  go_wp2
  refine wp_name (fun W hW => ?_)
  have hE : Ext w W := by rw [hW]; (repeat (first | with_reducible exact Ext.rfl' _ | with_reducible assumption | with_reducible refine Ext.al ?_ _ | with_reducible refine Ext.dr ?_ | with_reducible refine Ext.st ?_ (by simp) _ | with_reducible refine Ext.tr ?_ (by assumption)))
  have HW := Lib.hid hW
  clear hW
  have k4 : W.cell? ⟨w.heap.size, 0, none⟩ = some (.int .i64 ax) ∧ W.cell? ⟨w.heap.size, 1, none⟩ = some (.int .i64 ay) := by
    rw [HW.out]; refine ⟨?_, ?_⟩ <;> simp [World.cell?_alloc_past, World.cell?_alloc_new, go_sem]
  have k5 : W.cell? ⟨w.heap.size + 1, 0, none⟩ = some (.int .i64 bx) ∧ W.cell? ⟨w.heap.size + 1, 1, none⟩ = some (.int .i64 by_) := by
    rw [HW.out]; refine ⟨?_, ?_⟩ <;> simp [World.cell?_alloc_past, World.cell?_alloc_new, go_sem]
  have kR : Row 2 encP W (some ⟨w.heap.size + 1 + 1, 0, none⟩) R := by
    rw [HW.out, ← hR]
    exact Row.new' encP_len _ _ _ _ _ (by simp) rfl
  have z5 : w.heap.size + 1 < W.heap.size := by rw [HW.out]; simp
  have z4 : w.heap.size < W.heap.size := by omega
  have K4 := Lib.hid k4
  have K5 := Lib.hid k5
  have KR := Lib.hid kR
  have HRW := Lib.hid (fun i (hi : i ≤ 100000) w' (hw : Ext W w') z hz => rcornerN_c R 4 hR4 i w' (some ⟨w.heap.size + 1 + 1, 0, none⟩) 4 z (by omega) (by omega) hi (kR.ext hw) hz)
  have HR4 := Lib.hid hR4
  clear HW k4 k5 kR hR hR4
  go_loopw [8] (fun i wr => Ext W wr ∧ ∃ k : Nat, k ≤ 4 ∧ i = .int .i64 k ∧ Hid (anyN (cornIn l R) k = false)) (fun i _ => 4 - (intOf i).toNat)
  case atStart => exact ⟨Ext.rfl' _, 0, Nat.zero_le _, rfl, rfl⟩
  case round =>
    obtain ⟨hr, k, hk, rfl, hN⟩ := hrel
    have hEr : Ext w wr := hE.tr hr
    by_cases hlt : k < 4
    · have hkR : k < R.length := by rw [HR4.out]; exact hlt
      have cR := KR.out.r2 hkR _ hr
      simp only [Nat.zero_add] at cR
      have zR := hr.sz _ (show w.heap.size + 1 + 1 < W.heap.size from by
        obtain ⟨b', o', e', hb', _⟩ := KR.out.p2 hkR
        injection e' with e'
        injection e' with e1 e2
        subst e1; exact hb')
      have HIk := Lib.hid (HI.out R[k].x R[k].y)
      have hci : cornIn l R k = decide (0 ≤ placeR l ⟨R[k].x, R[k].y⟩) := by unfold cornIn; rw [cor_lt R k hkR]
      have HCI := Lib.hid hci
      clear hci
      generalize placeR l ⟨R[k].x, R[k].y⟩ = v at HIk HCI
      by_cases hv : 0 ≤ v
      · have d1 : decide (0 ≤ v) = true := decide_eq_true hv
        have HD := Lib.hid d1
        go_wp2_with (first | (go_at_call 46; with_reducible refine Calls.mono (HIk.out _ (by (repeat (first | with_reducible exact Ext.rfl' _ | with_reducible assumption | with_reducible refine Ext.al ?_ _ | with_reducible refine Ext.dr ?_ | with_reducible refine Ext.st ?_ (by simp) _ | with_reducible refine Ext.tr ?_ (by assumption))))) ?_; rintro e w1 ⟨rfl, hb⟩; have hc := hb.ccell; have hf := hb.frz; have hs := hb.sz; (try simp at hs); (try have hs0 := hs w.heap.size (by omega)); (try have hs1 := hs (w.heap.size + 1) (by omega)); (try have hs2 := hs (w.heap.size + 1 + 1) (by omega)); (try have hs3 := hs (w.heap.size + 1 + 1 + 1) (by omega))))
        go_ret
        exact ⟨ret_bool (by rw [← HT.out, anyN_at _ hlt (by rw [HCI.out, HD.out])]; rfl), by (repeat (first | with_reducible exact Ext.rfl' _ | with_reducible assumption | with_reducible refine Ext.al ?_ _ | with_reducible refine Ext.dr ?_ | with_reducible refine Ext.st ?_ (by simp) _ | with_reducible refine Ext.tr ?_ (by assumption)))⟩
      · have d1 : decide (0 ≤ v) = false := decide_eq_false hv
        have HD := Lib.hid d1
        go_wp2_with (first | (go_at_call 46; with_reducible refine Calls.mono (HIk.out _ (by (repeat (first | with_reducible exact Ext.rfl' _ | with_reducible assumption | with_reducible refine Ext.al ?_ _ | with_reducible refine Ext.dr ?_ | with_reducible refine Ext.st ?_ (by simp) _ | with_reducible refine Ext.tr ?_ (by assumption))))) ?_; rintro e w1 ⟨rfl, hb⟩; have hc := hb.ccell; have hf := hb.frz; have hs := hb.sz; (try simp at hs); (try have hs0 := hs w.heap.size (by omega)); (try have hs1 := hs (w.heap.size + 1) (by omega)); (try have hs2 := hs (w.heap.size + 1 + 1) (by omega)); (try have hs3 := hs (w.heap.size + 1 + 1 + 1) (by omega))))
        exact ⟨⟨by (repeat (first | with_reducible exact Ext.rfl' _ | with_reducible assumption | with_reducible refine Ext.al ?_ _ | with_reducible refine Ext.dr ?_ | with_reducible refine Ext.st ?_ (by simp) _ | with_reducible refine Ext.tr ?_ (by assumption))), k + 1, by omega, by go_num, (by show anyN _ (k + 1) = false; rw [anyN, hN.out, HCI.out, HD.out]; rfl)⟩, by simp [intOf]; omega⟩
    · have hk4 : k = 4 := by omega
      have hT := HT.out
      have hN4 := hN.out
      rw [hk4] at hN4
      rw [hN4, Bool.false_or] at hT
      have HT2 := Lib.hid hT
      clear hT hN hN4
      go_wp2
      clear hk4
      go_loopw [9, 10, 11, 12] (fun i _ _ _ wx => Ext W wx ∧ ∃ k : Nat, k ≤ l.length ∧ i = .int .i64 k ∧ Hid (anyN (sideTou l ⟨ax, ay⟩ ⟨bx, by_⟩ R) k = false)) (fun i _ _ _ _ => l.length - (intOf i).toNat)
      case atStart => exact ⟨hr, 0, Nat.zero_le _, rfl, rfl⟩
      case round =>
        clear hr hEr
        obtain ⟨hr, k, hk, rfl, hN⟩ := hrel
        by_cases hlt : k < l.length
        · have hEr : Ext w wr := hE.tr hr
          have e0 := (hr.ccell _ 0 z4).trans K4.out.1
          have e1 := (hr.ccell _ 1 z4).trans K4.out.2
          have e2 := (hr.ccell _ 0 z5).trans K5.out.1
          have e3 := (hr.ccell _ 1 z5).trans K5.out.2
          have y4 := hr.sz _ z4
          have y5 := hr.sz _ z5
          have HC0 := Lib.hid (fun w' hw z hz => HCO.out k (by omega) w' hw z hz)
          have HC1 := Lib.hid (fun w' hw z hz => HCO.out (k + 1) (by omega) w' hw z hz)
          have HSM := Lib.hid (fun m => (show sideMeets l R k m = meetR ⟨(cor l k).x, (cor l k).y⟩ ⟨(cor l (k + 1)).x, (cor l (k + 1)).y⟩ ⟨(cor R m).x, (cor R m).y⟩ ⟨(cor R (m + 1)).x, (cor R (m + 1)).y⟩ from rfl))
          have HST := Lib.hid (show sideTou l ⟨ax, ay⟩ ⟨bx, by_⟩ R k = ((withinB (cor l k).x ax bx && withinB (cor l k).y ay by_) || anyN (sideMeets l R k) 4) from rfl)
          generalize (cor l k).x = cx at HC0 HC1 HSM HST
          generalize (cor l k).y = cy at HC0 HC1 HSM HST
          generalize (cor l (k + 1)).x = dx at HC0 HC1 HSM
          generalize (cor l (k + 1)).y = dy at HC0 HC1 HSM
          have HW1 := Lib.hid (fun r hr w => within_of cx ax bx r hr w)
          have HW2 := Lib.hid (fun r hr w => within_of cy ay by_ r hr w)
          have HMT := Lib.hid (fun p0 p1 q0 q1 w => rmeet_c cx cy dx dy p0 p1 q0 q1 w)
          go_upto_region 11 with (first | (go_at_call 91; with_reducible refine Calls.mono (HC0.out _ (by (repeat (first | with_reducible exact Ext.rfl' _ | with_reducible assumption | with_reducible refine Ext.al ?_ _ | with_reducible refine Ext.dr ?_ | with_reducible refine Ext.st ?_ (by simp) _ | with_reducible refine Ext.tr ?_ (by assumption)))) _ (by omega)) ?_; rintro e w1 ⟨rfl, hb⟩; have hc := hb.ccell; have hf := hb.frz; have hs := hb.sz; (try simp at hs); (try have hs0 := hs w.heap.size (by omega)); (try have hs1 := hs (w.heap.size + 1) (by omega)); (try have hs2 := hs (w.heap.size + 1 + 1) (by omega)); (try have hs3 := hs (w.heap.size + 1 + 1 + 1) (by omega))) | (go_at_call 91; with_reducible refine Calls.mono (HC1.out _ (by (repeat (first | with_reducible exact Ext.rfl' _ | with_reducible assumption | with_reducible refine Ext.al ?_ _ | with_reducible refine Ext.dr ?_ | with_reducible refine Ext.st ?_ (by simp) _ | with_reducible refine Ext.tr ?_ (by assumption)))) _ (by omega)) ?_; rintro e w1 ⟨rfl, hb⟩; have hc := hb.ccell; have hf := hb.frz; have hs := hb.sz; (try simp at hs); (try have hs0 := hs w.heap.size (by omega)); (try have hs1 := hs (w.heap.size + 1) (by omega)); (try have hs2 := hs (w.heap.size + 1 + 1) (by omega)); (try have hs3 := hs (w.heap.size + 1 + 1 + 1) (by omega))))
          refine wp_name (fun V hV => ?_)
          have hE' : Ext wr V := by rw [hV]; (repeat (first | with_reducible exact Ext.rfl' _ | with_reducible assumption | with_reducible refine Ext.al ?_ _ | with_reducible refine Ext.dr ?_ | with_reducible refine Ext.st ?_ (by simp) _ | with_reducible refine Ext.tr ?_ (by assumption)))
          have HV := Lib.hid hV
          clear hV
          have v10 : V.cell? ⟨w1.heap.size, 0, none⟩ = some (.int .i64 cx) ∧ V.cell? ⟨w1.heap.size, 1, none⟩ = some (.int .i64 cy) := by
            rw [HV.out]; refine ⟨?_, ?_⟩ <;> simp [World.cell?_alloc_past, World.cell?_alloc_new, go_sem]
          have v11 : V.cell? ⟨w1.heap.size + 1, 0, none⟩ = some (.int .i64 dx) ∧ V.cell? ⟨w1.heap.size + 1, 1, none⟩ = some (.int .i64 dy) := by
            rw [HV.out]; refine ⟨?_, ?_⟩ <;> simp [World.cell?_alloc_past, World.cell?_alloc_new, go_sem]
          have x11 : w1.heap.size + 1 < V.heap.size := by rw [HV.out]; simp
          have x10 : w1.heap.size < V.heap.size := by omega
          have V10 := Lib.hid v10
          have V11 := Lib.hid v11
          clear HV v11
          generalize w1.heap.size = n0 at *
          clear hb hc hf hs
          have f0 := (hE'.ccell _ 0 y4).trans e0
          have f1 := (hE'.ccell _ 1 y4).trans e1
          have f2 := (hE'.ccell _ 0 y5).trans e2
          have f3 := (hE'.ccell _ 1 y5).trans e3
          have u4 := hE'.sz _ y4
          have u5 := hE'.sz _ y5
          have hWV : Ext W V := hr.tr hE'
          clear e0 e1 e2 e3 y4 y5
          cases hw1 : withinB cx ax bx
          case' true => cases hw2 : withinB cy ay by_
          case' true.true =>
            have HA1 := Lib.hid (HW1.out true hw1)
            have HA2 := Lib.hid (HW2.out true hw2)
            have hq : sideTou l ⟨ax, ay⟩ ⟨bx, by_⟩ R k = true := by rw [HST.out, hw1, hw2]; rfl
            have HQ := Lib.hid hq
            clear hw1 hw2 hq
            go_wp2_with (first | (go_at_call 66; (first | (with_reducible refine Calls.mono (HA1.out _) ?_) | (with_reducible refine Calls.mono (HA2.out _) ?_)); rintro e w' ⟨rfl, rfl⟩))
            go_ret
            exact ⟨ret_bool (by rw [← HT2.out, anyN_at _ hlt HQ.out]), by (repeat (first | with_reducible exact Ext.rfl' _ | with_reducible assumption | with_reducible refine Ext.al ?_ _ | with_reducible refine Ext.dr ?_ | with_reducible refine Ext.st ?_ (by simp) _ | with_reducible refine Ext.tr ?_ (by assumption)))⟩
          case' true.false =>
            have HA1 := Lib.hid (HW1.out true hw1)
            have HA2 := Lib.hid (HW2.out false hw2)
            have hq : sideTou l ⟨ax, ay⟩ ⟨bx, by_⟩ R k = anyN (sideMeets l R k) 4 := by rw [HST.out, hw1, hw2]; rfl
            have HQ := Lib.hid hq
            clear hw1 hw2 hq
            go_wp2_with (first | (go_at_call 66; (first | (with_reducible refine Calls.mono (HA1.out _) ?_) | (with_reducible refine Calls.mono (HA2.out _) ?_)); rintro e w' ⟨rfl, rfl⟩))
          case' false =>
            have HA1 := Lib.hid (HW1.out false hw1)
            have hq : sideTou l ⟨ax, ay⟩ ⟨bx, by_⟩ R k = anyN (sideMeets l R k) 4 := by rw [HST.out, hw1]; rfl
            have HQ := Lib.hid hq
            clear hw1 hq
            go_wp2_with (first | (go_at_call 66; (with_reducible refine Calls.mono (HA1.out _) ?_); rintro e w' ⟨rfl, rfl⟩))
          all_goals
            clear f0 f1 f2 f3 v10
            go_loopw [12] (fun i wx => Ext V wx ∧ ∃ m : Nat, m ≤ 4 ∧ i = .int .i64 m ∧ Hid (anyN (sideMeets l R k) m = false)) (fun i _ => 4 - (intOf i).toNat)
            case atStart => exact ⟨Ext.rfl' _, 0, Nat.zero_le _, rfl, rfl⟩
            case round =>
              obtain ⟨hx, m, hm, rfl, hM⟩ := hrel
              by_cases hlm : m < 4
              · have hEx : Ext w wr := (hE.tr hWV).tr hx
                have hWx : Ext W wr := hWV.tr hx
                have g0 := (hx.ccell _ 0 x10).trans V10.out.1
                have g1 := (hx.ccell _ 1 x10).trans V10.out.2
                have g2 := (hx.ccell _ 0 x11).trans V11.out.1
                have g3 := (hx.ccell _ 1 x11).trans V11.out.2
                have t10 := hx.sz _ x10
                have t11 := hx.sz _ x11
                have hmR : m < R.length := by rw [HR4.out]; exact hlm
                have cR := KR.out.r2 hmR _ hWx
                simp only [Nat.zero_add] at cR
                have zR := hWx.sz _ (show w.heap.size + 1 + 1 < W.heap.size from by
                  obtain ⟨b', o', e', hb', _⟩ := KR.out.p2 hmR
                  injection e' with e'
                  injection e' with e1 e2
                  subst e1; exact hb')
                have HCN := Lib.hid (fun w' hw z hz => HRW.out (m + 1) (by omega) w' hw z hz)
                have hsm := HSM.out m
                rw [cor_lt R m hmR] at hsm
                have HSm := Lib.hid hsm
                have HMm := Lib.hid (HMT.out R[m].x R[m].y (cor R (m + 1)).x (cor R (m + 1)).y)
                clear hsm
                generalize meetR ⟨cx, cy⟩ ⟨dx, dy⟩ ⟨R[m].x, R[m].y⟩ ⟨(cor R (m + 1)).x, (cor R (m + 1)).y⟩ = r3 at HSm HMm
                generalize (cor R (m + 1)).x = ex at HCN HMm
                generalize (cor R (m + 1)).y = ey at HCN HMm
                cases r3
                all_goals
                  go_wp2_with fail
                  refine region_grow (by kernel_rfl) (by kernel_rfl) ?_
                  repeat (first | go_big_quiet_step (first | (go_at_call 91; with_reducible exact callsGrow (HCN.out _ (hWx.tr (Grow.ok _)) _ (by first | omega | (rw [i64_in _ (by omega)]; omega)))) | (go_at_call 36; with_reducible exact callsGrow (HMm.out _)) | fail) | quiet_step (first | (go_at_call 91; with_reducible exact callsGrow (HCN.out _ (hWx.tr (Grow.ok _)) _ (by first | omega | (rw [i64_in _ (by omega)]; omega)))) | (go_at_call 36; with_reducible exact callsGrow (HMm.out _)) | fail))
                  refine wpQuiet_nil ?_
                  intro w1 hb
                  have hc := hb.ccell
                  have hf := hb.frz
                  have hs := hb.sz
                  (try simp at hs); (try have hs0 := hs w.heap.size (by omega)); (try have hs1 := hs (w.heap.size + 1) (by omega)); (try have hs2 := hs (w.heap.size + 1 + 1) (by omega)); (try have hs3 := hs (w.heap.size + 1 + 1 + 1) (by omega))
                  (try simp only [IntWalk.i64_left])
                  go_wp2
                · exact ⟨⟨by (repeat (first | with_reducible exact Ext.rfl' _ | with_reducible assumption | with_reducible refine Ext.al ?_ _ | with_reducible refine Ext.dr ?_ | with_reducible refine Ext.st ?_ (by simp) _ | with_reducible refine Ext.tr ?_ (by assumption))), m + 1, by omega, by go_num, (by show anyN _ (m + 1) = false; rw [anyN, hM.out, HSm.out]; rfl)⟩, by simp [intOf]; omega⟩
                · go_ret
                  exact ⟨ret_bool (by rw [← HT2.out, anyN_at _ hlt (by rw [HQ.out]; exact anyN_at _ hlm HSm.out)]), by (repeat (first | with_reducible exact Ext.rfl' _ | with_reducible assumption | with_reducible refine Ext.al ?_ _ | with_reducible refine Ext.dr ?_ | with_reducible refine Ext.st ?_ (by simp) _ | with_reducible refine Ext.tr ?_ (by assumption)))⟩
              · have hm4 : m = 4 := by omega
                have hM4 := hM.out
                rw [hm4] at hM4
                have HM4 := Lib.hid hM4
                clear hM4 hM
                go_wp2
                exact ⟨⟨by (repeat (first | with_reducible exact Ext.rfl' _ | with_reducible assumption | with_reducible refine Ext.al ?_ _ | with_reducible refine Ext.dr ?_ | with_reducible refine Ext.st ?_ (by simp) _ | with_reducible refine Ext.tr ?_ (by assumption))), k + 1, by omega, by go_num, (by show anyN _ (k + 1) = false; rw [anyN, hN.out, HQ.out, HM4.out]; rfl)⟩, by simp [intOf]; omega⟩
        · have hkl : k = l.length := by omega
          have hT := HT2.out
          rw [← hkl, hN.out] at hT
          have HT3 := Lib.hid hT
          clear hT hN
          go_wp2
          go_ret
          exact ⟨ret_bool HT3.out, by (repeat (first | with_reducible exact Ext.rfl' _ | with_reducible assumption | with_reducible refine Ext.al ?_ _ | with_reducible refine Ext.dr ?_ | with_reducible refine Ext.st ?_ (by simp) _ | with_reducible refine Ext.tr ?_ (by assumption)))⟩
end Go.Proofs.Ytcdbekmcobghbaa

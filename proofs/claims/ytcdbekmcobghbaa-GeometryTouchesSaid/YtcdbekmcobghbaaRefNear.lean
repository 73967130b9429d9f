/- The contract of the reference's Near. -/
import Derived.Test.YtcdbekmcobghbaaNear2
namespace Go.Proofs.Ytcdbekmcobghbaa
open Go Go.RowKit Go.IntWalk

def offR (a b p : Pt) : Int := wrap64 ((absW (crossW a b p)).tdiv (spanR a b))
def sideNearR (l : List Pt) (p : Pt) (d : Int) (i : Nat) : Bool := nearB (dotW p (cor l i) (cor l i)) (dotW p (cor l (i + 1)) (cor l (i + 1))) (dotW (cor l i) (cor l (i + 1)) p) (dotW (cor l i) (cor l (i + 1)) (cor l (i + 1))) (offR (cor l i) (cor l (i + 1)) p) d
def nearRL (l : List Pt) (p : Pt) (d : Int) : Bool := decide (0 ≤ placeR l p) || anyN (sideNearR l p d) l.length
theorem within_of (a lo hi : Int) (r : Bool) (hr : withinB a lo hi = r) (w : World) :
    Calls Try.prog 66 #[.int .i64 a, .int .i64 lo, .int .i64 hi] w fun e w' => e = .returned (.bool r) ∧ w = w' := by
  rw [← hr]; exact within3_c a lo hi w

set_option maxHeartbeats 8000000 in
theorem rnear_c (l : List Pt) (px py d : Int) (w : World) (A : Option Addr) (c : Nat) (h0 : 0 < l.length) (hl : l.length ≤ 1000) (hA : Row 2 encP w A l) (hd0 : 0 ≤ d) (hd1 : d ≤ 1000000) (hsp : ∀ i, i < l.length → spanR (cor l i) (cor l (i + 1)) ≠ 0) :
    Calls Try.prog 47 #[.slice A l.length c, .agg #[.int .i64 px, .int .i64 py], .int .i64 d] w
      fun e w' => e = .returned (.bool (nearRL l ⟨px, py⟩ d)) ∧ Ext w w' := by
  obtain ⟨q0, q1⟩ := dd_bound hd0 hd1
  have HCO := Lib.hid (fun i (hi : i ≤ 100000) w' (hw : Ext w w') z hz => rcornerI_c l i w' A c z h0 hl hi (hA.ext hw) hz)
  have HI := Lib.hid (fun w' (hw : Ext w w') => rinside_c l px py w' A c h0 hl (hA.ext hw))
  have HSP := Lib.hid hsp
  obtain ⟨E, hE0⟩ : ∃ E, nearRL l ⟨px, py⟩ d = E := ⟨_, rfl⟩
  rw [hE0]
  unfold nearRL at hE0
  have HT := Lib.hid hE0
  clear hE0 hsp
  by_cases hpl : 0 ≤ placeR l ⟨px, py⟩
  · have HPL := Lib.hid hpl
    generalize placeR l ⟨px, py⟩ = r at *
    go_enter Try.func47, Try.ntmps47
    go_wp2_with (first | (go_at_call 46; with_reducible refine Calls.mono (HI.out _ (by (repeat (first | with_reducible exact Ext.rfl' _ | with_reducible assumption | with_reducible refine Ext.al ?_ _ | with_reducible refine Ext.dr ?_ | with_reducible refine Ext.st ?_ (by simp) _ | with_reducible refine Ext.tr ?_ (by assumption))))) ?_; rintro e w1 ⟨rfl, hb⟩; have hc := hb.ccell; have hf := hb.frz; have hs := hb.sz; (try simp at hs); (try have hs0 := hs w.heap.size (by omega)); (try have hs1 := hs (w.heap.size + 1) (by omega)); (try have hs2 := hs (w.heap.size + 1 + 1) (by omega)); (try have hs3 := hs (w.heap.size + 1 + 1 + 1) (by omega))))
    go_ret
    exact ⟨by rw [← HT.out, decide_eq_true HPL.out]; rfl, by (repeat (first | with_reducible exact Ext.rfl' _ | with_reducible assumption | with_reducible refine Ext.al ?_ _ | with_reducible refine Ext.dr ?_ | with_reducible refine Ext.st ?_ (by simp) _ | with_reducible refine Ext.tr ?_ (by assumption)))⟩
  have hT := HT.out
  rw [decide_eq_false hpl, Bool.false_or] at hT
  have HT2 := Lib.hid hT
  clear hT HT
  generalize placeR l ⟨px, py⟩ = r at *
  go_enter Try.func47, Try.ntmps47
  go_wp2_with (first | (go_at_call 46; with_reducible refine Calls.mono (HI.out _ (by (repeat (first | with_reducible exact Ext.rfl' _ | with_reducible assumption | with_reducible refine Ext.al ?_ _ | with_reducible refine Ext.dr ?_ | with_reducible refine Ext.st ?_ (by simp) _ | with_reducible refine Ext.tr ?_ (by assumption))))) ?_; rintro e w1 ⟨rfl, hb⟩; have hc := hb.ccell; have hf := hb.frz; have hs := hb.sz; (try simp at hs); (try have hs0 := hs w.heap.size (by omega)); (try have hs1 := hs (w.heap.size + 1) (by omega)); (try have hs2 := hs (w.heap.size + 1 + 1) (by omega)); (try have hs3 := hs (w.heap.size + 1 + 1 + 1) (by omega))))
  have hE : Ext w w1 := by (repeat (first | with_reducible exact Ext.rfl' _ | with_reducible assumption | with_reducible refine Ext.al ?_ _ | with_reducible refine Ext.dr ?_ | with_reducible refine Ext.st ?_ (by simp) _ | with_reducible refine Ext.tr ?_ (by assumption)))
  have k : w1.cell? ⟨w.heap.size, 0, none⟩ = some (.int .i64 px) ∧ w1.cell? ⟨w.heap.size, 1, none⟩ = some (.int .i64 py) := by
    refine ⟨?_, ?_⟩ <;> simp [*, go_sem]
  have hzp : w.heap.size < w1.heap.size := hs0
  have K := Lib.hid k
  obtain ⟨wp, rfl⟩ : ∃ wp : World, wp = w1 := ⟨_, rfl⟩
  clear k hb hc hf hs hs0 HI hpl
  go_loopw [7, 8, 9] (fun i _ _ wr => Ext wp wr ∧ ∃ k : Nat, k ≤ l.length ∧ i = .int .i64 k ∧ Hid (anyN (sideNearR l ⟨px, py⟩ d) k = false)) (fun i _ _ _ => l.length - (intOf i).toNat)
  case atStart => exact ⟨Ext.rfl' _, 0, Nat.zero_le _, rfl, rfl⟩
  case round =>
    obtain ⟨hr, k, hk, rfl, hN⟩ := hrel
    by_cases hlt : k < l.length
    · have e0 := (hr.ccell _ 0 hzp).trans K.out.1
      have e1 := (hr.ccell _ 1 hzp).trans K.out.2
      have hzq := hr.sz _ hzp
      have hEr := hE.tr hr
      have HC0 := Lib.hid (fun w' hw z hz => HCO.out k (by omega) w' hw z hz)
      have HC1 := Lib.hid (fun w' hw z hz => HCO.out (k + 1) (by omega) w' hw z hz)
      have HS1 := Lib.hid (fun w => rsquare_c px py (cor l k).x (cor l k).y w)
      have HS2 := Lib.hid (fun w => rsquare_c px py (cor l (k + 1)).x (cor l (k + 1)).y w)
      have HS3 := Lib.hid (fun w => rsquare_c (cor l k).x (cor l k).y (cor l (k + 1)).x (cor l (k + 1)).y w)
      have HD := Lib.hid (fun w => rdot_c (cor l k).x (cor l k).y (cor l (k + 1)).x (cor l (k + 1)).y px py w)
      have HO := Lib.hid (fun w => roffset_c (cor l k).x (cor l k).y (cor l (k + 1)).x (cor l (k + 1)).y px py w (HSP.out k hlt))
      have HON0 := (show sideNearR l ⟨px, py⟩ d k = nearB (dotW ⟨px, py⟩ ⟨(cor l k).x, (cor l k).y⟩ ⟨(cor l k).x, (cor l k).y⟩) (dotW ⟨px, py⟩ ⟨(cor l (k + 1)).x, (cor l (k + 1)).y⟩ ⟨(cor l (k + 1)).x, (cor l (k + 1)).y⟩) (dotW ⟨(cor l k).x, (cor l k).y⟩ ⟨(cor l (k + 1)).x, (cor l (k + 1)).y⟩ ⟨px, py⟩) (dotW ⟨(cor l k).x, (cor l k).y⟩ ⟨(cor l (k + 1)).x, (cor l (k + 1)).y⟩ ⟨(cor l (k + 1)).x, (cor l (k + 1)).y⟩)
        (wrap64 ((absW (crossW ⟨(cor l k).x, (cor l k).y⟩ ⟨(cor l (k + 1)).x, (cor l (k + 1)).y⟩ ⟨px, py⟩)).tdiv (spanR ⟨(cor l k).x, (cor l k).y⟩ ⟨(cor l (k + 1)).x, (cor l (k + 1)).y⟩))) d from rfl)
      unfold nearB at HON0
      have HON := Lib.hid HON0
      clear HON0
      generalize dotW ⟨px, py⟩ ⟨(cor l k).x, (cor l k).y⟩ ⟨(cor l k).x, (cor l k).y⟩ = sa at HS1 HON
      generalize dotW ⟨px, py⟩ ⟨(cor l (k + 1)).x, (cor l (k + 1)).y⟩ ⟨(cor l (k + 1)).x, (cor l (k + 1)).y⟩ = sb at HS2 HON
      generalize dotW ⟨(cor l k).x, (cor l k).y⟩ ⟨(cor l (k + 1)).x, (cor l (k + 1)).y⟩ ⟨px, py⟩ = al at HD HON
      generalize dotW ⟨(cor l k).x, (cor l k).y⟩ ⟨(cor l (k + 1)).x, (cor l (k + 1)).y⟩ ⟨(cor l (k + 1)).x, (cor l (k + 1)).y⟩ = sq at HS3 HON
      generalize wrap64 ((absW (crossW ⟨(cor l k).x, (cor l k).y⟩ ⟨(cor l (k + 1)).x, (cor l (k + 1)).y⟩ ⟨px, py⟩)).tdiv (spanR ⟨(cor l k).x, (cor l k).y⟩ ⟨(cor l (k + 1)).x, (cor l (k + 1)).y⟩)) = off at HO HON
      generalize (cor l k).x = ax at HS1 HS2 HS3 HD HO HC0 HC1
      generalize (cor l k).y = ay at HS1 HS2 HS3 HD HO HC0 HC1
      generalize (cor l (k + 1)).x = bx at HS1 HS2 HS3 HD HO HC0 HC1
      generalize (cor l (k + 1)).y = b_y at HS1 HS2 HS3 HD HO HC0 HC1
      have hHW := fun r hr w => within_of al 0 sq r hr w
      have HWI := Lib.hid hHW
      clear hHW
      go_upto_region 7 with (first | (go_at_call 91; with_reducible refine Calls.mono (HC0.out _ (by (repeat (first | with_reducible exact Ext.rfl' _ | with_reducible assumption | with_reducible refine Ext.al ?_ _ | with_reducible refine Ext.dr ?_ | with_reducible refine Ext.st ?_ (by simp) _ | with_reducible refine Ext.tr ?_ (by assumption)))) _ (by omega)) ?_; rintro e w1 ⟨rfl, hb⟩; have hc := hb.ccell; have hf := hb.frz; have hs := hb.sz; (try simp at hs); (try have hs0 := hs w.heap.size (by omega)); (try have hs1 := hs (w.heap.size + 1) (by omega)); (try have hs2 := hs (w.heap.size + 1 + 1) (by omega)); (try have hs3 := hs (w.heap.size + 1 + 1 + 1) (by omega))) | (go_at_call 91; with_reducible refine Calls.mono (HC1.out _ (by (repeat (first | with_reducible exact Ext.rfl' _ | with_reducible assumption | with_reducible refine Ext.al ?_ _ | with_reducible refine Ext.dr ?_ | with_reducible refine Ext.st ?_ (by simp) _ | with_reducible refine Ext.tr ?_ (by assumption)))) _ (by omega)) ?_; rintro e w1 ⟨rfl, hb⟩; have hc := hb.ccell; have hf := hb.frz; have hs := hb.sz; (try simp at hs); (try have hs0 := hs w.heap.size (by omega)); (try have hs1 := hs (w.heap.size + 1) (by omega)); (try have hs2 := hs (w.heap.size + 1 + 1) (by omega)); (try have hs3 := hs (w.heap.size + 1 + 1 + 1) (by omega))))
      refine wp_name (fun W hW => ?_)
      have hE : Ext w W := by rw [hW]; (repeat (first | with_reducible exact Ext.rfl' _ | with_reducible assumption | with_reducible refine Ext.al ?_ _ | with_reducible refine Ext.dr ?_ | with_reducible refine Ext.st ?_ (by simp) _ | with_reducible refine Ext.tr ?_ (by assumption)))
      have HW := Lib.hid hW
      clear hW
      have hrW : Ext wr W := by rw [HW.out]; (repeat (first | with_reducible exact Ext.rfl' _ | with_reducible assumption | with_reducible refine Ext.al ?_ _ | with_reducible refine Ext.dr ?_ | with_reducible refine Ext.st ?_ (by simp) _ | with_reducible refine Ext.tr ?_ (by assumption)))
      have k7 : W.cell? ⟨w1.heap.size, 0, none⟩ = some (.int .i64 ax) ∧ W.cell? ⟨w1.heap.size, 1, none⟩ = some (.int .i64 ay) := by
        rw [HW.out]; refine ⟨?_, ?_⟩ <;> simp [World.cell?_alloc_past, World.cell?_alloc_new, go_sem]
      have k8 : W.cell? ⟨w1.heap.size + 1, 0, none⟩ = some (.int .i64 bx) ∧ W.cell? ⟨w1.heap.size + 1, 1, none⟩ = some (.int .i64 b_y) := by
        rw [HW.out]; refine ⟨?_, ?_⟩ <;> simp [go_sem]
      have z8 : w1.heap.size + 1 < W.heap.size := by rw [HW.out]; simp
      have z7 : w1.heap.size < W.heap.size := by omega
      have zp := hrW.sz _ hzq
      have p0 := (hrW.ccell _ 0 hzq).trans e0
      have p1 := (hrW.ccell _ 1 hzq).trans e1
      have hWp : Ext wp W := hr.tr hrW
      clear HW e0 e1 hzq hEr hrW
      generalize w1.heap.size = n0 at *
      clear hb hc hf hs
      have hNo : sideNearR l ⟨px, py⟩ d k = false → anyN (sideNearR l ⟨px, py⟩ d) (k + 1) = false := by
        intro h; rw [anyN, hN.out, h]; rfl
      have HNo := Lib.hid hNo
      clear hNo
      by_cases c1 : sa ≤ d * d
      · have d1 : decide (sa ≤ d * d) = true := decide_eq_true c1
        go_wp2_with (first | (go_at_call 25; with_reducible refine Calls.mono (HS1.out _) ?_; rintro e w1 ⟨rfl, hb⟩; have hc := hb.ccell; have hf := hb.frz; have hs := hb.sz; (try simp at hs); (try have t0 := hs (n0) (by first | assumption | omega)); (try have t1 := hs (n0 + 1) (by first | assumption | omega)); (try have t2 := hs (w.heap.size) (by first | assumption | omega))))
        go_ret
        exact ⟨ret_bool (by rw [← HT2.out, anyN_at _ hlt (by rw [HON.out, d1]; rfl)]), by (repeat (first | with_reducible exact Ext.rfl' _ | with_reducible assumption | with_reducible refine Ext.al ?_ _ | with_reducible refine Ext.dr ?_ | with_reducible refine Ext.st ?_ (by simp) _ | with_reducible refine Ext.tr ?_ (by assumption)))⟩
      have d1 : decide (sa ≤ d * d) = false := decide_eq_false c1
      by_cases c2 : sb ≤ d * d
      · have d2 : decide (sb ≤ d * d) = true := decide_eq_true c2
        go_wp2_with (first | (go_at_call 25; with_reducible refine Calls.mono (HS1.out _) ?_; rintro e w1 ⟨rfl, hb⟩; have hc := hb.ccell; have hf := hb.frz; have hs := hb.sz; (try simp at hs); (try have t0 := hs (n0) (by first | assumption | omega)); (try have t1 := hs (n0 + 1) (by first | assumption | omega)); (try have t2 := hs (w.heap.size) (by first | assumption | omega))) | (go_at_call 25; with_reducible refine Calls.mono (HS2.out _) ?_; rintro e w1 ⟨rfl, hb⟩; have hc := hb.ccell; have hf := hb.frz; have hs := hb.sz; (try simp at hs); (try have t0 := hs (n0) (by first | assumption | omega)); (try have t1 := hs (n0 + 1) (by first | assumption | omega)); (try have t2 := hs (w.heap.size) (by first | assumption | omega))))
        go_ret
        exact ⟨ret_bool (by rw [← HT2.out, anyN_at _ hlt (by rw [HON.out, d1, d2]; rfl)]), by (repeat (first | with_reducible exact Ext.rfl' _ | with_reducible assumption | with_reducible refine Ext.al ?_ _ | with_reducible refine Ext.dr ?_ | with_reducible refine Ext.st ?_ (by simp) _ | with_reducible refine Ext.tr ?_ (by assumption)))⟩
      have d2 : decide (sb ≤ d * d) = false := decide_eq_false c2
      cases hwi : withinB al 0 sq
      · have HV := Lib.hid (HWI.out false hwi)
        have hno := HNo.out (by rw [HON.out, d1, d2]; unfold withinB at hwi; revert hwi; cases decide (0 ≤ al) <;> cases decide (al ≤ sq) <;> simp)
        have HQ := Lib.hid hno
        clear hwi hno
        go_upto_region 9 with (first | (go_at_call 25; with_reducible refine Calls.mono (HS1.out _) ?_; rintro e w1 ⟨rfl, hb⟩; have hc := hb.ccell; have hf := hb.frz; have hs := hb.sz; (try simp at hs); (try have t0 := hs (n0) (by first | assumption | omega)); (try have t1 := hs (n0 + 1) (by first | assumption | omega)); (try have t2 := hs (w.heap.size) (by first | assumption | omega))) | (go_at_call 25; with_reducible refine Calls.mono (HS2.out _) ?_; rintro e w1 ⟨rfl, hb⟩; have hc := hb.ccell; have hf := hb.frz; have hs := hb.sz; (try simp at hs); (try have t0 := hs (n0) (by first | assumption | omega)); (try have t1 := hs (n0 + 1) (by first | assumption | omega)); (try have t2 := hs (w.heap.size) (by first | assumption | omega))))
        refine region_grow (by kernel_rfl) (by kernel_rfl) ?_
        repeat (first | go_big_quiet_step (first | (go_at_call 78; with_reducible exact callsGrow (HD.out _)) | (go_at_call 25; with_reducible exact callsGrow (HS3.out _)) | (go_at_call 66; exact callsStay (HV.out _)) | fail) | quiet_step (first | (go_at_call 78; with_reducible exact callsGrow (HD.out _)) | (go_at_call 25; with_reducible exact callsGrow (HS3.out _)) | (go_at_call 66; exact callsStay (HV.out _)) | fail))
        refine wpQuiet_nil ?_
        intro w1 hb
        have hc := hb.ccell
        have hf := hb.frz
        have hs := hb.sz
        (try simp at hs); (try have hs0 := hs w.heap.size (by omega)); (try have hs1 := hs (w.heap.size + 1) (by omega)); (try have hs2 := hs (w.heap.size + 1 + 1) (by omega)); (try have hs3 := hs (w.heap.size + 1 + 1 + 1) (by omega))
        (try simp only [IntWalk.i64_left])
        go_wp2
        exact ⟨⟨by (repeat (first | with_reducible exact Ext.rfl' _ | with_reducible assumption | with_reducible refine Ext.al ?_ _ | with_reducible refine Ext.dr ?_ | with_reducible refine Ext.st ?_ (by simp) _ | with_reducible refine Ext.tr ?_ (by assumption))), k + 1, by omega, by go_num, HQ⟩, by simp [intOf]; omega⟩
      · have HV := Lib.hid (HWI.out true hwi)
        have hq : sideNearR l ⟨px, py⟩ d k = decide (off ≤ d) := by
          rw [HON.out, d1, d2]; unfold withinB at hwi; revert hwi; cases decide (0 ≤ al) <;> cases decide (al ≤ sq) <;> simp
        have HQ := Lib.hid hq
        clear hwi hq
        by_cases c5 : off ≤ d
        · have d5 : decide (off ≤ d) = true := decide_eq_true c5
          go_upto_region 9 with (first | (go_at_call 25; with_reducible refine Calls.mono (HS1.out _) ?_; rintro e w1 ⟨rfl, hb⟩; have hc := hb.ccell; have hf := hb.frz; have hs := hb.sz; (try simp at hs); (try have t0 := hs (n0) (by first | assumption | omega)); (try have t1 := hs (n0 + 1) (by first | assumption | omega)); (try have t2 := hs (w.heap.size) (by first | assumption | omega))) | (go_at_call 25; with_reducible refine Calls.mono (HS2.out _) ?_; rintro e w1 ⟨rfl, hb⟩; have hc := hb.ccell; have hf := hb.frz; have hs := hb.sz; (try simp at hs); (try have t0 := hs (n0) (by first | assumption | omega)); (try have t1 := hs (n0 + 1) (by first | assumption | omega)); (try have t2 := hs (w.heap.size) (by first | assumption | omega))))
          refine region_grow (by kernel_rfl) (by kernel_rfl) ?_
          repeat (first | go_big_quiet_step (first | (go_at_call 78; with_reducible exact callsGrow (HD.out _)) | (go_at_call 25; with_reducible exact callsGrow (HS3.out _)) | (go_at_call 66; exact callsStay (HV.out _)) | (go_at_call 31; with_reducible exact callsGrow (HO.out _)) | fail) | quiet_step (first | (go_at_call 78; with_reducible exact callsGrow (HD.out _)) | (go_at_call 25; with_reducible exact callsGrow (HS3.out _)) | (go_at_call 66; exact callsStay (HV.out _)) | (go_at_call 31; with_reducible exact callsGrow (HO.out _)) | fail))
          refine wpQuiet_nil ?_
          intro w1 hb
          have hc := hb.ccell
          have hf := hb.frz
          have hs := hb.sz
          (try simp at hs); (try have hs0 := hs w.heap.size (by omega)); (try have hs1 := hs (w.heap.size + 1) (by omega)); (try have hs2 := hs (w.heap.size + 1 + 1) (by omega)); (try have hs3 := hs (w.heap.size + 1 + 1 + 1) (by omega))
          (try simp only [IntWalk.i64_left])
          go_wp2
          go_ret
          exact ⟨ret_bool (by rw [← HT2.out, anyN_at _ hlt (by rw [HQ.out, d5])]), by (repeat (first | with_reducible exact Ext.rfl' _ | with_reducible assumption | with_reducible refine Ext.al ?_ _ | with_reducible refine Ext.dr ?_ | with_reducible refine Ext.st ?_ (by simp) _ | with_reducible refine Ext.tr ?_ (by assumption)))⟩
        · have d5 : decide (off ≤ d) = false := decide_eq_false c5
          go_upto_region 9 with (first | (go_at_call 25; with_reducible refine Calls.mono (HS1.out _) ?_; rintro e w1 ⟨rfl, hb⟩; have hc := hb.ccell; have hf := hb.frz; have hs := hb.sz; (try simp at hs); (try have t0 := hs (n0) (by first | assumption | omega)); (try have t1 := hs (n0 + 1) (by first | assumption | omega)); (try have t2 := hs (w.heap.size) (by first | assumption | omega))) | (go_at_call 25; with_reducible refine Calls.mono (HS2.out _) ?_; rintro e w1 ⟨rfl, hb⟩; have hc := hb.ccell; have hf := hb.frz; have hs := hb.sz; (try simp at hs); (try have t0 := hs (n0) (by first | assumption | omega)); (try have t1 := hs (n0 + 1) (by first | assumption | omega)); (try have t2 := hs (w.heap.size) (by first | assumption | omega))))
          refine region_grow (by kernel_rfl) (by kernel_rfl) ?_
          repeat (first | go_big_quiet_step (first | (go_at_call 78; with_reducible exact callsGrow (HD.out _)) | (go_at_call 25; with_reducible exact callsGrow (HS3.out _)) | (go_at_call 66; exact callsStay (HV.out _)) | (go_at_call 31; with_reducible exact callsGrow (HO.out _)) | fail) | quiet_step (first | (go_at_call 78; with_reducible exact callsGrow (HD.out _)) | (go_at_call 25; with_reducible exact callsGrow (HS3.out _)) | (go_at_call 66; exact callsStay (HV.out _)) | (go_at_call 31; with_reducible exact callsGrow (HO.out _)) | fail))
          refine wpQuiet_nil ?_
          intro w1 hb
          have hc := hb.ccell
          have hf := hb.frz
          have hs := hb.sz
          (try simp at hs); (try have hs0 := hs w.heap.size (by omega)); (try have hs1 := hs (w.heap.size + 1) (by omega)); (try have hs2 := hs (w.heap.size + 1 + 1) (by omega)); (try have hs3 := hs (w.heap.size + 1 + 1 + 1) (by omega))
          (try simp only [IntWalk.i64_left])
          go_wp2
          exact ⟨⟨by (repeat (first | with_reducible exact Ext.rfl' _ | with_reducible assumption | with_reducible refine Ext.al ?_ _ | with_reducible refine Ext.dr ?_ | with_reducible refine Ext.st ?_ (by simp) _ | with_reducible refine Ext.tr ?_ (by assumption))), k + 1, by omega, by go_num, HNo.out (by rw [HQ.out, d5])⟩, by simp [intOf]; omega⟩
    · have hkl : k = l.length := by omega
      have hT := HT2.out
      rw [← hkl, hN.out] at hT
      have HT3 := Lib.hid hT
      clear hT hN
      go_wp2
      go_ret
      exact ⟨ret_bool HT3.out, by (repeat (first | with_reducible exact Ext.rfl' _ | with_reducible assumption | with_reducible refine Ext.al ?_ _ | with_reducible refine Ext.dr ?_ | with_reducible refine Ext.st ?_ (by simp) _ | with_reducible refine Ext.tr ?_ (by assumption)))⟩
end Go.Proofs.Ytcdbekmcobghbaa

/- Contracts of Area and of the reference's Area. -/
import Derived.Test.YtcdbekmcobghbaaTurn
namespace Go.Proofs.Ytcdbekmcobghbaa
open Go Go.RowKit Go.IntWalk

def areaV (l : List Pt) : Int := if polyE l = 0 then sizeW (areaZ l) else 0
set_option maxHeartbeats 2000000 in
theorem garea_c (l : List Pt) (w : World) (A : Option Addr) (c : Nat) (hl : l.length ≤ 1000) (hA : Row 2 encP w A l) :
    Calls Try.prog 40 #[.slice A l.length c] w
      fun e w' => e = .returned (.tuple #[.int .i64 (areaV l), .int .i64 (polyE l)]) ∧ Ext w w' := by
  have HC := Lib.hid (fun w' (hw : Ext w w') => checkPolygon_c l w' A c hl (hA.ext hw))
  have HSD := Lib.hid (fun w' (hw : Ext w w') => sides_c l w' A c hl (hA.ext hw))
  unfold areaV
  by_cases h1 : polyE l = 0
  case neg =>
    rw [if_neg h1]
    generalize polyE l = r at HC h1 ⊢
    have h' : (r == 0) = false := by simp [h1]
    go_enter Try.func40, Try.ntmps40
    go_wp2_with (first | (go_at_call 42; with_reducible refine Calls.mono (HC.out _ (by (repeat (first | with_reducible exact Ext.rfl' _ | with_reducible assumption | with_reducible refine Ext.al ?_ _ | with_reducible refine Ext.dr ?_ | with_reducible refine Ext.st ?_ (by simp) _ | with_reducible refine Ext.tr ?_ (by assumption))))) ?_; rintro e w1 ⟨rfl, hb⟩; have hc := hb.ccell; have hf := hb.frz; have hs := hb.sz; (try simp at hs); (try have hs0 := hs w.heap.size (by omega)); (try have hs1 := hs (w.heap.size + 1) (by omega)); (try have hs2 := hs (w.heap.size + 1 + 1) (by omega)); (try have hs3 := hs (w.heap.size + 1 + 1 + 1) (by omega))))
    go_ret2
    exact ⟨rfl, by (repeat (first | with_reducible exact Ext.rfl' _ | with_reducible assumption | with_reducible refine Ext.al ?_ _ | with_reducible refine Ext.dr ?_ | with_reducible refine Ext.st ?_ (by simp) _ | with_reducible refine Ext.tr ?_ (by assumption)))⟩
  rw [if_pos h1, h1]
  rw [h1] at HC
  obtain ⟨g1, g2, g3, g4⟩ := polyE_zero h1
  have HBD := Lib.hid (fun k => area_bound g3 k)
  have HCR := Lib.hid (fun k w => by
    have h := cross_c 0 0 (cor l k).x (cor l k).y (cor l (k + 1)).x (cor l (k + 1)).y w
    rw [show crossW ⟨0, 0⟩ ⟨(cor l k).x, (cor l k).y⟩ ⟨(cor l (k + 1)).x, (cor l (k + 1)).y⟩ = crossZ O (cor l k) (cor l (k + 1)) from crossW_good goodO (cor_good g3 _) (cor_good g3 _)] at h
    exact h)
  have HZB := Lib.hid (fun k => crossZ_bound goodO (cor_good g3 k) (cor_good g3 (k + 1)))
  obtain ⟨E, hE0⟩ : ∃ E, areaZ l = E := ⟨_, rfl⟩
  rw [hE0]
  have HT := Lib.hid hE0
  clear hE0 h1 g3 g4
  go_enter Try.func40, Try.ntmps40
  go_wp2_with (first | (go_at_call 42; with_reducible refine Calls.mono (HC.out _ (by (repeat (first | with_reducible exact Ext.rfl' _ | with_reducible assumption | with_reducible refine Ext.al ?_ _ | with_reducible refine Ext.dr ?_ | with_reducible refine Ext.st ?_ (by simp) _ | with_reducible refine Ext.tr ?_ (by assumption))))) ?_; rintro e w1 ⟨rfl, hb⟩; have hc := hb.ccell; have hf := hb.frz; have hs := hb.sz; (try simp at hs); (try have hs0 := hs w.heap.size (by omega)); (try have hs1 := hs (w.heap.size + 1) (by omega)); (try have hs2 := hs (w.heap.size + 1 + 1) (by omega)); (try have hs3 := hs (w.heap.size + 1 + 1 + 1) (by omega))) | (go_at_call 89; refine Calls.mono (HSD.out _ (by (repeat (first | with_reducible exact Ext.rfl' _ | with_reducible assumption | with_reducible refine Ext.al ?_ _ | with_reducible refine Ext.dr ?_ | with_reducible refine Ext.st ?_ (by simp) _ | with_reducible refine Ext.tr ?_ (by assumption))))) ?_; rintro e wS ⟨g, rfl, hbS, hrow⟩))
  have hE : Ext w wS := by (repeat (first | with_reducible exact Ext.rfl' _ | with_reducible assumption | with_reducible refine Ext.al ?_ _ | with_reducible refine Ext.dr ?_ | with_reducible refine Ext.st ?_ (by simp) _ | with_reducible refine Ext.tr ?_ (by assumption)))
  have HROW := Lib.hid hrow
  clear hrow hbS hb hc hf hs
  go_loopw [5, 7, 16] (fun s _ i wr => Ext wS wr ∧ ∃ k : Nat, k ≤ l.length ∧ i = .int .i64 k ∧ ∃ z : Int, s = .int .i64 z ∧ Hid (sumN (fun i => crossZ O (cor l i) (cor l (i + 1))) k = z)) (fun _ _ i _ => l.length - (intOf i).toNat)
  case atStart => exact ⟨Ext.rfl' _, 0, Nat.zero_le _, rfl, 0, rfl, rfl⟩
  case round =>
    obtain ⟨hr, k, hk, rfl, z, rfl, hZ⟩ := hrel
    by_cases hlt : k < l.length
    · obtain ⟨hgs, hcell⟩ := HROW.out.r4 hlt
      have c := hcell _ hr
      simp only [Nat.zero_add] at c
      have hzg := hr.sz _ hgs
      clear hcell
      have HX := Lib.hid (HCR.out k)
      have b1 := HBD.out k
      rw [hZ.out] at b1
      have b2 := HZB.out k
      have HZ2 : Hid (sumN (fun i => crossZ O (cor l i) (cor l (i + 1))) (k + 1) = z + crossZ O (cor l k) (cor l (k + 1))) := by
        show sumN _ (k + 1) = _; rw [sumN, hZ.out]
      generalize crossZ O (cor l k) (cor l (k + 1)) = q at HX b2 HZ2
      have b3 : -320000000000000 ≤ z ∧ z ≤ 320000000000000 := by omega
      obtain ⟨b3, b4⟩ := b3
      obtain ⟨b5, b6⟩ := b2
      clear b1
      go_wp2_with (first | (go_at_call 74; with_reducible refine Calls.mono (HX.out _) ?_; rintro e w1 ⟨rfl, hb⟩; have hc := hb.ccell; have hf := hb.frz; have hs := hb.sz; (try simp at hs); (try have hs0 := hs w.heap.size (by omega)); (try have hs1 := hs (w.heap.size + 1) (by omega)); (try have hs2 := hs (w.heap.size + 1 + 1) (by omega)); (try have hs3 := hs (w.heap.size + 1 + 1 + 1) (by omega))))
      exact ⟨⟨by (repeat (first | with_reducible exact Ext.rfl' _ | with_reducible assumption | with_reducible refine Ext.al ?_ _ | with_reducible refine Ext.dr ?_ | with_reducible refine Ext.st ?_ (by simp) _ | with_reducible refine Ext.tr ?_ (by assumption))), k + 1, by omega, by go_num, z + q, rfl, HZ2⟩, by simp [intOf]; omega⟩
    · have hkl : k = l.length := by omega
      have hz := hZ.out
      rw [hkl, show sumN (fun i => crossZ O (cor l i) (cor l (i + 1))) l.length = areaZ l from rfl, HT.out] at hz
      subst hz
      clear hZ
      go_wp2_with (first | (go_at_call 90; refine Calls.mono (size_c _ _) ?_; rintro e w' ⟨rfl, rfl⟩))
      go_ret2
      exact ⟨rfl, by (repeat (first | with_reducible exact Ext.rfl' _ | with_reducible assumption | with_reducible refine Ext.al ?_ _ | with_reducible refine Ext.dr ?_ | with_reducible refine Ext.st ?_ (by simp) _ | with_reducible refine Ext.tr ?_ (by assumption)))⟩

set_option maxHeartbeats 2000000 in
theorem rarea_c (l : List Pt) (w : World) (A : Option Addr) (c : Nat) (h0 : 0 < l.length) (hl : l.length ≤ 40) (hg : allGood l = true) (hA : Row 2 encP w A l) :
    Calls Try.prog 43 #[.slice A l.length c] w
      fun e w' => e = .returned (.int .i64 (absW (areaZ l))) ∧ Ext w w' := by
  have hl' : l.length ≤ 1000 := by omega
  have HCO := Lib.hid (fun i (hi : i ≤ 100000) w' (hw : Ext w w') z hz => rcornerI_c l i w' A c z h0 hl' hi (hA.ext hw) hz)
  have HBD := Lib.hid (fun k => area_boundR hg k)
  have HCR := Lib.hid (fun k w => by
    have h := rcross_c (cor l 0).x (cor l 0).y (cor l k).x (cor l k).y (cor l (k + 1)).x (cor l (k + 1)).y w
    rw [show crossW ⟨(cor l 0).x, (cor l 0).y⟩ ⟨(cor l k).x, (cor l k).y⟩ ⟨(cor l (k + 1)).x, (cor l (k + 1)).y⟩ = crossZ (cor l 0) (cor l k) (cor l (k + 1)) from crossW_good (cor_good hg _) (cor_good hg _) (cor_good hg _)] at h
    exact h)
  have HZB := Lib.hid (fun k => crossZ_bound (cor_good hg 0) (cor_good hg k) (cor_good hg (k + 1)))
  have HC0 := Lib.hid (cor_lt l 0 h0)
  obtain ⟨E, hE0⟩ : ∃ E, areaZ l = E := ⟨_, rfl⟩
  rw [hE0]
  rw [← area_first] at hE0
  have HT := Lib.hid hE0
  clear hE0
  go_enter Try.func43, Try.ntmps43
  go_wp2
  go_loopw [3, 4] (fun s i wr => Ext w wr ∧ ∃ k : Nat, k ≤ l.length ∧ i = .int .i64 k ∧ ∃ z : Int, s = .int .i64 z ∧ Hid (sumN (fun i => crossZ (cor l 0) (cor l i) (cor l (i + 1))) k = z)) (fun _ i _ => l.length - (intOf i).toNat)
  case atStart => exact ⟨Ext.rfl' _, 0, Nat.zero_le _, rfl, 0, rfl, rfl⟩
  case round =>
    obtain ⟨hr, k, hk, rfl, z, rfl, hZ⟩ := hrel
    by_cases hlt : k < l.length
    · obtain ⟨b, off, rfl, hb0, hcell⟩ := hA.p2 h0
      have c := hcell _ hr
      simp only [Nat.zero_mul, Nat.add_zero] at c
      rw [← HC0.out] at c
      have hzb := hr.sz _ hb0
      clear hcell
      have HX := Lib.hid (HCR.out k)
      have HCk := Lib.hid (fun w' hw z hz => HCO.out k (by omega) w' hw z hz)
      have HCn := Lib.hid (fun w' hw z hz => HCO.out (k + 1) (by omega) w' hw z hz)
      have b1 := HBD.out k
      rw [hZ.out] at b1
      have b2 := HZB.out k
      have HZ2 : Hid (sumN (fun i => crossZ (cor l 0) (cor l i) (cor l (i + 1))) (k + 1) = z + crossZ (cor l 0) (cor l k) (cor l (k + 1))) := by
        show sumN _ (k + 1) = _; rw [sumN, hZ.out]
      generalize crossZ (cor l 0) (cor l k) (cor l (k + 1)) = q at HX b2 HZ2
      have b3 : -320000000000000 ≤ z ∧ z ≤ 320000000000000 := by omega
      obtain ⟨b3, b4⟩ := b3
      obtain ⟨b5, b6⟩ := b2
      clear b1
      go_wp2_with fail
      refine region_grow (by kernel_rfl) (by kernel_rfl) ?_
      repeat (first | go_big_quiet_step (first | (go_at_call 91; with_reducible exact callsGrow (HCk.out _ (hr.tr (Grow.ok _)) _ (by omega))) | (go_at_call 91; with_reducible exact callsGrow (HCn.out _ (hr.tr (Grow.ok _)) _ (by first | omega | (rw [i64_in _ (by omega)]; omega)))) | (go_at_call 27; with_reducible exact callsGrow (HX.out _)) | fail) | quiet_step (first | (go_at_call 91; with_reducible exact callsGrow (HCk.out _ (hr.tr (Grow.ok _)) _ (by omega))) | (go_at_call 91; with_reducible exact callsGrow (HCn.out _ (hr.tr (Grow.ok _)) _ (by first | omega | (rw [i64_in _ (by omega)]; omega)))) | (go_at_call 27; with_reducible exact callsGrow (HX.out _)) | fail))
      refine wpQuiet_nil ?_
      intro w1 hb
      have hc := hb.ccell
      have hf := hb.frz
      have hs := hb.sz
      (try simp at hs); (try have hs0 := hs w.heap.size (by omega)); (try have hs1 := hs (w.heap.size + 1) (by omega)); (try have hs2 := hs (w.heap.size + 1 + 1) (by omega)); (try have hs3 := hs (w.heap.size + 1 + 1 + 1) (by omega))
      (try simp only [IntWalk.i64_left])
      go_wp2
      exact ⟨⟨by (repeat (first | with_reducible exact Ext.rfl' _ | with_reducible assumption | with_reducible refine Ext.al ?_ _ | with_reducible refine Ext.dr ?_ | with_reducible refine Ext.st ?_ (by simp) _ | with_reducible refine Ext.tr ?_ (by assumption))), k + 1, by omega, by go_num, z + q, by go_num, HZ2⟩, by simp [intOf]; omega⟩
    · have hkl : k = l.length := by omega
      have hz := hZ.out
      rw [hkl, HT.out] at hz
      subst hz
      clear hZ
      go_wp2_with (first | (go_at_call 71; refine Calls.mono (abs_c _ _) ?_; rintro e w' ⟨rfl, rfl⟩))
      go_ret
      exact ⟨rfl, by (repeat (first | with_reducible exact Ext.rfl' _ | with_reducible assumption | with_reducible refine Ext.al ?_ _ | with_reducible refine Ext.dr ?_ | with_reducible refine Ext.st ?_ (by simp) _ | with_reducible refine Ext.tr ?_ (by assumption)))⟩
end Go.Proofs.Ytcdbekmcobghbaa

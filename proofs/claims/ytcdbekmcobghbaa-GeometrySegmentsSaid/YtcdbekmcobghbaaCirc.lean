/- Contracts of the reference's functions on circles. -/
import Derived.Test.YtcdbekmcobghbaaTri2
import Derived.Test.YtcdbekmcobghbaaPure4
namespace Go.Proofs.Ytcdbekmcobghbaa
open Go Go.RowKit

set_option maxHeartbeats 1000000 in
theorem rincircle_c (ax ay bx by_ cx cy dx dy : Int) (w : World) :
    Calls Try.prog 39 #[.agg #[.int .i64 ax, .int .i64 ay], .agg #[.int .i64 bx, .int .i64 by_], .agg #[.int .i64 cx, .int .i64 cy], .agg #[.int .i64 dx, .int .i64 dy]] w
      fun e w' => e = .returned (.int .i64 (wrap64 (cmpI (detW ⟨ax, ay⟩ ⟨bx, by_⟩ ⟨cx, cy⟩ ⟨dx, dy⟩) 0 * cmpI (crossW ⟨ax, ay⟩ ⟨bx, by_⟩ ⟨cx, cy⟩) 0))) ∧ Ext w w' := by
  go_enter Try.func39, Try.ntmps39
  go_wp2_with fail
  refine region_grow (by kernel_rfl) (by kernel_rfl) ?_
  repeat (first | go_big_quiet_step (first | (go_at_call 79; exact callsStay (rsign_c _ _)) | (go_at_call 28; exact callsGrow (rorient_c _ _ _ _ _ _ _)) | fail) | quiet_step (first | (go_at_call 79; exact callsStay (rsign_c _ _)) | (go_at_call 28; exact callsGrow (rorient_c _ _ _ _ _ _ _)) | fail))
  refine wpQuiet_nil ?_
  intro w1 hb
  have hc := hb.ccell
  have hf := hb.frz
  have hs := hb.sz
  (try simp at hs); (try have hs0 := hs w.heap.size (by omega)); (try have hs1 := hs (w.heap.size + 1) (by omega)); (try have hs2 := hs (w.heap.size + 1 + 1) (by omega)); (try have hs3 := hs (w.heap.size + 1 + 1 + 1) (by omega))
  (try simp only [IntWalk.i64_left])
  go_wp2_with fail
  refine region_grow (by kernel_rfl) (by kernel_rfl) ?_
  repeat (first | go_big_quiet_step (first | (go_at_call 79; exact callsStay (rsign_c _ _)) | (go_at_call 28; exact callsGrow (rorient_c _ _ _ _ _ _ _)) | fail) | quiet_step (first | (go_at_call 79; exact callsStay (rsign_c _ _)) | (go_at_call 28; exact callsGrow (rorient_c _ _ _ _ _ _ _)) | fail))
  refine wpQuiet_nil ?_
  intro w1 hb
  have hc := hb.ccell
  have hf := hb.frz
  have hs := hb.sz
  (try simp at hs); (try have hs0 := hs w.heap.size (by omega)); (try have hs1 := hs (w.heap.size + 1) (by omega)); (try have hs2 := hs (w.heap.size + 1 + 1) (by omega)); (try have hs3 := hs (w.heap.size + 1 + 1 + 1) (by omega))
  (try simp only [IntWalk.i64_left])
  go_wp2
  go_ret
  exact ⟨rfl, by (repeat (first | with_reducible exact Ext.rfl' _ | with_reducible assumption | with_reducible refine Ext.al ?_ _ | with_reducible refine Ext.dr ?_ | with_reducible refine Ext.st ?_ (by simp) _ | with_reducible refine Ext.tr ?_ (by assumption)))⟩

def nearR (p q : Pt) : Bool := decide (absW (wrap64 (p.x - q.x)) ≤ 20000) && decide (absW (wrap64 (p.y - q.y)) ≤ 20000)
def CloseUpto (l : List Pt) (n : Nat) : Prop := ∀ i j (hi : i < l.length) (hj : j < i), i < n → nearR l[i] (l[j]'(by omega)) = true
def CloseRow (l : List Pt) (k n : Nat) (hk : k < l.length) : Prop := ∀ j (hj : j < k), j < n → nearR l[k] (l[j]'(by omega)) = true
open Classical in
noncomputable def closeR (l : List Pt) : Bool := decide (CloseUpto l l.length)

theorem rclose_c (l : List Pt) (w : World) (A : Option Addr) (c : Nat) (hl : l.length ≤ maxLen) (hA : Row 2 encP w A l) :
    Calls Try.prog 38 #[.slice A l.length c] w
      fun e w' => e = .returned (.bool (closeR l)) ∧ Ext w w' := by
  unfold maxLen at hl
  go_enter Try.func38, Try.ntmps38
  go_wp2
  go_loopw [3, 4] (fun i _ wr => Ext w wr ∧ ∃ k : Nat, k ≤ l.length ∧ i = .int .i64 k ∧ Hid (CloseUpto l k)) (fun i _ _ => l.length - (intOf i).toNat)
  case atStart => exact ⟨Ext.rfl' _, 0, Nat.zero_le _, rfl, fun _ _ _ _ h => absurd h (by omega)⟩
  case round =>
    obtain ⟨hE, k, hk, rfl, hK⟩ := hrel
    by_cases hlt : k < l.length
    · obtain ⟨b, off, rfl, hb0, hcell⟩ := hA.p2 hlt
      go_wp2
      obtain ⟨wo, rfl⟩ : ∃ wo : World, wo = wr := ⟨_, rfl⟩
      go_loopw [4] (fun i wi => Ext wo wi ∧ ∃ j : Nat, j ≤ k ∧ i = .int .i64 j ∧ Hid (CloseRow l k j hlt)) (fun i _ => k - (intOf i).toNat)
      case atStart => exact ⟨Ext.rfl' _, 0, Nat.zero_le _, rfl, fun _ _ h => absurd h (by omega)⟩
      case round =>
        obtain ⟨hE2, j, hj, rfl, hJ⟩ := hrel
        have hE3 : Ext w wr := hE.tr hE2
        by_cases hlt2 : j < k
        · obtain ⟨b', off', hbb, hb0', hcell'⟩ := hA.p2 (show j < l.length by omega)
          injection hbb with hbb
          injection hbb with hb1 hb2
          subst hb1 hb2
          have c := hcell _ hE3
          have c' := hcell' _ hE3
          have hz' := hE3.sz _ hb0
          clear hcell hcell'
          have hnear : nearR l[k] l[j] = (decide (absW (wrap64 (l[k].x - l[j].x)) ≤ 20000) && decide (absW (wrap64 (l[k].y - l[j].y)) ≤ 20000)) := rfl
          have HG := Lib.hid hnear; clear hnear
          cases h1 : decide (20000 < absW (wrap64 (l[k].x - l[j].x))) <;> cases h2 : decide (20000 < absW (wrap64 (l[k].y - l[j].y)))
          all_goals
            have H1 := Lib.hid h1
            have H2 := Lib.hid h2
            go_wp2_with fail
            refine region_grow (by kernel_rfl) (by kernel_rfl) ?_
            repeat (first | go_big_quiet_step (first | (go_at_call 71; exact callsStay (abs_c _ _)) | fail) | quiet_step (first | (go_at_call 71; exact callsStay (abs_c _ _)) | fail))
            refine wpQuiet_nil ?_
            intro w1 hb
            have hc := hb.ccell
            have hf := hb.frz
            have hs := hb.sz
            (try simp at hs); (try have hs0 := hs w.heap.size (by omega)); (try have hs1 := hs (w.heap.size + 1) (by omega)); (try have hs2 := hs (w.heap.size + 1 + 1) (by omega)); (try have hs3 := hs (w.heap.size + 1 + 1 + 1) (by omega))
            (try simp only [IntWalk.i64_left])
            go_wp2
          · refine ⟨⟨by (repeat (first | with_reducible exact Ext.rfl' _ | with_reducible assumption | with_reducible refine Ext.al ?_ _ | with_reducible refine Ext.dr ?_ | with_reducible refine Ext.st ?_ (by simp) _ | with_reducible refine Ext.tr ?_ (by assumption))), j + 1, by omega, by go_num, ?_⟩, by simp [intOf]; omega⟩
            intro j' hj' hlt'
            by_cases he : j' = j
            · subst he
              have a1 := H1.out
              have a2 := H2.out
              rw [decide_eq_false_iff_not] at a1 a2
              rw [HG.out]
              simp; omega
            · exact hJ.out j' hj' (by omega)
          all_goals
            go_ret
            refine ⟨ret_bool ?_, by (repeat (first | with_reducible exact Ext.rfl' _ | with_reducible assumption | with_reducible refine Ext.al ?_ _ | with_reducible refine Ext.dr ?_ | with_reducible refine Ext.st ?_ (by simp) _ | with_reducible refine Ext.tr ?_ (by assumption)))⟩
            have hno : ¬ CloseUpto l l.length := by
              intro h
              have a := h k j hlt (by omega) hlt
              rw [HG.out] at a
              have a1 := H1.out
              have a2 := H2.out
              simp at a a1 a2
              omega
            simp [closeR, hno]
        · go_wp2
          have hd := hJ.out
          refine ⟨⟨by (repeat (first | with_reducible exact Ext.rfl' _ | with_reducible assumption | with_reducible refine Ext.al ?_ _ | with_reducible refine Ext.dr ?_ | with_reducible refine Ext.st ?_ (by simp) _ | with_reducible refine Ext.tr ?_ (by assumption))), k + 1, by omega, by go_num, ?_⟩, by simp [intOf]; omega⟩
          intro i' j' hi' hj' hlt'
          by_cases he : i' = k
          · subst he
            exact hd j' hj' (by omega)
          · exact hK.out i' j' hi' hj' (by omega)
    · go_wp2
      go_ret
      refine ⟨ret_bool ?_, by (repeat (first | with_reducible exact Ext.rfl' _ | with_reducible assumption | with_reducible refine Ext.al ?_ _ | with_reducible refine Ext.dr ?_ | with_reducible refine Ext.st ?_ (by simp) _ | with_reducible refine Ext.tr ?_ (by assumption)))⟩
      have hy : CloseUpto l l.length := fun i' j' hi' hj' hlt' => hK.out i' j' hi' hj' (by omega)
      simp [closeR, hy]

end Go.Proofs.Ytcdbekmcobghbaa

/- Contracts of the reference's corner, of foldBack, clash and sidesClash. -/
import Derived.Test.YtgnakeemcccfjaaGreatSide
namespace Go.Proofs.YtgnakeemcccfjaaGreat
open Go Go.RowKit Go.IntWalk

theorem rcorner_c (l : List Pt) (i : Nat) (w : World) (A : Option Addr) (c : Nat) (h0 : 0 < l.length) (hl : l.length ≤ 1000) (_hi : i ≤ 100000) (hA : Row 2 encP w A l) :
    Calls Tryz.prog 39 #[.slice A l.length c, .int .i64 i] w
      fun e w' => e = .returned (.agg #[.int .i64 (cor l i).x, .int .i64 (cor l i).y]) ∧ Ext w w' := by
  have hm : i % l.length < l.length := Nat.mod_lt _ h0
  have hc : cor l i = l[i % l.length] := by rw [← cor_lt l _ hm]; unfold cor; rw [Nat.mod_mod]
  rw [hc]
  obtain ⟨b, off, rfl, hb0, hcell⟩ := hA.p2 hm
  have c := hcell _ (Ext.rfl' w)
  clear hcell hc hA
  have hr := rem_nat i l.length
  generalize i % l.length = k at *
  have hne : ¬ (l.length : Int) = 0 := by omega
  go_enter Tryz.func39, Tryz.ntmps39
  go_wp2
  refine bodyPost_ret (v := .agg #[.int .i64 l[k].x, .int .i64 l[k].y]) (by simp [results, Tryz.results39, go_sem]) rfl ⟨rfl, ?_⟩
  (repeat (first | with_reducible exact Ext.rfl' _ | with_reducible assumption | with_reducible refine Ext.al ?_ _ | with_reducible refine Ext.dr ?_ | with_reducible refine Ext.st ?_ (by simp) _ | with_reducible refine Ext.tr ?_ (by assumption)))

set_option maxHeartbeats 1000000 in
theorem foldBack_c (ax ay bx by_ cx cy dx dy : Int) (w : World) :
    Calls Tryz.prog 142 #[.agg #[.int .i64 ax, .int .i64 ay, .int .i64 bx, .int .i64 by_], .agg #[.int .i64 cx, .int .i64 cy, .int .i64 dx, .int .i64 dy]] w
      fun e w' => e = .returned (.bool (foldG betweenG ⟨ax, ay⟩ ⟨bx, by_⟩ ⟨cx, cy⟩ ⟨dx, dy⟩)) ∧ Ext w w' := by
  unfold foldG
  have HB1 := Lib.hid (fun w => between_c ax ay bx by_ dx dy w)
  have HB2 := Lib.hid (fun w => between_c cx cy dx dy ax ay w)
  generalize betweenG ⟨ax, ay⟩ ⟨bx, by_⟩ ⟨dx, dy⟩ = r1 at *
  generalize betweenG ⟨cx, cy⟩ ⟨dx, dy⟩ ⟨ax, ay⟩ = r2 at *
  cases r1
  · go_enter Tryz.func142, Tryz.ntmps142
    go_wp2_with (first | (go_at_call 105; with_reducible refine Calls.mono (HB1.out _) ?_; rintro e w1 ⟨rfl, hb⟩; have hc := hb.ccell; have hf := hb.frz; have hs := hb.sz; (try simp at hs); (try have hs0 := hs w.heap.size (by omega)); (try have hs1 := hs (w.heap.size + 1) (by omega)); (try have hs2 := hs (w.heap.size + 1 + 1) (by omega)); (try have hs3 := hs (w.heap.size + 1 + 1 + 1) (by omega))) | (go_at_call 105; with_reducible refine Calls.mono (HB2.out _) ?_; rintro e w1 ⟨rfl, hb⟩; have hc := hb.ccell; have hf := hb.frz; have hs := hb.sz; (try simp at hs); (try have hs0 := hs w.heap.size (by omega)); (try have hs1 := hs (w.heap.size + 1) (by omega)); (try have hs2 := hs (w.heap.size + 1 + 1) (by omega)); (try have hs3 := hs (w.heap.size + 1 + 1 + 1) (by omega))))
    go_ret
    exact ⟨by simp, by (repeat (first | with_reducible exact Ext.rfl' _ | with_reducible assumption | with_reducible refine Ext.al ?_ _ | with_reducible refine Ext.dr ?_ | with_reducible refine Ext.st ?_ (by simp) _ | with_reducible refine Ext.tr ?_ (by assumption)))⟩
  · go_enter Tryz.func142, Tryz.ntmps142
    go_wp2_with (first | (go_at_call 105; with_reducible refine Calls.mono (HB1.out _) ?_; rintro e w1 ⟨rfl, hb⟩; have hc := hb.ccell; have hf := hb.frz; have hs := hb.sz; (try simp at hs); (try have hs0 := hs w.heap.size (by omega)); (try have hs1 := hs (w.heap.size + 1) (by omega)); (try have hs2 := hs (w.heap.size + 1 + 1) (by omega)); (try have hs3 := hs (w.heap.size + 1 + 1 + 1) (by omega))))
    go_ret
    exact ⟨by simp, by (repeat (first | with_reducible exact Ext.rfl' _ | with_reducible assumption | with_reducible refine Ext.al ?_ _ | with_reducible refine Ext.dr ?_ | with_reducible refine Ext.st ?_ (by simp) _ | with_reducible refine Ext.tr ?_ (by assumption)))⟩

theorem Row.r4 {w : World} {b off : Nat} {l : List Pt} (h : Row 4 encS w (some ⟨b, off, none⟩) (edges l)) {k : Nat} (hk : k < l.length) :
    b < w.heap.size ∧ ∀ w', Ext w w' → w'.cell? ⟨b, off + k * 4, none⟩ = some (.int .i64 (cor l k).x) ∧ w'.cell? ⟨b, off + k * 4 + 1, none⟩ = some (.int .i64 (cor l k).y) ∧ w'.cell? ⟨b, off + k * 4 + 2, none⟩ = some (.int .i64 (cor l (k + 1)).x) ∧ w'.cell? ⟨b, off + k * 4 + 3, none⟩ = some (.int .i64 (cor l (k + 1)).y) := by
  obtain ⟨b', off', h1, h2, h3⟩ := h.addr (by rw [edges_len]; omega)
  injection h1 with h1
  injection h1 with h1 h1'
  subst h1 h1'
  refine ⟨h2, fun w' hw => ?_⟩
  have h4 := h3 w' hw k (by rw [edges_len]; exact hk)
  rw [edges_get] at h4
  exact ⟨h4 0 _ rfl, h4 1 _ rfl, h4 2 _ rfl, h4 3 _ rfl⟩

set_option maxHeartbeats 1000000 in
theorem clash_c (l : List Pt) (j i : Nat) (w : World) (g c : Nat) (hl : l.length ≤ 1000) (hj : j < i) (hi : i < l.length) (hA : Row 4 encS w (some ⟨g, 0, none⟩) (edges l)) :
    Calls Tryz.prog 119 #[.slice (some ⟨g, 0, none⟩) l.length c, .int .i64 j, .int .i64 i] w
      fun e w' => e = .returned (.bool (clashG meetG betweenG l j i)) ∧ Ext w w' := by
  obtain ⟨hb0, hcj⟩ := hA.r4 (show j < l.length by omega)
  have c1 := hcj _ (Ext.rfl' w)
  have c2 := (hA.r4 hi).2 _ (Ext.rfl' w)
  simp only [Nat.zero_add] at c1 c2
  clear hcj hA
  unfold clashG
  have HF1 := Lib.hid (fun w => foldBack_c (cor l j).x (cor l j).y (cor l (j + 1)).x (cor l (j + 1)).y (cor l i).x (cor l i).y (cor l (i + 1)).x (cor l (i + 1)).y w)
  have HF2 := Lib.hid (fun w => foldBack_c (cor l i).x (cor l i).y (cor l (i + 1)).x (cor l (i + 1)).y (cor l j).x (cor l j).y (cor l (j + 1)).x (cor l (j + 1)).y w)
  have HM := Lib.hid (fun w => meet_c (cor l j).x (cor l j).y (cor l (j + 1)).x (cor l (j + 1)).y (cor l i).x (cor l i).y (cor l (i + 1)).x (cor l (i + 1)).y w)
  generalize cor l j = p at *
  generalize cor l (j + 1) = q at *
  generalize cor l i = r at *
  generalize cor l (i + 1) = s at *
  by_cases h1 : i = j + 1
  · rw [if_pos h1]
    have h1a : (i : Int) ≤ (j : Int) + 1 := by omega
    have h1b : (j : Int) + 1 ≤ (i : Int) := by omega
    clear h1
    go_enter Tryz.func119, Tryz.ntmps119
    go_wp2_with fail
    refine region_grow (by kernel_rfl) (by kernel_rfl) ?_
    repeat (first | go_big_quiet_step (first | (go_at_call 142; with_reducible exact callsGrow (HF1.out _)) | fail) | quiet_step (first | (go_at_call 142; with_reducible exact callsGrow (HF1.out _)) | fail))
    refine wpQuiet_nil ?_
    intro w1 hb
    have hc := hb.ccell
    have hf := hb.frz
    have hs := hb.sz
    (try simp at hs); (try have hs0 := hs w.heap.size (by omega)); (try have hs1 := hs (w.heap.size + 1) (by omega)); (try have hs2 := hs (w.heap.size + 1 + 1) (by omega)); (try have hs3 := hs (w.heap.size + 1 + 1 + 1) (by omega))
    (try simp only [IntWalk.i64_left])
    go_wp2
    go_ret
    exact ⟨rfl, by (repeat (first | with_reducible exact Ext.rfl' _ | with_reducible assumption | with_reducible refine Ext.al ?_ _ | with_reducible refine Ext.dr ?_ | with_reducible refine Ext.st ?_ (by simp) _ | with_reducible refine Ext.tr ?_ (by assumption)))⟩
  · rw [if_neg h1]
    have h1' : ¬ (i : Int) = (j : Int) + 1 := by omega
    by_cases h2 : j = 0 ∧ i + 1 = l.length
    · rw [if_pos h2]
      have h2a : (i : Int) ≤ (l.length : Int) - 1 := by omega
      have h2b : (l.length : Int) - 1 ≤ (i : Int) := by omega
      obtain ⟨rfl, _⟩ := h2
      rename_i h2c
      clear h2c
      go_enter Tryz.func119, Tryz.ntmps119
      go_wp2_with fail
      refine region_grow (by kernel_rfl) (by kernel_rfl) ?_
      repeat (first | go_big_quiet_step (first | (go_at_call 142; with_reducible exact callsGrow (HF2.out _)) | fail) | quiet_step (first | (go_at_call 142; with_reducible exact callsGrow (HF2.out _)) | fail))
      refine wpQuiet_nil ?_
      intro w1 hb
      have hc := hb.ccell
      have hf := hb.frz
      have hs := hb.sz
      (try simp at hs); (try have hs0 := hs w.heap.size (by omega)); (try have hs1 := hs (w.heap.size + 1) (by omega)); (try have hs2 := hs (w.heap.size + 1 + 1) (by omega)); (try have hs3 := hs (w.heap.size + 1 + 1 + 1) (by omega))
      (try simp only [IntWalk.i64_left])
      go_wp2
      go_ret
      exact ⟨rfl, by (repeat (first | with_reducible exact Ext.rfl' _ | with_reducible assumption | with_reducible refine Ext.al ?_ _ | with_reducible refine Ext.dr ?_ | with_reducible refine Ext.st ?_ (by simp) _ | with_reducible refine Ext.tr ?_ (by assumption)))⟩
    · rw [if_neg h2]
      by_cases h3 : j = 0
      · subst h3
        have h2' : ¬ (i : Int) = (l.length : Int) - 1 := by omega
        go_enter Tryz.func119, Tryz.ntmps119
        go_wp2_with fail
        refine region_grow (by kernel_rfl) (by kernel_rfl) ?_
        repeat (first | go_big_quiet_step (first | (go_at_call 143; with_reducible exact callsGrow (HM.out _)) | fail) | quiet_step (first | (go_at_call 143; with_reducible exact callsGrow (HM.out _)) | fail))
        refine wpQuiet_nil ?_
        intro w1 hb
        have hc := hb.ccell
        have hf := hb.frz
        have hs := hb.sz
        (try simp at hs); (try have hs0 := hs w.heap.size (by omega)); (try have hs1 := hs (w.heap.size + 1) (by omega)); (try have hs2 := hs (w.heap.size + 1 + 1) (by omega)); (try have hs3 := hs (w.heap.size + 1 + 1 + 1) (by omega))
        (try simp only [IntWalk.i64_left])
        go_wp2
        go_ret
        exact ⟨rfl, by (repeat (first | with_reducible exact Ext.rfl' _ | with_reducible assumption | with_reducible refine Ext.al ?_ _ | with_reducible refine Ext.dr ?_ | with_reducible refine Ext.st ?_ (by simp) _ | with_reducible refine Ext.tr ?_ (by assumption)))⟩
      · have h2' : ¬ (j : Int) = 0 := by omega
        go_enter Tryz.func119, Tryz.ntmps119
        go_wp2_with fail
        refine region_grow (by kernel_rfl) (by kernel_rfl) ?_
        repeat (first | go_big_quiet_step (first | (go_at_call 143; with_reducible exact callsGrow (HM.out _)) | fail) | quiet_step (first | (go_at_call 143; with_reducible exact callsGrow (HM.out _)) | fail))
        refine wpQuiet_nil ?_
        intro w1 hb
        have hc := hb.ccell
        have hf := hb.frz
        have hs := hb.sz
        (try simp at hs); (try have hs0 := hs w.heap.size (by omega)); (try have hs1 := hs (w.heap.size + 1) (by omega)); (try have hs2 := hs (w.heap.size + 1 + 1) (by omega)); (try have hs3 := hs (w.heap.size + 1 + 1 + 1) (by omega))
        (try simp only [IntWalk.i64_left])
        go_wp2
        go_ret
        exact ⟨rfl, by (repeat (first | with_reducible exact Ext.rfl' _ | with_reducible assumption | with_reducible refine Ext.al ?_ _ | with_reducible refine Ext.dr ?_ | with_reducible refine Ext.st ?_ (by simp) _ | with_reducible refine Ext.tr ?_ (by assumption)))⟩

theorem sidesClash_c (l : List Pt) (w : World) (A : Option Addr) (c : Nat) (hl : l.length ≤ 1000) (hA : Row 2 encP w A l) :
    Calls Tryz.prog 102 #[.slice A l.length c] w
      fun e w' => e = .returned (.bool (sidesG meetG betweenG l)) ∧ Ext w w' := by
  have HSD := Lib.hid (fun w' (hw : Ext w w') => sides_c l w' A c hl (hA.ext hw))
  obtain ⟨R, hR⟩ : ∃ R, sidesG meetG betweenG l = R := ⟨_, rfl⟩
  rw [hR]
  have HR := Lib.hid hR
  clear hR
  go_enter Tryz.func102, Tryz.ntmps102
  go_wp2_with (first | (go_at_call 104; refine Calls.mono (HSD.out _ (by (repeat (first | with_reducible exact Ext.rfl' _ | with_reducible assumption | with_reducible refine Ext.al ?_ _ | with_reducible refine Ext.dr ?_ | with_reducible refine Ext.st ?_ (by simp) _ | with_reducible refine Ext.tr ?_ (by assumption))))) ?_; rintro e w1 ⟨g, rfl, hb, hrow⟩))
  have HROW := Lib.hid hrow
  clear hrow
  go_loopw [4, 5, 10, 14] (fun _ _ i _ wr => Ext w1 wr ∧ ∃ k : Nat, k ≤ l.length ∧ i = .int .i64 k ∧ Hid (anyN (fun i => anyN (fun j => clashG meetG betweenG l j i) i) k = false)) (fun _ _ i _ _ => l.length - (intOf i).toNat)
  case atStart => exact ⟨Ext.rfl' _, 0, Nat.zero_le _, rfl, rfl⟩
  case round =>
    obtain ⟨hr, k, hk, rfl, hK⟩ := hrel
    by_cases hlt : k < l.length
    · go_wp2
      go_loopw [5, 14] (fun _ i wx => Ext w1 wx ∧ ∃ j : Nat, j ≤ k ∧ i = .int .i64 j ∧ Hid (anyN (fun j => clashG meetG betweenG l j k) j = false)) (fun _ i _ => k - (intOf i).toNat)
      case atStart => exact ⟨hr, 0, Nat.zero_le _, rfl, rfl⟩
      case round =>
        obtain ⟨hx, j, hj, rfl, hJ⟩ := hrel
        by_cases hlj : j < k
        · have HC := Lib.hid (fun w' (hw : Ext w1 w') => clash_c l j k w' g l.length hl hlj hlt (HROW.out.ext hw))
          cases hcl : clashG meetG betweenG l j k
          all_goals
            rw [hcl] at HC
            have HCL := Lib.hid hcl
            clear hcl
            go_wp2_with (first | (go_at_call 119; with_reducible refine Calls.mono (HC.out _ (by (repeat (first | with_reducible exact Ext.rfl' _ | with_reducible assumption | with_reducible refine Ext.al ?_ _ | with_reducible refine Ext.dr ?_ | with_reducible refine Ext.st ?_ (by simp) _ | with_reducible refine Ext.tr ?_ (by assumption))))) ?_; rintro e w1 ⟨rfl, hb⟩; have hc := hb.ccell; have hf := hb.frz; have hs := hb.sz; (try simp at hs); (try have hs0 := hs w.heap.size (by omega)); (try have hs1 := hs (w.heap.size + 1) (by omega)); (try have hs2 := hs (w.heap.size + 1 + 1) (by omega)); (try have hs3 := hs (w.heap.size + 1 + 1 + 1) (by omega))))
          · refine ⟨⟨by (repeat (first | with_reducible exact Ext.rfl' _ | with_reducible assumption | with_reducible refine Ext.al ?_ _ | with_reducible refine Ext.dr ?_ | with_reducible refine Ext.st ?_ (by simp) _ | with_reducible refine Ext.tr ?_ (by assumption))), j + 1, by omega, by go_num, ?_⟩, by simp [intOf]; omega⟩
            show anyN _ (j + 1) = false
            rw [anyN, hJ.out, HCL.out]; rfl
          · go_ret
            refine ⟨ret_bool ?_, by (repeat (first | with_reducible exact Ext.rfl' _ | with_reducible assumption | with_reducible refine Ext.al ?_ _ | with_reducible refine Ext.dr ?_ | with_reducible refine Ext.st ?_ (by simp) _ | with_reducible refine Ext.tr ?_ (by assumption)))⟩
            rw [← HR.out]
            exact (anyN_at (fun i => anyN (fun j => clashG meetG betweenG l j i) i) hlt (anyN_at (fun j => clashG meetG betweenG l j k) hlj HCL.out)).symm
        · have hjk : j = k := by omega
          subst hjk
          go_wp2
          refine ⟨⟨by (repeat (first | with_reducible exact Ext.rfl' _ | with_reducible assumption | with_reducible refine Ext.al ?_ _ | with_reducible refine Ext.dr ?_ | with_reducible refine Ext.st ?_ (by simp) _ | with_reducible refine Ext.tr ?_ (by assumption))), j + 1, by omega, by go_num, ?_⟩, by simp [intOf]; omega⟩
          show anyN _ (j + 1) = false
          rw [anyN, hK.out, hJ.out]; rfl
    · have : k = l.length := by omega
      subst this
      go_wp2
      go_ret
      exact ⟨ret_bool (by rw [← HR.out]; exact hK.out.symm), by (repeat (first | with_reducible exact Ext.rfl' _ | with_reducible assumption | with_reducible refine Ext.al ?_ _ | with_reducible refine Ext.dr ?_ | with_reducible refine Ext.st ?_ (by simp) _ | with_reducible refine Ext.tr ?_ (by assumption)))⟩
end Go.Proofs.YtgnakeemcccfjaaGreat

/- The contracts of CheckHopper, of the reference's. -/
import Derived.Test.YtmhmfjgahhgbpaaVleaf
namespace Go.Proofs.Ytmhmfjgahhgbpaa
open Go Go.RowKit Go.IntWalk

theorem lnE_bad {l : List Pt} {k : Nat} (h : lnB (gt l k) = false) : lnE l k = 2 := by unfold lnE; rw [if_pos h]
theorem lnE_first {l : List Pt} (h : lnB (gt l 0) = true) : lnE l 0 = 0 := by unfold lnE; rw [h, if_neg (by decide), if_neg (by omega)]
theorem lnE_next {l : List Pt} {j : Nat} (h : lnB (gt l (j + 1)) = true) : lnE l (j + 1) = if (gt l (j + 1)).x ≤ (gt l j).x ∨ (gt l (j + 1)).y < (gt l j).y then 9 else 0 := by
  unfold lnE
  rw [h, if_neg (by decide)]
  simp only [Nat.add_sub_cancel]
  by_cases h : (gt l (j + 1)).x ≤ (gt l j).x ∨ (gt l (j + 1)).y < (gt l j).y
  · rw [if_pos ⟨by omega, h⟩, if_pos h]
  · rw [if_neg (fun k => h k.2), if_neg h]

set_option maxHeartbeats 4000000 in
theorem checkLines_c (l : List Pt) (w : World) (A : Option Addr) (c : Nat) (hl : l.length ≤ 1000) (hA : Row 2 encP w A l) :
    Calls Try.prog 34 #[.slice A l.length c] w fun e w' => e = .returned (.int .i64 (firstE (lnE l) l.length)) ∧ Ext w w' := by
  obtain ⟨E, hE0⟩ : ∃ E, firstE (lnE l) l.length = E := ⟨_, rfl⟩
  rw [hE0]
  have HT := Lib.hid hE0
  clear hE0
  go_enter Try.func34, Try.ntmps34
  go_wp2
  go_loopw [3, 4, 7] (fun _ _ i wr => Ext w wr ∧ ∃ k : Nat, k ≤ l.length ∧ i = .int .i64 k ∧ Hid (firstE (lnE l) k = 0)) (fun _ _ i _ => l.length - (intOf i).toNat)
  case atStart => exact ⟨Ext.rfl' _, 0, Nat.zero_le _, rfl, rfl⟩
  case round =>
    obtain ⟨hE, k, hk, rfl, hF⟩ := hrel
    by_cases hlt : k < l.length
    · obtain ⟨b, off, rfl, hb0, hcell⟩ := hA.p2 hlt
      have c := hcell _ hE
      clear hcell
      have hz := hE.sz _ hb0
      have hg := gt_lt l k hlt
      have HX := Lib.hid (fun w => vin_c l[k].x 0 1000000000 w)
      have HY := Lib.hid (fun w => vDraught_c l[k].y w)
      cases hx : withinB l[k].x 0 1000000000
      · rw [hx] at HX
        have HE := Lib.hid (lnE_bad (l := l) (k := k) (by rw [hg]; unfold lnB; rw [hx]; rfl))
        clear hx hg
        go_wp2_with (first | (go_at_call 26; with_reducible refine Calls.mono (HX.out _) ?_; rintro e w' ⟨rfl, rfl⟩))
        go_ret
        exact ⟨ret_int (by rw [← HT.out, firstE_at hlt hF.out (by rw [HE.out]; decide), HE.out]), by (repeat (first | with_reducible exact Ext.rfl' _ | with_reducible assumption | with_reducible refine Ext.al ?_ _ | with_reducible refine Ext.dr ?_ | with_reducible refine Ext.st ?_ (by simp) _ | with_reducible refine Ext.tr ?_ (by assumption)))⟩
      rw [hx] at HX
      cases hy : withinB l[k].y 0 5000
      · rw [hy] at HY
        have HE := Lib.hid (lnE_bad (l := l) (k := k) (by rw [hg]; unfold lnB; rw [hx, hy]; rfl))
        clear hx hy hg
        go_wp2_with (first | (go_at_call 26; with_reducible refine Calls.mono (HX.out _) ?_; rintro e w' ⟨rfl, rfl⟩) | (go_at_call 28; with_reducible refine Calls.mono (HY.out _) ?_; rintro e w' ⟨rfl, rfl⟩))
        go_ret
        exact ⟨ret_int (by rw [← HT.out, firstE_at hlt hF.out (by rw [HE.out]; decide), HE.out]), by (repeat (first | with_reducible exact Ext.rfl' _ | with_reducible assumption | with_reducible refine Ext.al ?_ _ | with_reducible refine Ext.dr ?_ | with_reducible refine Ext.st ?_ (by simp) _ | with_reducible refine Ext.tr ?_ (by assumption)))⟩
      rw [hy] at HY
      have hok : lnB (gt l k) = true := by rw [hg]; unfold lnB; rw [hx, hy]; rfl
      clear hx hy
      rcases (by omega : (k : Int) ≤ 0 ∨ 0 < (k : Int)) with k0 | k0
      · have hk0 : k = 0 := by omega
        have HE : Hid (lnE l k = 0) := by subst hk0; exact lnE_first hok
        have HK0 := Lib.hid hk0
        have g0 : (0 < k) = False := eq_false (by omega)
        clear hok hg hk0
        go_upto_region 6 with (first | (go_at_call 26; with_reducible refine Calls.mono (HX.out _) ?_; rintro e w' ⟨rfl, rfl⟩) | (go_at_call 28; with_reducible refine Calls.mono (HY.out _) ?_; rintro e w' ⟨rfl, rfl⟩))
        refine region_grow (by kernel_rfl) (by kernel_rfl) ?_
        repeat (first | go_big_quiet_step (first  | fail) | quiet_step (first  | fail))
        refine wpQuiet_nil ?_
        intro w1 hb
        have hc := hb.ccell
        have hf := hb.frz
        have hs := hb.sz
        (try simp at hs); (try have hs0 := hs w.heap.size (by omega)); (try have hs1 := hs (w.heap.size + 1) (by omega)); (try have hs2 := hs (w.heap.size + 1 + 1) (by omega)); (try have hs3 := hs (w.heap.size + 1 + 1 + 1) (by omega))
        (try simp only [IntWalk.i64_left])
        go_wp2
        exact ⟨⟨by (repeat (first | with_reducible exact Ext.rfl' _ | with_reducible assumption | with_reducible refine Ext.al ?_ _ | with_reducible refine Ext.dr ?_ | with_reducible refine Ext.st ?_ (by simp) _ | with_reducible refine Ext.tr ?_ (by assumption))), k + 1, by omega, by go_num, firstE_step hF.out HE.out⟩, by simp [intOf]; omega⟩
      · obtain ⟨j, hj⟩ : ∃ j, k = j + 1 := ⟨k - 1, by omega⟩
        have hjl : j < l.length := by omega
        have g0 : (0 < k) = True := eq_true (by omega)
        have cj := hA.r2 hjl _ hE
        have hgj := gt_lt l j hjl
        have hjz : (k : Int) - 1 = (j : Int) := by omega
        have hA0 : lnE l k = if l[k].x ≤ l[j].x ∨ l[k].y < l[j].y then 9 else 0 := by
          rw [← hg, ← hgj]
          subst hj
          exact lnE_next hok
        have HE := Lib.hid hA0
        have HJ := Lib.hid hj
        clear hok hA0 hg hgj hj
        by_cases hle : l[k].x ≤ l[j].x
        · have HE9 := Lib.hid (show lnE l k = 9 by rw [HE.out, if_pos (.inl hle)])
          clear HE
          go_upto_region 6 with (first | (go_at_call 26; with_reducible refine Calls.mono (HX.out _) ?_; rintro e w' ⟨rfl, rfl⟩) | (go_at_call 28; with_reducible refine Calls.mono (HY.out _) ?_; rintro e w' ⟨rfl, rfl⟩))
          refine region_grow (by kernel_rfl) (by kernel_rfl) ?_
          repeat (first | go_big_quiet_step (first  | fail) | quiet_step (first  | fail))
          refine wpQuiet_nil ?_
          intro w1 hb
          have hc := hb.ccell
          have hf := hb.frz
          have hs := hb.sz
          (try simp at hs); (try have hs0 := hs w.heap.size (by omega)); (try have hs1 := hs (w.heap.size + 1) (by omega)); (try have hs2 := hs (w.heap.size + 1 + 1) (by omega)); (try have hs3 := hs (w.heap.size + 1 + 1 + 1) (by omega))
          (try simp only [IntWalk.i64_left])
          go_wp2
          go_ret
          exact ⟨ret_int (by rw [← HT.out, firstE_at hlt hF.out (by rw [HE9.out]; decide), HE9.out]), by (repeat (first | with_reducible exact Ext.rfl' _ | with_reducible assumption | with_reducible refine Ext.al ?_ _ | with_reducible refine Ext.dr ?_ | with_reducible refine Ext.st ?_ (by simp) _ | with_reducible refine Ext.tr ?_ (by assumption)))⟩
        · have hd1 : decide (l[k].x ≤ l[j].x) = false := decide_eq_false hle
          by_cases hly : l[k].y < l[j].y
          · have HE9 := Lib.hid (show lnE l k = 9 by rw [HE.out, if_pos (.inr hly)])
            clear HE
            go_upto_region 6 with (first | (go_at_call 26; with_reducible refine Calls.mono (HX.out _) ?_; rintro e w' ⟨rfl, rfl⟩) | (go_at_call 28; with_reducible refine Calls.mono (HY.out _) ?_; rintro e w' ⟨rfl, rfl⟩))
            refine region_grow (by kernel_rfl) (by kernel_rfl) ?_
            repeat (first | go_big_quiet_step (first  | fail) | quiet_step (first  | fail))
            refine wpQuiet_nil ?_
            intro w1 hb
            have hc := hb.ccell
            have hf := hb.frz
            have hs := hb.sz
            (try simp at hs); (try have hs0 := hs w.heap.size (by omega)); (try have hs1 := hs (w.heap.size + 1) (by omega)); (try have hs2 := hs (w.heap.size + 1 + 1) (by omega)); (try have hs3 := hs (w.heap.size + 1 + 1 + 1) (by omega))
            (try simp only [IntWalk.i64_left])
            go_wp2
            go_ret
            exact ⟨ret_int (by rw [← HT.out, firstE_at hlt hF.out (by rw [HE9.out]; decide), HE9.out]), by (repeat (first | with_reducible exact Ext.rfl' _ | with_reducible assumption | with_reducible refine Ext.al ?_ _ | with_reducible refine Ext.dr ?_ | with_reducible refine Ext.st ?_ (by simp) _ | with_reducible refine Ext.tr ?_ (by assumption)))⟩
          · have HE9 := Lib.hid (show lnE l k = 0 by rw [HE.out, if_neg (by omega)])
            clear HE
            go_upto_region 6 with (first | (go_at_call 26; with_reducible refine Calls.mono (HX.out _) ?_; rintro e w' ⟨rfl, rfl⟩) | (go_at_call 28; with_reducible refine Calls.mono (HY.out _) ?_; rintro e w' ⟨rfl, rfl⟩))
            refine region_grow (by kernel_rfl) (by kernel_rfl) ?_
            repeat (first | go_big_quiet_step (first  | fail) | quiet_step (first  | fail))
            refine wpQuiet_nil ?_
            intro w1 hb
            have hc := hb.ccell
            have hf := hb.frz
            have hs := hb.sz
            (try simp at hs); (try have hs0 := hs w.heap.size (by omega)); (try have hs1 := hs (w.heap.size + 1) (by omega)); (try have hs2 := hs (w.heap.size + 1 + 1) (by omega)); (try have hs3 := hs (w.heap.size + 1 + 1 + 1) (by omega))
            (try simp only [IntWalk.i64_left])
            go_wp2
            exact ⟨⟨by (repeat (first | with_reducible exact Ext.rfl' _ | with_reducible assumption | with_reducible refine Ext.al ?_ _ | with_reducible refine Ext.dr ?_ | with_reducible refine Ext.st ?_ (by simp) _ | with_reducible refine Ext.tr ?_ (by assumption))), k + 1, by omega, by go_num, firstE_step hF.out HE9.out⟩, by simp [intOf]; omega⟩
    · have hks : k = l.length := by omega
      have hT := HT.out
      rw [← hks, hF.out] at hT
      have HT2 := Lib.hid hT
      clear hT hF
      go_wp2
      go_ret
      exact ⟨ret_int HT2.out, by (repeat (first | with_reducible exact Ext.rfl' _ | with_reducible assumption | with_reducible refine Ext.al ?_ _ | with_reducible refine Ext.dr ?_ | with_reducible refine Ext.st ?_ (by simp) _ | with_reducible refine Ext.tr ?_ (by assumption)))⟩

set_option maxHeartbeats 2000000 in
theorem checkHopper_c (s : ByteArray) (hold : Int) (l : List Pt) (w : World) (A : Option Addr) (c : Nat) (hl : l.length ≤ 1000) (hA : Row 2 encP w A l) :
    Calls Try.prog 11 #[.agg #[.string s, .int .i64 hold, .slice A l.length c]] w fun e w' => e = .returned (.int .i64 (hopE s hold l)) ∧ Ext w w' := by
  have HN := Lib.hid (fun w => vName_c s w)
  have HW := Lib.hid (fun w => vin_c hold 1 1000000000000 w)
  have HL := Lib.hid (fun w' (hw : Ext w w') => checkLines_c l w' A c hl (hA.ext hw))
  unfold hopE
  generalize firstE (lnE l) l.length = r at *
  cases hn : nameB s
  · rw [hn] at HN
    rw [if_pos rfl]
    clear hn
    go_enter Try.func11, Try.ntmps11
    go_wp2_with (first | (go_at_call 33; with_reducible refine Calls.mono (HN.out _) ?_; rintro e w' ⟨rfl, rfl⟩))
    go_ret
    exact ⟨rfl, by (repeat (first | with_reducible exact Ext.rfl' _ | with_reducible assumption | with_reducible refine Ext.al ?_ _ | with_reducible refine Ext.dr ?_ | with_reducible refine Ext.st ?_ (by simp) _ | with_reducible refine Ext.tr ?_ (by assumption)))⟩
  rw [hn] at HN
  rw [if_neg (by decide)]
  clear hn
  cases hw : withinB hold 1 1000000000000
  · rw [hw] at HW
    rw [if_pos rfl]
    clear hw
    go_enter Try.func11, Try.ntmps11
    go_wp2_with (first | (go_at_call 33; with_reducible refine Calls.mono (HN.out _) ?_; rintro e w' ⟨rfl, rfl⟩) | (go_at_call 26; with_reducible refine Calls.mono (HW.out _) ?_; rintro e w' ⟨rfl, rfl⟩))
    go_ret
    exact ⟨rfl, by (repeat (first | with_reducible exact Ext.rfl' _ | with_reducible assumption | with_reducible refine Ext.al ?_ _ | with_reducible refine Ext.dr ?_ | with_reducible refine Ext.st ?_ (by simp) _ | with_reducible refine Ext.tr ?_ (by assumption)))⟩
  rw [hw] at HW
  rw [if_neg (by decide)]
  clear hw
  by_cases h2 : l.length < 2
  · have h2' : (l.length : Int) < 2 := by omega
    rw [if_pos h2]
    go_enter Try.func11, Try.ntmps11
    go_wp2_with (first | (go_at_call 33; with_reducible refine Calls.mono (HN.out _) ?_; rintro e w' ⟨rfl, rfl⟩) | (go_at_call 26; with_reducible refine Calls.mono (HW.out _) ?_; rintro e w' ⟨rfl, rfl⟩))
    go_ret
    exact ⟨rfl, by (repeat (first | with_reducible exact Ext.rfl' _ | with_reducible assumption | with_reducible refine Ext.al ?_ _ | with_reducible refine Ext.dr ?_ | with_reducible refine Ext.st ?_ (by simp) _ | with_reducible refine Ext.tr ?_ (by assumption)))⟩
  have h2' : ¬ (l.length : Int) < 2 := by omega
  rw [if_neg h2]
  by_cases h4 : 40 < l.length
  · have h4' : (40 : Int) < (l.length : Int) := by omega
    rw [if_pos h4]
    go_enter Try.func11, Try.ntmps11
    go_wp2_with (first | (go_at_call 33; with_reducible refine Calls.mono (HN.out _) ?_; rintro e w' ⟨rfl, rfl⟩) | (go_at_call 26; with_reducible refine Calls.mono (HW.out _) ?_; rintro e w' ⟨rfl, rfl⟩))
    go_ret
    exact ⟨rfl, by (repeat (first | with_reducible exact Ext.rfl' _ | with_reducible assumption | with_reducible refine Ext.al ?_ _ | with_reducible refine Ext.dr ?_ | with_reducible refine Ext.st ?_ (by simp) _ | with_reducible refine Ext.tr ?_ (by assumption)))⟩
  have h4' : ¬ (40 : Int) < (l.length : Int) := by omega
  rw [if_neg h4]
  go_enter Try.func11, Try.ntmps11
  go_wp2_with (first | (go_at_call 33; with_reducible refine Calls.mono (HN.out _) ?_; rintro e w' ⟨rfl, rfl⟩) | (go_at_call 26; with_reducible refine Calls.mono (HW.out _) ?_; rintro e w' ⟨rfl, rfl⟩) | (go_at_call 34; with_reducible refine Calls.mono (HL.out _ (by (repeat (first | with_reducible exact Ext.rfl' _ | with_reducible assumption | with_reducible refine Ext.al ?_ _ | with_reducible refine Ext.dr ?_ | with_reducible refine Ext.st ?_ (by simp) _ | with_reducible refine Ext.tr ?_ (by assumption))))) ?_; rintro e w1 ⟨rfl, hb⟩; have hc := hb.ccell; have hf := hb.frz; have hs := hb.sz; (try simp at hs); (try have hs0 := hs w.heap.size (by omega)); (try have hs1 := hs (w.heap.size + 1) (by omega)); (try have hs2 := hs (w.heap.size + 1 + 1) (by omega)); (try have hs3 := hs (w.heap.size + 1 + 1 + 1) (by omega))))
  go_ret
  exact ⟨rfl, by (repeat (first | with_reducible exact Ext.rfl' _ | with_reducible assumption | with_reducible refine Ext.al ?_ _ | with_reducible refine Ext.dr ?_ | with_reducible refine Ext.st ?_ (by simp) _ | with_reducible refine Ext.tr ?_ (by assumption)))⟩

set_option maxHeartbeats 8000000 in
theorem rcheckHopper_c (s : ByteArray) (hold : Int) (l : List Pt) (w : World) (A : Option Addr) (c : Nat) (hl : l.length ≤ 1000) (hA : Row 2 encP w A l) :
    Calls Try.prog 12 #[.agg #[.string s, .int .i64 hold, .slice A l.length c]] w fun e w' => e = .returned (.int .i64 (hopE s hold l)) ∧ Ext w w' := by
  have HN := Lib.hid (fun w => rIsName_c s w)
  rw [name_same] at HN
  have HW := Lib.hid (fun w => within3_c hold 1 1000000000000 w)
  unfold hopE
  cases hn : nameB s
  · rw [hn] at HN
    rw [if_pos rfl]
    clear hn
    go_enter Try.func12, Try.ntmps12
    go_wp2_with (first | (go_at_call 35; with_reducible refine Calls.mono (HN.out _) ?_; rintro e w' ⟨rfl, rfl⟩))
    go_ret
    exact ⟨rfl, by (repeat (first | with_reducible exact Ext.rfl' _ | with_reducible assumption | with_reducible refine Ext.al ?_ _ | with_reducible refine Ext.dr ?_ | with_reducible refine Ext.st ?_ (by simp) _ | with_reducible refine Ext.tr ?_ (by assumption)))⟩
  rw [hn] at HN
  rw [if_neg (by decide)]
  clear hn
  cases hw : withinB hold 1 1000000000000
  · rw [hw] at HW
    rw [if_pos rfl]
    clear hw
    go_enter Try.func12, Try.ntmps12
    go_wp2_with (first | (go_at_call 35; with_reducible refine Calls.mono (HN.out _) ?_; rintro e w' ⟨rfl, rfl⟩) | (go_at_call 18; with_reducible refine Calls.mono (HW.out _) ?_; rintro e w' ⟨rfl, rfl⟩))
    go_ret
    exact ⟨rfl, by (repeat (first | with_reducible exact Ext.rfl' _ | with_reducible assumption | with_reducible refine Ext.al ?_ _ | with_reducible refine Ext.dr ?_ | with_reducible refine Ext.st ?_ (by simp) _ | with_reducible refine Ext.tr ?_ (by assumption)))⟩
  rw [hw] at HW
  rw [if_neg (by decide)]
  clear hw
  by_cases h2 : l.length < 2
  · have h2' : (l.length : Int) < 2 := by omega
    rw [if_pos h2]
    go_enter Try.func12, Try.ntmps12
    go_wp2_with (first | (go_at_call 35; with_reducible refine Calls.mono (HN.out _) ?_; rintro e w' ⟨rfl, rfl⟩) | (go_at_call 18; with_reducible refine Calls.mono (HW.out _) ?_; rintro e w' ⟨rfl, rfl⟩))
    go_ret
    exact ⟨rfl, by (repeat (first | with_reducible exact Ext.rfl' _ | with_reducible assumption | with_reducible refine Ext.al ?_ _ | with_reducible refine Ext.dr ?_ | with_reducible refine Ext.st ?_ (by simp) _ | with_reducible refine Ext.tr ?_ (by assumption)))⟩
  have h2' : ¬ (l.length : Int) < 2 := by omega
  rw [if_neg h2]
  by_cases h4 : 40 < l.length
  · have h4' : (40 : Int) < (l.length : Int) := by omega
    rw [if_pos h4]
    go_enter Try.func12, Try.ntmps12
    go_wp2_with (first | (go_at_call 35; with_reducible refine Calls.mono (HN.out _) ?_; rintro e w' ⟨rfl, rfl⟩) | (go_at_call 18; with_reducible refine Calls.mono (HW.out _) ?_; rintro e w' ⟨rfl, rfl⟩))
    go_ret
    exact ⟨rfl, by (repeat (first | with_reducible exact Ext.rfl' _ | with_reducible assumption | with_reducible refine Ext.al ?_ _ | with_reducible refine Ext.dr ?_ | with_reducible refine Ext.st ?_ (by simp) _ | with_reducible refine Ext.tr ?_ (by assumption)))⟩
  have h4' : ¬ (40 : Int) < (l.length : Int) := by omega
  rw [if_neg h4]
  obtain ⟨E, hE0⟩ : ∃ E, firstE (lnE l) l.length = E := ⟨_, rfl⟩
  rw [hE0]
  have HT := Lib.hid hE0
  clear hE0 h2 h4
  go_enter Try.func12, Try.ntmps12
  go_wp2_with (first | (go_at_call 35; with_reducible refine Calls.mono (HN.out _) ?_; rintro e w' ⟨rfl, rfl⟩) | (go_at_call 18; with_reducible refine Calls.mono (HW.out _) ?_; rintro e w' ⟨rfl, rfl⟩))
  have hEp : Ext w (w.alloc (.cells #[.string s, .int .i64 hold, .slice A l.length c] 24)) := by (repeat (first | with_reducible exact Ext.rfl' _ | with_reducible assumption | with_reducible refine Ext.al ?_ _ | with_reducible refine Ext.dr ?_ | with_reducible refine Ext.st ?_ (by simp) _ | with_reducible refine Ext.tr ?_ (by assumption)))
  have k2 : (w.alloc (.cells #[.string s, .int .i64 hold, .slice A l.length c] 24)).cell? ⟨w.heap.size, 2, none⟩ = some (.slice A l.length c) := by simp [World.cell?_alloc_new, go_sem]
  have zp : w.heap.size < (w.alloc (.cells #[.string s, .int .i64 hold, .slice A l.length c] 24)).heap.size := by simp
  generalize w.alloc (.cells #[.string s, .int .i64 hold, .slice A l.length c] 24) = wp at *
  go_loopw [3, 4] (fun i _ wr => Ext wp wr ∧ ∃ k : Nat, k ≤ l.length ∧ i = .int .i64 k ∧ Hid (firstE (lnE l) k = 0)) (fun i _ _ => l.length - (intOf i).toNat)
  case atStart => exact ⟨Ext.rfl' _, 0, Nat.zero_le _, rfl, rfl⟩
  case round =>
    obtain ⟨hr, k, hk, rfl, hF⟩ := hrel
    have hE : Ext w wr := hEp.tr hr
    have e2 := (hr.ccell _ 2 zp).trans k2
    have hzp := hr.sz _ zp
    by_cases hlt : k < l.length
    · obtain ⟨b, off, rfl, hb0, hcell⟩ := hA.p2 hlt
      have c := hcell _ hE
      clear hcell
      have hz := hE.sz _ hb0
      have hg := gt_lt l k hlt
      have HX := Lib.hid (fun w => within3_c l[k].x 0 1000000000 w)
      have HY := Lib.hid (fun w => within3_c l[k].y 0 5000 w)
      cases hx : withinB l[k].x 0 1000000000
      · rw [hx] at HX
        have HE := Lib.hid (lnE_bad (l := l) (k := k) (by rw [hg]; unfold lnB; rw [hx]; rfl))
        clear hx hg
        go_wp2_with (first | (go_at_call 18; with_reducible refine Calls.mono (HX.out _) ?_; rintro e w' ⟨rfl, rfl⟩))
        go_ret
        exact ⟨ret_int (by rw [← HT.out, firstE_at hlt hF.out (by rw [HE.out]; decide), HE.out]), by (repeat (first | with_reducible exact Ext.rfl' _ | with_reducible assumption | with_reducible refine Ext.al ?_ _ | with_reducible refine Ext.dr ?_ | with_reducible refine Ext.st ?_ (by simp) _ | with_reducible refine Ext.tr ?_ (by assumption)))⟩
      rw [hx] at HX
      cases hy : withinB l[k].y 0 5000
      · rw [hy] at HY
        have HE := Lib.hid (lnE_bad (l := l) (k := k) (by rw [hg]; unfold lnB; rw [hx, hy]; rfl))
        clear hx hy hg
        go_wp2_with (first | (go_at_call 18; with_reducible refine Calls.mono (HX.out _) ?_; rintro e w' ⟨rfl, rfl⟩) | (go_at_call 18; with_reducible refine Calls.mono (HY.out _) ?_; rintro e w' ⟨rfl, rfl⟩))
        go_ret
        exact ⟨ret_int (by rw [← HT.out, firstE_at hlt hF.out (by rw [HE.out]; decide), HE.out]), by (repeat (first | with_reducible exact Ext.rfl' _ | with_reducible assumption | with_reducible refine Ext.al ?_ _ | with_reducible refine Ext.dr ?_ | with_reducible refine Ext.st ?_ (by simp) _ | with_reducible refine Ext.tr ?_ (by assumption)))⟩
      rw [hy] at HY
      have hok : lnB (gt l k) = true := by rw [hg]; unfold lnB; rw [hx, hy]; rfl
      clear hx hy
      rcases (by omega : (k : Int) ≤ 0 ∨ 0 < (k : Int)) with k0 | k0
      · have hk0 : k = 0 := by omega
        have HE : Hid (lnE l k = 0) := by subst hk0; exact lnE_first hok
        have HK0 := Lib.hid hk0
        have g0 : (0 < k) = False := eq_false (by omega)
        clear hok hg hk0
        go_upto_region 15 with (first | (go_at_call 18; with_reducible refine Calls.mono (HX.out _) ?_; rintro e w' ⟨rfl, rfl⟩) | (go_at_call 18; with_reducible refine Calls.mono (HY.out _) ?_; rintro e w' ⟨rfl, rfl⟩))
        refine region_grow (by kernel_rfl) (by kernel_rfl) ?_
        repeat (first | go_big_quiet_step (first  | fail) | quiet_step (first  | fail))
        refine wpQuiet_nil ?_
        intro w1 hb
        have hc := hb.ccell
        have hf := hb.frz
        have hs := hb.sz
        (try simp at hs); (try have hs0 := hs w.heap.size (by omega)); (try have hs1 := hs (w.heap.size + 1) (by omega)); (try have hs2 := hs (w.heap.size + 1 + 1) (by omega)); (try have hs3 := hs (w.heap.size + 1 + 1 + 1) (by omega))
        (try simp only [IntWalk.i64_left])
        go_wp2
        exact ⟨⟨by (repeat (first | with_reducible exact Ext.rfl' _ | with_reducible assumption | with_reducible refine Ext.al ?_ _ | with_reducible refine Ext.dr ?_ | with_reducible refine Ext.st ?_ (by simp) _ | with_reducible refine Ext.tr ?_ (by assumption))), k + 1, by omega, by go_num, firstE_step hF.out HE.out⟩, by simp [intOf]; omega⟩
      · obtain ⟨j, hj⟩ : ∃ j, k = j + 1 := ⟨k - 1, by omega⟩
        have hjl : j < l.length := by omega
        have g0 : (0 < k) = True := eq_true (by omega)
        have cj := hA.r2 hjl _ hE
        have hgj := gt_lt l j hjl
        have hjz : (k : Int) - 1 = (j : Int) := by omega
        have hA0 : lnE l k = if l[k].x ≤ l[j].x ∨ l[k].y < l[j].y then 9 else 0 := by
          rw [← hg, ← hgj]
          subst hj
          exact lnE_next hok
        have HE := Lib.hid hA0
        have HJ := Lib.hid hj
        clear hok hA0 hg hgj hj
        by_cases hle : l[k].x ≤ l[j].x
        · have HE9 := Lib.hid (show lnE l k = 9 by rw [HE.out, if_pos (.inl hle)])
          clear HE
          go_upto_region 15 with (first | (go_at_call 18; with_reducible refine Calls.mono (HX.out _) ?_; rintro e w' ⟨rfl, rfl⟩) | (go_at_call 18; with_reducible refine Calls.mono (HY.out _) ?_; rintro e w' ⟨rfl, rfl⟩))
          refine region_grow (by kernel_rfl) (by kernel_rfl) ?_
          repeat (first | go_big_quiet_step (first  | fail) | quiet_step (first  | fail))
          refine wpQuiet_nil ?_
          intro w1 hb
          have hc := hb.ccell
          have hf := hb.frz
          have hs := hb.sz
          (try simp at hs); (try have hs0 := hs w.heap.size (by omega)); (try have hs1 := hs (w.heap.size + 1) (by omega)); (try have hs2 := hs (w.heap.size + 1 + 1) (by omega)); (try have hs3 := hs (w.heap.size + 1 + 1 + 1) (by omega))
          (try simp only [IntWalk.i64_left])
          go_wp2
          go_ret
          exact ⟨ret_int (by rw [← HT.out, firstE_at hlt hF.out (by rw [HE9.out]; decide), HE9.out]), by (repeat (first | with_reducible exact Ext.rfl' _ | with_reducible assumption | with_reducible refine Ext.al ?_ _ | with_reducible refine Ext.dr ?_ | with_reducible refine Ext.st ?_ (by simp) _ | with_reducible refine Ext.tr ?_ (by assumption)))⟩
        · have hd1 : decide (l[k].x ≤ l[j].x) = false := decide_eq_false hle
          by_cases hly : l[k].y < l[j].y
          · have HE9 := Lib.hid (show lnE l k = 9 by rw [HE.out, if_pos (.inr hly)])
            clear HE
            go_upto_region 15 with (first | (go_at_call 18; with_reducible refine Calls.mono (HX.out _) ?_; rintro e w' ⟨rfl, rfl⟩) | (go_at_call 18; with_reducible refine Calls.mono (HY.out _) ?_; rintro e w' ⟨rfl, rfl⟩))
            refine region_grow (by kernel_rfl) (by kernel_rfl) ?_
            repeat (first | go_big_quiet_step (first  | fail) | quiet_step (first  | fail))
            refine wpQuiet_nil ?_
            intro w1 hb
            have hc := hb.ccell
            have hf := hb.frz
            have hs := hb.sz
            (try simp at hs); (try have hs0 := hs w.heap.size (by omega)); (try have hs1 := hs (w.heap.size + 1) (by omega)); (try have hs2 := hs (w.heap.size + 1 + 1) (by omega)); (try have hs3 := hs (w.heap.size + 1 + 1 + 1) (by omega))
            (try simp only [IntWalk.i64_left])
            go_wp2
            go_ret
            exact ⟨ret_int (by rw [← HT.out, firstE_at hlt hF.out (by rw [HE9.out]; decide), HE9.out]), by (repeat (first | with_reducible exact Ext.rfl' _ | with_reducible assumption | with_reducible refine Ext.al ?_ _ | with_reducible refine Ext.dr ?_ | with_reducible refine Ext.st ?_ (by simp) _ | with_reducible refine Ext.tr ?_ (by assumption)))⟩
          · have HE9 := Lib.hid (show lnE l k = 0 by rw [HE.out, if_neg (by omega)])
            clear HE
            go_upto_region 15 with (first | (go_at_call 18; with_reducible refine Calls.mono (HX.out _) ?_; rintro e w' ⟨rfl, rfl⟩) | (go_at_call 18; with_reducible refine Calls.mono (HY.out _) ?_; rintro e w' ⟨rfl, rfl⟩))
            refine region_grow (by kernel_rfl) (by kernel_rfl) ?_
            repeat (first | go_big_quiet_step (first  | fail) | quiet_step (first  | fail))
            refine wpQuiet_nil ?_
            intro w1 hb
            have hc := hb.ccell
            have hf := hb.frz
            have hs := hb.sz
            (try simp at hs); (try have hs0 := hs w.heap.size (by omega)); (try have hs1 := hs (w.heap.size + 1) (by omega)); (try have hs2 := hs (w.heap.size + 1 + 1) (by omega)); (try have hs3 := hs (w.heap.size + 1 + 1 + 1) (by omega))
            (try simp only [IntWalk.i64_left])
            go_wp2
            exact ⟨⟨by (repeat (first | with_reducible exact Ext.rfl' _ | with_reducible assumption | with_reducible refine Ext.al ?_ _ | with_reducible refine Ext.dr ?_ | with_reducible refine Ext.st ?_ (by simp) _ | with_reducible refine Ext.tr ?_ (by assumption))), k + 1, by omega, by go_num, firstE_step hF.out HE9.out⟩, by simp [intOf]; omega⟩
    · have hks : k = l.length := by omega
      have hT := HT.out
      rw [← hks, hF.out] at hT
      have HT2 := Lib.hid hT
      clear hT hF
      go_wp2
      go_ret
      exact ⟨ret_int HT2.out, by (repeat (first | with_reducible exact Ext.rfl' _ | with_reducible assumption | with_reducible refine Ext.al ?_ _ | with_reducible refine Ext.dr ?_ | with_reducible refine Ext.st ?_ (by simp) _ | with_reducible refine Ext.tr ?_ (by assumption)))⟩
end Go.Proofs.Ytmhmfjgahhgbpaa

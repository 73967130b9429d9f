/- Contracts of the functions of trip that only compute with numbers and bytes; quotients of the base. -/
import Derived.Test.YtmhmfjgahhgbpaaVpure
namespace Go.Proofs.Ytmhmfjgahhgbpaa
open Go Go.RowKit Go.IntWalk

theorem vin_c (n lo hi : Int) (w : World) :
    Calls Try.prog 26 #[.int .i64 n, .int .i64 lo, .int .i64 hi] w fun e w' => e = .returned (.bool (withinB n lo hi)) ∧ w = w' := by
  unfold withinB
  go_enter Try.func26, Try.ntmps26
  by_cases h : lo ≤ n
  · go_wp2; go_ret; exact ⟨ret_bool (by first | (simp [h]; done) | (simp [h]; omega)), rfl⟩
  · go_wp2; go_ret; exact ⟨ret_bool (by first | (simp; done) | (simp; omega)), rfl⟩
theorem vDraught_c (n : Int) (w : World) :
    Calls Try.prog 28 #[.int .i64 n] w fun e w' => e = .returned (.bool (withinB n 0 5000)) ∧ w = w' := by
  go_enter Try.func28, Try.ntmps28
  go_wp2_with (first | (go_at_call 26; refine Calls.mono (vin_c _ _ _ _) ?_; rintro e w' ⟨rfl, rfl⟩))
  go_ret; exact ⟨rfl, rfl⟩
theorem vMinute_c (n : Int) (w : World) :
    Calls Try.prog 38 #[.int .i64 n] w fun e w' => e = .returned (.bool (withinB n 0 1000000)) ∧ w = w' := by
  go_enter Try.func38, Try.ntmps38
  go_wp2_with (first | (go_at_call 26; refine Calls.mono (vin_c _ _ _ _) ?_; rintro e w' ⟨rfl, rfl⟩))
  go_ret; exact ⟨rfl, rfl⟩
theorem vup_c (n d : Int) (w : World) (h0 : 0 ≤ n) (h1 : n ≤ 4000000000000000000) (h2 : 0 < d) (h3 : d ≤ 4000000000000000000) :
    Calls Try.prog 52 #[.int .i64 n, .int .i64 d] w fun e w' => e = .returned (.int .i64 (cdiv n d)) ∧ w = w' := by
  have e1 := cdiv_up n d h2
  have e2 : (n + d - 1).tdiv d = (n + d - 1) / d := Int.tdiv_eq_ediv_of_nonneg (by omega)
  have e3 : 0 ≤ (n + d - 1) / d := Int.ediv_nonneg (by omega) (by omega)
  have e4 : (n + d - 1) / d ≤ n + d - 1 := Int.ediv_le_self _ (by omega)
  rw [e1]
  have E3 := Lib.hid (And.intro e2 (And.intro e3 e4))
  clear e1 e2 e3 e4
  go_enter Try.func52, Try.ntmps52
  go_wp2
  go_ret
  exact ⟨ret_int (by obtain ⟨e2, e3, e4⟩ := E3.out; first | rfl | (exact e2) | (rw [e2]; unfold wrap64; omega)), rfl⟩
theorem bmod_c (n m : Int) (w : World) (h0 : 0 < m) (h1 : m ≤ 4000000000000000000) :
    Calls Try.prog 85 #[.int .i64 n, .int .i64 m] w fun e w' => e = .returned (.int .i64 (n % m)) ∧ w = w' := by
  obtain ⟨t1, t2, t3, t4⟩ := tmod_form n m h0
  have H := Lib.hid (And.intro t1 t2); clear t1 t2
  go_enter Try.func85, Try.ntmps85
  go_wp2
  · go_ret; exact ⟨ret_int (by first | (rw [(H.out.1 (by assumption)).1]; done) | (rw [(H.out.1 (by assumption)).1]; unfold wrap64; omega)), rfl⟩
  · go_ret; exact ⟨ret_int (by rw [(H.out.2 (by omega)).1]), rfl⟩
theorem bfloor_c (n m : Int) (w : World) (h0 : 0 < m) (h1 : m ≤ 4000000000000000000) (h2 : -4000000000000000000 ≤ n) (h3 : n ≤ 4000000000000000000) :
    Calls Try.prog 68 #[.int .i64 n, .int .i64 m] w fun e w' => e = .returned (.int .i64 (n / m)) ∧ w = w' := by
  have HM := Lib.hid (fun w => bmod_c n m w h0 h1)
  have e1 := Int.mul_ediv_add_emod n m
  have e2 := Int.emod_nonneg n (show m ≠ 0 by omega)
  have e3 := Int.emod_lt_of_pos n h0
  have e4 : (n - n % m).tdiv m = n / m := by
    rw [show n - n % m = m * (n / m) by omega, Int.mul_tdiv_cancel_left _ (by omega)]
  generalize n % m = r at *
  generalize n / m = q at *
  have H4 := Lib.hid e4
  clear e1 e4
  go_enter Try.func68, Try.ntmps68
  go_wp2_with (first | (go_at_call 85; refine Calls.mono (HM.out _) ?_; rintro e w' ⟨rfl, rfl⟩))
  go_ret
  exact ⟨ret_int (by rw [← H4.out]), rfl⟩
theorem bceil_c (n m : Int) (w : World) (h0 : 0 < m) (h1 : m ≤ 4000000000000000000) (h2 : 0 ≤ n) (h3 : n ≤ 4000000000000000000) :
    Calls Try.prog 53 #[.int .i64 n, .int .i64 m] w fun e w' => e = .returned (.int .i64 (cdiv n m)) ∧ w = w' := by
  have HF := Lib.hid (fun w => bfloor_c (-n) m w h0 h1 (by omega) (by omega))
  have e1 : -n ≤ (-n) / m := by
    refine Int.le_ediv_of_mul_le h0 ?_
    have h5 := Int.mul_le_mul_of_nonneg_left (show 1 ≤ m by omega) h2
    have e : -n * m = -(n * m) := by grind
    rw [e]
    omega
  have e2 : (-n) / m ≤ 0 := by
    have := Int.ediv_le_ediv h0 (show -n ≤ 0 by omega)
    simpa using this
  unfold cdiv
  generalize (-n) / m = q at *
  go_enter Try.func53, Try.ntmps53
  go_wp2_with (first | (go_at_call 68; refine Calls.mono (HF.out _) ?_; rintro e w' ⟨rfl, rfl⟩))
  go_ret
  exact ⟨ret_int (by first | rfl | omega), rfl⟩

theorem vLetter_c (c : Nat) (w : World) :
    Calls Try.prog 54 #[.int .u8 c] w fun e w' => e = .returned (.bool (letB c)) ∧ w = w' := by
  unfold letB
  by_cases h1 : 65 ≤ c <;> by_cases h2 : c ≤ 90 <;> by_cases h3 : 97 ≤ c
  all_goals first | (exfalso; omega) | skip
  all_goals
    go_enter Try.func54, Try.ntmps54
    go_wp2
    go_ret
    exact ⟨ret_bool (by first | rfl | (rw [Bool.eq_iff_iff]; simp; done) | (rw [Bool.eq_iff_iff]; simp; omega)), rfl⟩
theorem vDigit_c (c : Nat) (w : World) :
    Calls Try.prog 55 #[.int .u8 c] w fun e w' => e = .returned (.bool (digB c)) ∧ w = w' := by
  unfold digB
  by_cases h1 : 48 ≤ c
  all_goals
    go_enter Try.func55, Try.ntmps55
    go_wp2
    go_ret
    exact ⟨ret_bool (by first | rfl | (rw [Bool.eq_iff_iff]; simp; done) | (rw [Bool.eq_iff_iff]; simp; omega)), rfl⟩
set_option maxHeartbeats 2000000 in
theorem vName_c (s : ByteArray) (w : World) :
    Calls Try.prog 33 #[.string s] w fun e w' => e = .returned (.bool (nameB s)) ∧ w = w' := by
  unfold nameB
  by_cases h0 : s.size = 0
  · rw [if_pos h0]
    go_enter Try.func33, Try.ntmps33
    go_wp2
    go_ret
    exact ⟨rfl, rfl⟩
  rw [if_neg h0]
  have h0' : ¬ (s.size : Int) = 0 := by omega
  have h0e : ((s.size : Int) == 0) = false := by rw [beq_eq_false_iff_ne]; omega
  by_cases h1 : 12 < s.size
  · rw [if_pos h1]
    have h1' : (12 : Int) < (s.size : Int) := by omega
    go_enter Try.func33, Try.ntmps33
    go_wp2
    go_ret
    exact ⟨rfl, rfl⟩
  rw [if_neg h1]
  have h1' : ¬ (12 : Int) < (s.size : Int) := by omega
  have hz : 0 < s.size := by omega
  obtain ⟨c0, hc0⟩ : ∃ c0, byteAt s 0 = c0 := ⟨_, rfl⟩
  have hi0 := byte_at s 0 0 rfl hz c0 hc0
  rw [hc0]
  have HL0 := Lib.hid (fun w => vLetter_c c0 w)
  cases hl : letB c0
  · rw [hl] at HL0
    clear hl
    go_enter Try.func33, Try.ntmps33
    go_wp2_with (first | (go_at_call 54; refine Calls.mono (HL0.out _) ?_; rintro e w' ⟨rfl, rfl⟩))
    go_ret
    exact ⟨rfl, rfl⟩
  rw [hl] at HL0
  clear hl
  obtain ⟨E, hE0⟩ : ∃ E, (true && !anyN (badAt s) s.size) = E := ⟨_, rfl⟩
  rw [hE0]
  have HT := Lib.hid hE0
  clear hE0 hc0
  go_enter Try.func33, Try.ntmps33
  go_wp2_with (first | (go_at_call 54; refine Calls.mono (HL0.out _) ?_; rintro e w' ⟨rfl, rfl⟩))
  clear hi0
  go_loopw [3, 4, 21] (fun _ _ i wr => wr = w ∧ ∃ k : Nat, k ≤ s.size ∧ i = .int .i64 k ∧ Hid (anyN (badAt s) k = false)) (fun _ _ i _ => s.size - (intOf i).toNat)
  case atStart => exact ⟨rfl, 0, Nat.zero_le _, rfl, rfl⟩
  case round =>
    obtain ⟨rfl, k, hk, rfl, hN⟩ := hrel
    by_cases hlt : k < s.size
    · obtain ⟨c, hc⟩ : ∃ c, byteAt s k = c := ⟨_, rfl⟩
      have hi := byte_at s k k rfl hlt c hc
      have hB : badAt s k = !(letB c || (digB c || decide (c = 45))) := by unfold badAt okB; rw [hc]
      have HB := Lib.hid hB
      have HL := Lib.hid (fun w => vLetter_c c w)
      have HD := Lib.hid (fun w => vDigit_c c w)
      clear hB hc
      cases hl : letB c
      · cases hd : digB c
        · by_cases h45 : c = 45
          · rw [hl, hd, decide_eq_true h45] at HB
            rw [hl] at HL
            rw [hd] at HD
            clear hl hd
            subst h45
            go_wp2_with (first | (go_at_call 54; refine Calls.mono (HL.out _) ?_; rintro e w' ⟨rfl, rfl⟩) | (go_at_call 55; refine Calls.mono (HD.out _) ?_; rintro e w' ⟨rfl, rfl⟩))
            exact ⟨⟨trivial, k + 1, by omega, by go_num, (by show anyN _ (k + 1) = false; rw [anyN, hN.out, HB.out]; rfl)⟩, by simp [intOf]; omega⟩
          · rw [hl, hd, decide_eq_false h45] at HB
            rw [hl] at HL
            rw [hd] at HD
            have h45' : ¬ (c : Int) = 45 := by omega
            clear hl hd h45
            go_wp2_with (first | (go_at_call 54; refine Calls.mono (HL.out _) ?_; rintro e w' ⟨rfl, rfl⟩) | (go_at_call 55; refine Calls.mono (HD.out _) ?_; rintro e w' ⟨rfl, rfl⟩))
            go_ret
            exact ⟨ret_bool (by rw [← HT.out, anyN_at _ hlt HB.out]; rfl), rfl⟩
        · rw [hl, hd] at HB
          rw [hl] at HL
          rw [hd] at HD
          clear hl hd
          go_wp2_with (first | (go_at_call 54; refine Calls.mono (HL.out _) ?_; rintro e w' ⟨rfl, rfl⟩) | (go_at_call 55; refine Calls.mono (HD.out _) ?_; rintro e w' ⟨rfl, rfl⟩))
          exact ⟨⟨trivial, k + 1, by omega, by go_num, (by show anyN _ (k + 1) = false; rw [anyN, hN.out, HB.out]; rfl)⟩, by simp [intOf]; omega⟩
      · rw [hl] at HB HL
        clear hl
        go_wp2_with (first | (go_at_call 54; refine Calls.mono (HL.out _) ?_; rintro e w' ⟨rfl, rfl⟩))
        exact ⟨⟨trivial, k + 1, by omega, by go_num, (by show anyN _ (k + 1) = false; rw [anyN, hN.out, HB.out]; rfl)⟩, by simp [intOf]; omega⟩
    · have hks : k = s.size := by omega
      have hT := HT.out
      rw [← hks, hN.out] at hT
      have HT2 := Lib.hid hT
      clear hT hN
      go_wp2
      go_ret
      exact ⟨ret_bool HT2.out, rfl⟩
end Go.Proofs.Ytmhmfjgahhgbpaa

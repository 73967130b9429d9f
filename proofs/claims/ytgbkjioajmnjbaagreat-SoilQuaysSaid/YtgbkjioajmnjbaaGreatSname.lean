/- Names: 1 to 12 letters, digits and "-", a letter first; the contracts of isName, of the reference's IsName. -/
import Derived.Test.YtgbkjioajmnjbaaGreatBleaf
import Derived.Test.YtgbkjioajmnjbaaGreatSlp
namespace Go.Proofs.YtgbkjioajmnjbaaGreat
open Go Go.RowKit

/-! ### Names -/
def letB (c : Nat) : Bool := (decide (65 ≤ c) && decide (c ≤ 90)) || (decide (97 ≤ c) && decide (c ≤ 122))
def digB (c : Nat) : Bool := decide (48 ≤ c) && decide (c ≤ 57)
theorem isLetter_c (c : Nat) (w : World) :
    Calls Tryz.prog 45 #[.int .u8 c] w fun e w' => e = .returned (.bool (letB c)) ∧ w = w' := by
  unfold letB
  by_cases h1 : 65 ≤ c <;> by_cases h2 : c ≤ 90 <;> by_cases h3 : 97 ≤ c
  all_goals first | (exfalso; omega) | skip
  all_goals
    go_enter Tryz.func45, Tryz.ntmps45
    go_wp2
    go_ret
    exact ⟨ret_bool (by first | rfl | (rw [Bool.eq_iff_iff]; simp; done) | (rw [Bool.eq_iff_iff]; simp; omega)), rfl⟩
theorem isDigit_c (c : Nat) (w : World) :
    Calls Tryz.prog 46 #[.int .u8 c] w fun e w' => e = .returned (.bool (digB c)) ∧ w = w' := by
  unfold digB
  by_cases h1 : 48 ≤ c
  all_goals
    go_enter Tryz.func46, Tryz.ntmps46
    go_wp2
    go_ret
    exact ⟨ret_bool (by first | rfl | (rw [Bool.eq_iff_iff]; simp; done) | (rw [Bool.eq_iff_iff]; simp; omega)), rfl⟩
/-- A byte of a name, not the first. -/
def okB (c : Nat) : Bool := letB c || (digB c || decide (c = 45))
def byteAt (s : ByteArray) (i : Nat) : Nat := if h : i < s.size then s[i].toNat else 0
theorem byteAt_of (s : ByteArray) (i : Nat) (h : i < s.size) : byteAt s i = s[i].toNat := by unfold byteAt; rw [dif_pos h]
theorem byte_at (s : ByteArray) (k : Nat) (z : Int) (hz : z = k) (h : k < s.size) (c : Nat) (hc : byteAt s k = c) (w : World) : (Instr.index 9 (.string s) (.int .i64 z)).run Tryz.prog w = .ok (.int .u8 c) w := by
  subst hz hc
  rw [run_index_string _ _ _ _ _ Tryz.underlying9, dif_pos ⟨by omega, by omega⟩, byteAt_of s k h]
  simp
def badAt (s : ByteArray) (i : Nat) : Bool := !okB (byteAt s i)
/-- A name: 1 to 12 letters, digits and "-", a letter first. -/
def nameB (s : ByteArray) : Bool := if s.size = 0 then false else if 12 < s.size then false else letB (byteAt s 0) && !anyN (badAt s) s.size

set_option maxHeartbeats 2000000 in
theorem isName_c (s : ByteArray) (w : World) :
    Calls Tryz.prog 24 #[.string s] w fun e w' => e = .returned (.bool (nameB s)) ∧ w = w' := by
  unfold nameB
  by_cases h0 : s.size = 0
  · rw [if_pos h0]
    go_enter Tryz.func24, Tryz.ntmps24
    go_wp2
    go_ret
    exact ⟨rfl, rfl⟩
  rw [if_neg h0]
  have h0' : ¬ (s.size : Int) = 0 := by omega
  have h0e : ((s.size : Int) == 0) = false := by rw [beq_eq_false_iff_ne]; omega
  by_cases h1 : 12 < s.size
  · rw [if_pos h1]
    have h1' : (12 : Int) < (s.size : Int) := by omega
    go_enter Tryz.func24, Tryz.ntmps24
    go_wp2
    go_ret
    exact ⟨rfl, rfl⟩
  rw [if_neg h1]
  have h1' : ¬ (12 : Int) < (s.size : Int) := by omega
  have hz : 0 < s.size := by omega
  obtain ⟨c0, hc0⟩ : ∃ c0, byteAt s 0 = c0 := ⟨_, rfl⟩
  have hi0 := byte_at s 0 0 rfl hz c0 hc0
  rw [hc0]
  have HL0 := Lib.hid (fun w => isLetter_c c0 w)
  cases hl : letB c0
  · rw [hl] at HL0
    clear hl
    go_enter Tryz.func24, Tryz.ntmps24
    go_wp2_with (first | (go_at_call 45; refine Calls.mono (HL0.out _) ?_; rintro e w' ⟨rfl, rfl⟩))
    go_ret
    exact ⟨rfl, rfl⟩
  rw [hl] at HL0
  clear hl
  obtain ⟨E, hE0⟩ : ∃ E, (true && !anyN (badAt s) s.size) = E := ⟨_, rfl⟩
  rw [hE0]
  have HT := Lib.hid hE0
  clear hE0 hc0
  go_enter Tryz.func24, Tryz.ntmps24
  go_wp2_with (first | (go_at_call 45; refine Calls.mono (HL0.out _) ?_; rintro e w' ⟨rfl, rfl⟩))
  clear hi0
  go_loopw [3, 4, 21] (fun _ _ i wr => wr = w ∧ ∃ k : Nat, k ≤ s.size ∧ i = .int .i64 k ∧ Hid (anyN (badAt s) k = false)) (fun _ _ i _ => s.size - (intOf i).toNat)
  case atStart => exact ⟨rfl, 0, Nat.zero_le _, rfl, rfl⟩
  case round =>
    obtain ⟨rfl, k, hk, rfl, hN⟩ := hrel
    by_cases hlt : k < s.size
    · obtain ⟨c, hc⟩ : ∃ c, byteAt s k = c := ⟨_, rfl⟩
      have hi := byte_at s k k rfl hlt c hc
      have hB : badAt s k = !(letB c || (digB c || decide (c = 45))) := by unfold badAt okB; rw [hc]
      have HB := Lib.hid hB
      have HL := Lib.hid (fun w => isLetter_c c w)
      have HD := Lib.hid (fun w => isDigit_c c w)
      clear hB hc
      cases hl : letB c
      · cases hd : digB c
        · by_cases h45 : c = 45
          · rw [hl, hd, decide_eq_true h45] at HB
            rw [hl] at HL
            rw [hd] at HD
            clear hl hd
            subst h45
            go_wp2_with (first | (go_at_call 45; refine Calls.mono (HL.out _) ?_; rintro e w' ⟨rfl, rfl⟩) | (go_at_call 46; refine Calls.mono (HD.out _) ?_; rintro e w' ⟨rfl, rfl⟩))
            exact ⟨⟨trivial, k + 1, by omega, by go_num, (by show anyN _ (k + 1) = false; rw [anyN, hN.out, HB.out]; rfl)⟩, by simp [intOf]; omega⟩
          · rw [hl, hd, decide_eq_false h45] at HB
            rw [hl] at HL
            rw [hd] at HD
            have h45' : ¬ (c : Int) = 45 := by omega
            clear hl hd h45
            go_wp2_with (first | (go_at_call 45; refine Calls.mono (HL.out _) ?_; rintro e w' ⟨rfl, rfl⟩) | (go_at_call 46; refine Calls.mono (HD.out _) ?_; rintro e w' ⟨rfl, rfl⟩))
            go_ret
            exact ⟨ret_bool (by rw [← HT.out, anyN_at _ hlt HB.out]; rfl), rfl⟩
        · rw [hl, hd] at HB
          rw [hl] at HL
          rw [hd] at HD
          clear hl hd
          go_wp2_with (first | (go_at_call 45; refine Calls.mono (HL.out _) ?_; rintro e w' ⟨rfl, rfl⟩) | (go_at_call 46; refine Calls.mono (HD.out _) ?_; rintro e w' ⟨rfl, rfl⟩))
          exact ⟨⟨trivial, k + 1, by omega, by go_num, (by show anyN _ (k + 1) = false; rw [anyN, hN.out, HB.out]; rfl)⟩, by simp [intOf]; omega⟩
      · rw [hl] at HB HL
        clear hl
        go_wp2_with (first | (go_at_call 45; refine Calls.mono (HL.out _) ?_; rintro e w' ⟨rfl, rfl⟩))
        exact ⟨⟨trivial, k + 1, by omega, by go_num, (by show anyN _ (k + 1) = false; rw [anyN, hN.out, HB.out]; rfl)⟩, by simp [intOf]; omega⟩
    · have hks : k = s.size := by omega
      have hT := HT.out
      rw [← hks, hN.out] at hT
      have HT2 := Lib.hid hT
      clear hT hN
      go_wp2
      go_ret
      exact ⟨ret_bool HT2.out, rfl⟩

/-- The reference's test of a byte. -/
def badR (c : Nat) (k : Nat) : Bool := !letB c && (decide (k = 0) || (decide (c ≠ 45) && (decide (c < 48) || decide (57 < c))))
def nameR (s : ByteArray) : Bool := if s.size = 0 then false else if 12 < s.size then false else !anyN (fun k => badR (byteAt s k) k) s.size
set_option maxHeartbeats 4000000 in
theorem rIsName_c (s : ByteArray) (w : World) :
    Calls Tryz.prog 28 #[.string s] w fun e w' => e = .returned (.bool (nameR s)) ∧ w = w' := by
  unfold nameR
  by_cases h0 : s.size = 0
  · rw [if_pos h0]
    go_enter Tryz.func28, Tryz.ntmps28
    go_wp2
    go_ret
    exact ⟨rfl, rfl⟩
  rw [if_neg h0]
  have h0' : ¬ (s.size : Int) < 1 := by omega
  by_cases h1 : 12 < s.size
  · rw [if_pos h1]
    have h1' : (12 : Int) < (s.size : Int) := by omega
    go_enter Tryz.func28, Tryz.ntmps28
    go_wp2
    go_ret
    exact ⟨rfl, rfl⟩
  rw [if_neg h1]
  have h1' : ¬ (12 : Int) < (s.size : Int) := by omega
  obtain ⟨E, hE0⟩ : ∃ E, (!anyN (fun k => badR (byteAt s k) k) s.size) = E := ⟨_, rfl⟩
  rw [hE0]
  have HT := Lib.hid hE0
  clear hE0
  go_enter Tryz.func28, Tryz.ntmps28
  go_wp2
  go_loopw [3, 4, 5] (fun i _ _ wr => wr = w ∧ ∃ k : Nat, k ≤ s.size ∧ i = .int .i64 k ∧ Hid (anyN (fun k => badR (byteAt s k) k) k = false)) (fun i _ _ _ => s.size - (intOf i).toNat)
  case atStart => exact ⟨rfl, 0, Nat.zero_le _, rfl, rfl⟩
  case round =>
    obtain ⟨rfl, k, hk, rfl, hN⟩ := hrel
    by_cases hlt : k < s.size
    · obtain ⟨c, hc⟩ : ∃ c, byteAt s k = c := ⟨_, rfl⟩
      have hi := byte_at s k k rfl hlt c hc
      have hB : ∀ r, badR c k = r → badR (byteAt s k) k = r := by intro r hr; rw [hc]; exact hr
      have HB := Lib.hid hB
      clear hB hc
      have HN2 : badR c k = false → Hid (anyN (fun k => badR (byteAt s k) k) (k + 1) = false) := by
        intro hb; show anyN _ (k + 1) = false; rw [anyN, hN.out, HB.out false hb]; rfl
      have HN3 := Lib.hid HN2
      clear HN2
      have hcl : (65 ≤ c ∧ c ≤ 90) ∨ (97 ≤ c ∧ c ≤ 122) ∨ c < 65 ∨ (91 ≤ c ∧ c ≤ 96) ∨ 122 < c := by omega
      have hlet : ∀ r, letB c = r → Hid (letB c = r) := fun r h => h
      rcases hcl with ⟨q1, q2⟩ | ⟨q1, q2⟩ | q1 | ⟨q1, q2⟩ | q1
      · have HL := hlet true (by unfold letB; simp; omega)
        have r1 : ¬ 97 ≤ c := by omega
        clear hlet
        go_wp2
        exact ⟨⟨trivial, k + 1, by omega, by go_num, HN3.out (by unfold badR; rw [HL.out]; first | (simp; done) | (simp; omega))⟩, by simp [intOf]; omega⟩
      · have HL := hlet true (by unfold letB; simp; omega)
        have r1 : ¬ c ≤ 90 := by omega
        clear hlet
        go_wp2
        exact ⟨⟨trivial, k + 1, by omega, by go_num, HN3.out (by unfold badR; rw [HL.out]; first | (simp; done) | (simp; omega))⟩, by simp [intOf]; omega⟩
      all_goals
        have HL := hlet false (by unfold letB; rw [Bool.eq_false_iff]; simp; omega)
        clear hlet
      all_goals
        rcases (by omega : (k : Int) ≤ 0 ∨ 0 < (k : Int)) with k0 | k0
      · have r1 : ¬ 97 ≤ c := by omega
        have r2 : ¬ 65 ≤ c := by omega
        go_wp2
        go_ret
        exact ⟨ret_bool (by rw [← HT.out, anyN_at (fun k => badR (byteAt s k) k) hlt (HB.out true (by unfold badR; rw [HL.out]; first | (simp; done) | (simp; omega)))]; rfl), rfl⟩
      · have r1 : ¬ 97 ≤ c := by omega
        have r2 : ¬ 65 ≤ c := by omega
        have e0 : ((k : Int) == 0) = false := by rw [beq_eq_false_iff_ne]; omega
        rcases (by omega : ((45 : Int) ≤ (c : Int) ∧ (c : Int) ≤ 45) ∨ (c < 48 ∧ c ≠ 45) ∨ (48 ≤ c ∧ c ≤ 57) ∨ 57 < c) with ⟨r3, r4⟩ | ⟨r3, r4⟩ | ⟨r3, r4⟩ | r3
        · have e1 : ((c : Int) != 45) = false := by rw [bne_eq_false_iff_eq]; omega
          go_wp2
          exact ⟨⟨trivial, k + 1, by omega, by go_num, HN3.out (by unfold badR; rw [HL.out]; first | (simp; done) | (simp; omega))⟩, by simp [intOf]; omega⟩
        · have e1 : ((c : Int) != 45) = true := by rw [bne_iff_ne]; omega
          go_wp2
          go_ret
          exact ⟨ret_bool (by rw [← HT.out, anyN_at (fun k => badR (byteAt s k) k) hlt (HB.out true (by unfold badR; rw [HL.out]; first | (simp; done) | (simp; omega)))]; rfl), rfl⟩
        · have e1 : ((c : Int) != 45) = true := by rw [bne_iff_ne]; omega
          go_wp2
          exact ⟨⟨trivial, k + 1, by omega, by go_num, HN3.out (by unfold badR; rw [HL.out]; first | (simp; done) | (simp; omega))⟩, by simp [intOf]; omega⟩
        · have e1 : ((c : Int) != 45) = true := by rw [bne_iff_ne]; omega
          have r6 : ¬ c < 48 := by omega
          have f3 : decide ((c : Int) ≤ 57) = false := decide_eq_false (by omega)
          have f4 : decide ((57 : Int) < c) = true := decide_eq_true (by omega)
          go_wp2
          go_ret
          exact ⟨ret_bool (by rw [← HT.out, anyN_at (fun k => badR (byteAt s k) k) hlt (HB.out true (by unfold badR; rw [HL.out]; first | (simp; done) | (simp; omega)))]; rfl), rfl⟩
      · have r1 : ¬ 97 ≤ c := by omega
        have r2 : ¬ c ≤ 90 := by omega
        have f1 : decide ((c : Int) ≤ 90) = false := decide_eq_false (by omega)
        go_wp2
        go_ret
        exact ⟨ret_bool (by rw [← HT.out, anyN_at (fun k => badR (byteAt s k) k) hlt (HB.out true (by unfold badR; rw [HL.out]; first | (simp; done) | (simp; omega)))]; rfl), rfl⟩
      · have r1 : ¬ 97 ≤ c := by omega
        have r2 : ¬ c ≤ 90 := by omega
        have f1 : decide ((c : Int) ≤ 90) = false := decide_eq_false (by omega)
        have e0 : ((k : Int) == 0) = false := by rw [beq_eq_false_iff_ne]; omega
        have e1 : ((c : Int) != 45) = true := by rw [bne_iff_ne]; omega
        have r6 : ¬ c < 48 := by omega
        have f3 : decide ((c : Int) ≤ 57) = false := decide_eq_false (by omega)
        have f4 : decide ((57 : Int) < c) = true := decide_eq_true (by omega)
        go_wp2
        go_ret
        exact ⟨ret_bool (by rw [← HT.out, anyN_at (fun k => badR (byteAt s k) k) hlt (HB.out true (by unfold badR; rw [HL.out]; first | (simp; done) | (simp; omega)))]; rfl), rfl⟩
      · have r2 : ¬ c ≤ 90 := by omega
        have f1 : decide ((c : Int) ≤ 90) = false := decide_eq_false (by omega)
        have f2 : decide ((c : Int) ≤ 122) = false := decide_eq_false (by omega)
        go_wp2
        go_ret
        exact ⟨ret_bool (by rw [← HT.out, anyN_at (fun k => badR (byteAt s k) k) hlt (HB.out true (by unfold badR; rw [HL.out]; first | (simp; done) | (simp; omega)))]; rfl), rfl⟩
      · have r2 : ¬ c ≤ 90 := by omega
        have f1 : decide ((c : Int) ≤ 90) = false := decide_eq_false (by omega)
        have f2 : decide ((c : Int) ≤ 122) = false := decide_eq_false (by omega)
        have e0 : ((k : Int) == 0) = false := by rw [beq_eq_false_iff_ne]; omega
        have e1 : ((c : Int) != 45) = true := by rw [bne_iff_ne]; omega
        have r6 : ¬ c < 48 := by omega
        have f3 : decide ((c : Int) ≤ 57) = false := decide_eq_false (by omega)
        have f4 : decide ((57 : Int) < c) = true := decide_eq_true (by omega)
        go_wp2
        go_ret
        exact ⟨ret_bool (by rw [← HT.out, anyN_at (fun k => badR (byteAt s k) k) hlt (HB.out true (by unfold badR; rw [HL.out]; first | (simp; done) | (simp; omega)))]; rfl), rfl⟩
    · have hks : k = s.size := by omega
      have hT := HT.out
      rw [← hks, hN.out] at hT
      have HT2 := Lib.hid hT
      clear hT hN
      go_wp2
      go_ret
      exact ⟨ret_bool HT2.out, rfl⟩

theorem name_same (s : ByteArray) : nameR s = nameB s := by
  unfold nameR nameB
  by_cases h0 : s.size = 0
  · rw [if_pos h0, if_pos h0]
  rw [if_neg h0, if_neg h0]
  by_cases h1 : 12 < s.size
  · rw [if_pos h1, if_pos h1]
  rw [if_neg h1, if_neg h1]
  have key : ∀ c k, badR c k = (!letB c && (decide (k = 0) || !okB c)) := by
    intro c k
    unfold badR okB digB
    cases letB c
    · rw [Bool.eq_iff_iff]; simp; omega
    · rfl
  rw [Bool.eq_iff_iff, Bool.and_eq_true]
  simp only [Bool.not_eq_true']
  rw [anyN_no, anyN_no]
  constructor
  · intro h
    have h2 := h 0 (by omega)
    simp only [key] at h h2
    have hl : letB (byteAt s 0) = true := by
      cases hl : letB (byteAt s 0)
      · rw [hl] at h2; simp at h2
      · rfl
    refine ⟨hl, fun i hi => ?_⟩
    have h3 := h i hi
    unfold badAt
    cases hl2 : letB (byteAt s i)
    · rw [hl2] at h3
      simp at h3
      rw [h3.2]; rfl
    · unfold okB; rw [hl2]; rfl
  · rintro ⟨h1, h2⟩ i hi
    rw [key]
    have h3 := h2 i hi
    unfold badAt at h3
    by_cases hi0 : i = 0
    · subst hi0; rw [h1]; rfl
    · rw [h3]; simp [hi0]
end Go.Proofs.YtgbkjioajmnjbaaGreat

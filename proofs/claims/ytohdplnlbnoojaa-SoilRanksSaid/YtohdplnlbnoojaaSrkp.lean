/- Ranked values: how many values are at most one. Nothing of the program. -/
import Derived.Test.YtohdplnlbnoojaaSlp
namespace Go.Proofs.Ytohdplnlbnoojaa
open Go

def cntLe (l : List Int) (x : Int) : Nat := (l.filter (fun y => decide (y ≤ x))).length
theorem cntLe_cons (y : Int) (l : List Int) (x : Int) : cntLe (y :: l) x = (if y ≤ x then 1 else 0) + cntLe l x := by
  unfold cntLe
  rw [List.filter_cons]
  by_cases h : y ≤ x
  · rw [if_pos (by simpa using h), if_pos h, List.length_cons]; omega
  · rw [if_neg (by simpa using h), if_neg h]; omega
theorem cntLe_perm {l m : List Int} (h : l.Perm m) (x : Int) : cntLe l x = cntLe m x := (h.filter _).length_eq
theorem cntLe_le (l : List Int) (x : Int) : cntLe l x ≤ l.length := List.length_filter_le _ _
theorem gi_zero (y : Int) (l : List Int) : gi (y :: l) 0 = y := rfl
theorem gi_succ (y : Int) (l : List Int) (r : Nat) : gi (y :: l) (r + 1) = gi l r := by simp [gi, List.getD]
theorem cntLe_zero {l : List Int} {x : Int} (h : ∀ z ∈ l, x < z) : cntLe l x = 0 := by
  unfold cntLe
  rw [List.length_eq_zero_iff, List.filter_eq_nil_iff]
  intro z hz
  have := h z hz
  simp; omega
theorem sorted_le : ∀ {s : List Int}, s.Pairwise (· ≤ ·) → ∀ r, r < s.length → ∀ x, (gi s r ≤ x ↔ r < cntLe s x)
  | [], _, r, hr, _ => absurd hr (Nat.not_lt_zero _)
  | y :: t, hs, r, hr, x => by
    rw [List.pairwise_cons] at hs
    rw [cntLe_cons]
    cases r with
    | zero =>
      rw [gi_zero]
      by_cases h : y ≤ x
      · rw [if_pos h]; constructor <;> intro _ <;> omega
      · have h2 : cntLe t x = 0 := cntLe_zero fun z hz => by have := hs.1 z hz; omega
        rw [if_neg h, h2]; omega
    | succ r =>
      have hr' : r < t.length := by simpa using hr
      rw [gi_succ]
      have ih := sorted_le hs.2 r hr' x
      by_cases h : y ≤ x
      · rw [if_pos h, ih]; omega
      · have h2 : cntLe t x = 0 := cntLe_zero fun z hz => by have := hs.1 z hz; omega
        have h3 : y ≤ gi t r := by rw [gi_lt _ _ hr']; exact hs.1 _ (List.getElem_mem hr')
        rw [if_neg h, h2]; omega
def sortZ (l : List Int) : List Int := l.mergeSort fun x y => decide (x ≤ y)
theorem sortZ_perm (l : List Int) : (sortZ l).Perm l := List.mergeSort_perm l _
theorem sortZ_len (l : List Int) : (sortZ l).length = l.length := by simp [sortZ]
theorem sortZ_sorted (l : List Int) : (sortZ l).Pairwise (· ≤ ·) := by
  have h := List.pairwise_mergeSort (le := fun x y : Int => decide (x ≤ y)) (fun a b c h1 h2 => by simp at h1 h2 ⊢; omega) (fun a b => by simp; omega) l
  exact h.imp fun h => by simpa using h
/-- The value at a place of the ordered values. -/
def rkN (l : List Int) (r : Nat) : Int := gi (sortZ l) r
theorem rkN_iff {l : List Int} {r : Nat} (hr : r < l.length) (x : Int) : rkN l r ≤ x ↔ r < cntLe l x := by
  rw [← cntLe_perm (sortZ_perm l) x]
  exact sorted_le (sortZ_sorted l) r (by rw [sortZ_len]; exact hr) x
theorem rkN_mono {l m : List Int} {r : Nat} (hl : r < l.length) (hm : r < m.length) (h : ∀ x, cntLe m x ≤ cntLe l x) : rkN l r ≤ rkN m r := by
  rw [rkN_iff hl]
  have := (rkN_iff hm (rkN m r)).1 (Int.le_refl _)
  have := h (rkN m r)
  omega
theorem rkN_perm {l m : List Int} {r : Nat} (hl : r < l.length) (h : l.Perm m) : rkN l r = rkN m r := by
  have hm : r < m.length := by rw [← h.length_eq]; exact hl
  have h1 := rkN_mono hl hm fun x => by rw [cntLe_perm h]; exact Nat.le_refl _
  have h2 := rkN_mono hm hl fun x => by rw [cntLe_perm h]; exact Nat.le_refl _
  omega
theorem rkN_mem {l : List Int} {r : Nat} (hl : r < l.length) : rkN l r ∈ l := by
  refine (sortZ_perm l).mem_iff.1 ?_
  unfold rkN
  rw [gi_lt _ _ (by rw [sortZ_len]; exact hl)]
  exact List.getElem_mem _
theorem rkN_cnt {l : List Int} {r : Nat} (hl : r < l.length) : r < cntLe l (rkN l r) := (rkN_iff hl _).1 (Int.le_refl _)
/-- What is wrong with a rule. -/
def ruE (num den least : Int) : Int := if withinB den 1 1000 = true ∧ withinB num 1 den = true ∧ withinB least 1 60 = true then 0 else 2
def vaB (x : Int) : Bool := withinB x 0 1000000000
/-- What is wrong with values to be ranked. -/
def rkE (l : List Int) (num den least : Int) : Int :=
  if ruE num den least ≠ 0 then ruE num den least else if 60 < l.length then 8 else if anyN (fun k => !vaB (gi l k)) l.length = true then 2 else if (l.length : Int) < least then 11 else 0
/-- The place of the ranked value: ranks count from 1 on. -/
def rkP (n : Nat) (num den : Int) : Nat := ((n * num + den - 1) / den - 1).toNat
structure RkO (l : List Int) (num den least : Int) : Prop where
  d : 1 ≤ den ∧ den ≤ 1000
  n : 1 ≤ num ∧ num ≤ den
  ls : 1 ≤ least ∧ least ≤ 60
  len : l.length ≤ 60
  pos : 1 ≤ l.length
  le : least ≤ l.length
  va : ∀ k, k < l.length → 0 ≤ gi l k ∧ gi l k ≤ 1000000000
theorem rkE_ok {l : List Int} {num den least : Int} (h : rkE l num den least = 0) : RkO l num den least := by
  unfold rkE at h
  by_cases h1 : ruE num den least = 0
  case neg => rw [if_pos h1] at h; exact absurd h h1
  rw [if_neg (by omega)] at h
  by_cases h2 : 60 < l.length
  · rw [if_pos h2] at h; cases h
  rw [if_neg h2] at h
  by_cases h3 : anyN (fun k => !vaB (gi l k)) l.length = true
  · rw [if_pos h3] at h; cases h
  rw [if_neg h3] at h
  by_cases h4 : (l.length : Int) < least
  · rw [if_pos h4] at h; cases h
  unfold ruE at h1
  by_cases h5 : withinB den 1 1000 = true ∧ withinB num 1 den = true ∧ withinB least 1 60 = true
  case neg => rw [if_neg h5] at h1; cases h1
  obtain ⟨a1, a2, a3⟩ := h5
  unfold withinB at a1 a2 a3
  simp only [Bool.and_eq_true, decide_eq_true_eq] at a1 a2 a3
  refine ⟨a1, a2, a3, by omega, by omega, by omega, fun k hk => ?_⟩
  have h6 := (anyN_no _ _).1 (by simpa using h3) k hk
  unfold vaB withinB at h6
  simp only [Bool.not_eq_false', Bool.and_eq_true, decide_eq_true_eq] at h6
  exact h6
theorem rkE_mk {l : List Int} {num den least : Int} (h : RkO l num den least) : rkE l num den least = 0 := by
  have h1 : ruE num den least = 0 := by
    unfold ruE withinB
    rw [if_pos]
    simp only [Bool.and_eq_true, decide_eq_true_eq]
    exact ⟨h.d, h.n, h.ls⟩
  have h2 := h.len
  have h3 := h.le
  have h4 : anyN (fun k => !vaB (gi l k)) l.length = false := (anyN_no _ _).2 fun k hk => by
    have := h.va k hk
    unfold vaB withinB
    simp only [Bool.not_eq_false', Bool.and_eq_true, decide_eq_true_eq]
    exact this
  unfold rkE
  rw [if_neg (by omega), if_neg (by omega), if_neg (by rw [h4]; decide), if_neg (by omega)]
theorem RkO.place {l : List Int} {num den least : Int} (h : RkO l num den least) : rkP l.length num den < l.length ∧ ((l.length * num + den - 1) / den : Int) = (rkP l.length num den : Int) + 1 ∧ (l.length : Int) * num ≤ ((rkP l.length num den : Int) + 1) * den := by
  obtain ⟨d1, d2⟩ := h.d
  obtain ⟨n1, n2⟩ := h.n
  have hp := h.pos
  have hl := h.len
  unfold rkP
  generalize l.length = n at *
  have e1 : (n : Int) * 1 ≤ n * num := Int.mul_le_mul_of_nonneg_left n1 (by omega)
  have e2 : (n : Int) * num ≤ n * den := Int.mul_le_mul_of_nonneg_left n2 (by omega)
  generalize (n : Int) * num = p at *
  have q1 := Int.mul_ediv_add_emod (p + den - 1) den
  have q2 := Int.emod_nonneg (p + den - 1) (show den ≠ 0 by omega)
  have q3 := Int.emod_lt_of_pos (p + den - 1) (show 0 < den by omega)
  have q4 : 1 ≤ (p + den - 1) / den := by
    rw [Int.le_ediv_iff_mul_le (by omega)]; omega
  have q5 : (p + den - 1) / den < (n : Int) + 1 := by
    rw [Int.ediv_lt_iff_lt_mul (by omega), Int.add_mul]; omega
  generalize (p + den - 1) / den = q at *
  generalize (p + den - 1) % den = m at *
  have e3 : ((q - 1).toNat : Int) + 1 = q := by omega
  refine ⟨by omega, by omega, ?_⟩
  rw [e3, Int.mul_comm q den]
  omega
def rkV (l : List Int) (num den least : Int) : Int := if rkE l num den least = 0 then rkN l (rkP l.length num den) else 0
theorem rkV_ok {l : List Int} {num den least : Int} (h : rkE l num den least = 0) : rkV l num den least = rkN l (rkP l.length num den) := by unfold rkV; rw [if_pos h]
theorem rkV_no {l : List Int} {num den least : Int} (h : rkE l num den least ≠ 0) : rkV l num den least = 0 := by unfold rkV; rw [if_neg h]
theorem RkO.of_mem {l m : List Int} {num den least : Int} (h : RkO l num den least) (hl : m.length = l.length) (hm : ∀ x ∈ m, 0 ≤ x ∧ x ≤ 1000000000) : RkO m num den least :=
  ⟨h.d, h.n, h.ls, by have := h.len; omega, by have := h.pos; omega, by have := h.le; omega, fun k hk => by rw [gi_lt _ _ hk]; exact hm _ (List.getElem_mem hk)⟩
theorem RkO.mem {l : List Int} {num den least : Int} (h : RkO l num den least) : ∀ x ∈ l, 0 ≤ x ∧ x ≤ 1000000000 := fun x hx => by
  obtain ⟨k, hk, rfl⟩ := List.getElem_of_mem hx
  have := h.va k hk
  rwa [gi_lt _ _ hk] at this
/-- The values from k on, then those before. -/
def rotL (l : List Int) (k : Nat) : List Int := l.drop k ++ l.take k
theorem rotL_perm (l : List Int) (k : Nat) : (rotL l k).Perm l := by
  have h := List.perm_append_comm (l₁ := l.drop k) (l₂ := l.take k)
  rw [List.take_append_drop] at h
  exact h
theorem rotL_len (l : List Int) (k : Nat) : (rotL l k).length = l.length := (rotL_perm l k).length_eq
theorem cntLe_set0 {l : List Int} {y : Int} (hy : gi l 0 ≤ y) (hl : 0 < l.length) (x : Int) : cntLe (l.set 0 y) x ≤ cntLe l x := by
  cases l with
  | nil => simp at hl
  | cons z t =>
    rw [gi_zero] at hy
    rw [show (z :: t).set 0 y = y :: t from rfl, cntLe_cons, cntLe_cons]
    by_cases h : y ≤ x
    · rw [if_pos h, if_pos (by omega)]; exact Nat.le_refl _
    · rw [if_neg h]; omega
/-- How many of the first k values are at most x. -/
theorem cntLe_take (l : List Int) (x : Int) {k : Nat} (hk : k < l.length) : cntLe (l.take (k + 1)) x = cntLe (l.take k) x + (if gi l k ≤ x then 1 else 0) := by
  rw [List.take_succ_eq_append_getElem hk, gi_lt _ _ hk]
  unfold cntLe
  rw [List.filter_append, List.length_append]
  congr 1
  by_cases h : l[k] ≤ x
  · rw [if_pos h]; simp [h]
  · rw [if_neg h]; simp [h]
end Go.Proofs.Ytohdplnlbnoojaa

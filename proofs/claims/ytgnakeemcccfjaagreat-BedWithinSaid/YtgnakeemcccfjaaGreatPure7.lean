/- Plain mathematics of polygons: what is wrong with one, the program's way and the reference's. Nothing of the program. -/
import Derived.Test.YtgnakeemcccfjaaGreatPure6
namespace Go.Proofs.YtgnakeemcccfjaaGreat
open Go Go.RowKit Go.IntWalk

section
variable (F M : Pt → Pt → Pt → Pt → Bool) (B : Pt → Pt → Pt → Bool)
/-- Two neighbouring edges a b and b c fold back. -/
def foldG (a b b' c : Pt) : Bool := B a b c || B b' c a
/-- The program's clash of the edges j and i. -/
def clashG (l : List Pt) (j i : Nat) : Bool :=
  if i = j + 1 then foldG B (cor l j) (cor l (j + 1)) (cor l i) (cor l (i + 1))
  else if j = 0 ∧ i + 1 = l.length then foldG B (cor l i) (cor l (i + 1)) (cor l j) (cor l (j + 1))
  else M (cor l j) (cor l (j + 1)) (cor l i) (cor l (i + 1))
def sidesG (l : List Pt) : Bool := anyN (fun i => anyN (fun j => clashG M B l j i) i) l.length
/-- The reference's. -/
def dupR (l : List Pt) : Bool := anyN (fun i => anyN (fun k => decide (cor l i = cor l k)) i) l.length
def farR (l : List Pt) (i k : Nat) : Bool := decide ((k + 1) % l.length ≠ i) && M (cor l i) (cor l (i + 1)) (cor l k) (cor l (k + 1))
def foldR (l : List Pt) (i : Nat) : Bool := B (cor l i) (cor l (i + 1)) (cor l (i + 2)) || B (cor l (i + 1)) (cor l (i + 2)) (cor l i)
def formR (l : List Pt) : Bool := anyN (fun i => foldR B l i || anyN (fun k => farR M l i (i + 2 + k)) (l.length - (i + 2))) l.length
theorem cor_add (l : List Pt) (i : Nat) : cor l (i + l.length) = cor l i := by unfold cor; simp
theorem form_same (l : List Pt) (hn : 3 ≤ l.length) (hB : ∀ a b : Pt, good a = true → good b = true → B a b a = true) (hM : ∀ a b c, good a = true → good b = true → good c = true → M a b a c = true) (hg : allGood l = true) :
    sidesG M B l = (dupR l || formR M B l) := by
  rw [Bool.eq_iff_iff, Bool.or_eq_true]
  constructor
  · intro h
    obtain ⟨i, hi, h⟩ := (anyN_iff _ _).1 h
    obtain ⟨j, hj, h⟩ := (anyN_iff _ _).1 h
    right
    unfold clashG at h
    by_cases h1 : i = j + 1
    · rw [if_pos h1] at h
      subst h1
      refine anyN_at _ (k := j) (by omega) ?_
      rw [Bool.or_eq_true]; left
      exact h
    · rw [if_neg h1] at h
      by_cases h2 : j = 0 ∧ i + 1 = l.length
      · rw [if_pos h2] at h
        obtain ⟨rfl, h2⟩ := h2
        refine anyN_at _ (k := i) hi ?_
        rw [Bool.or_eq_true]; left
        unfold foldR
        unfold foldG at h
        have e1 : cor l (i + 1) = cor l 0 := by rw [h2, cor_len]
        have e2 : cor l (i + 2) = cor l (0 + 1) := by rw [show i + 2 = 0 + 1 + l.length by omega, cor_add]
        rw [e1, e2]
        rw [e1] at h
        exact h
      · rw [if_neg h2] at h
        refine anyN_at _ (k := j) (by omega) ?_
        rw [Bool.or_eq_true]; right
        refine anyN_at _ (k := i - (j + 2)) (by omega) ?_
        have e : j + 2 + (i - (j + 2)) = i := by omega
        rw [e]
        unfold farR
        rw [h, Bool.and_true, decide_eq_true_eq]
        by_cases h3 : i + 1 = l.length
        · rw [h3, Nat.mod_self]; omega
        · rw [Nat.mod_eq_of_lt (by omega)]; omega
  · rintro (h | h)
    · obtain ⟨i, hi, h⟩ := (anyN_iff _ _).1 h
      obtain ⟨k, hk, h⟩ := (anyN_iff _ _).1 h
      rw [decide_eq_true_eq] at h
      refine anyN_at _ (k := i) hi (anyN_at _ (k := k) hk ?_)
      unfold clashG foldG
      split
      · rw [Bool.or_eq_true]; right
        rw [← h]; exact hB _ _ (cor_good hg _) (cor_good hg _)
      · split
        · rename_i h1 h2
          rw [Bool.or_eq_true]; right
          rw [h]; exact hB _ _ (cor_good hg _) (cor_good hg _)
        · rw [h]; exact hM _ _ _ (cor_good hg _) (cor_good hg _) (cor_good hg _)
    · obtain ⟨i, hi, h⟩ := (anyN_iff _ _).1 h
      rw [Bool.or_eq_true] at h
      rcases h with h | h
      · by_cases h1 : i + 1 = l.length
        · refine anyN_at _ (k := i) hi (anyN_at _ (k := 0) (by omega) ?_)
          unfold clashG
          rw [if_neg (by omega), if_pos ⟨rfl, h1⟩]
          unfold foldG
          unfold foldR at h
          have e1 : cor l (i + 1) = cor l 0 := by rw [h1, cor_len]
          have e2 : cor l (i + 2) = cor l (0 + 1) := by rw [show i + 2 = 0 + 1 + l.length by omega, cor_add]
          rw [e1, e2] at h
          rw [e1]
          exact h
        · refine anyN_at _ (k := i + 1) (by omega) (anyN_at _ (k := i) (by omega) ?_)
          unfold clashG
          rw [if_pos rfl]
          exact h
      · obtain ⟨k, hk, h⟩ := (anyN_iff _ _).1 h
        unfold farR at h
        rw [Bool.and_eq_true, decide_eq_true_eq] at h
        refine anyN_at _ (k := i + 2 + k) (by omega) (anyN_at _ (k := i) (by omega) ?_)
        unfold clashG
        rw [if_neg (by omega), if_neg (by
          rintro ⟨rfl, h2⟩
          apply h.1
          rw [h2, Nat.mod_self])]
        exact h.2
end
end Go.Proofs.YtgnakeemcccfjaaGreat

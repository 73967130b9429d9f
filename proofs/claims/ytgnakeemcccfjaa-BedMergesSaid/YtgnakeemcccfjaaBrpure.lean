/- Reaching cells step by step: the marks of the reference's search. -/
import Derived.Test.YtgnakeemcccfjaaBways
namespace Go.Proofs.Ytgnakeemcccfjaa

section
variable {adj : Nat → Nat → Prop} {op : Nat → Bool} {n : Nat} {F T : List Nat}
/-- There is a way to a cell. -/
def Rch (adj : Nat → Nat → Prop) (op : Nat → Bool) (n : Nat) (F : List Nat) (i : Nat) : Prop := ∃ p, IsWay adj op n F [i] p
theorem rch_start {i : Nat} (hi : i < n) (ho : op i = true) (hF : i ∈ F) : Rch adj op n F i := by
  refine ⟨[i], by simp, hF, by simp [gn], fun k hk => ?_, fun k hk => by simp at hk⟩
  have : k = 0 := by simpa using hk
  subst this; exact ⟨hi, ho⟩
theorem rch_step {i k : Nat} (h : Rch adj op n F k) (ha : adj k i) (hi : i < n) (ho : op i = true) : Rch adj op n F i := by
  obtain ⟨p, h0, h1, h2, h3, h4⟩ := h
  have h2 : gn p (p.length - 1) = k := by simpa using h2
  refine ⟨p ++ [i], by simp, by rw [gn_snoc_old _ _ _ h0]; exact h1, ?_, fun j hj => ?_, fun j hj => ?_⟩
  · rw [show (p ++ [i]).length - 1 = p.length by simp, gn_snoc_new]; simp
  · by_cases hjp : j < p.length
    · rw [gn_snoc_old _ _ _ hjp]; exact h3 j hjp
    · have : j = p.length := by simp at hj; omega
      subst this; rw [gn_snoc_new]; exact ⟨hi, ho⟩
  · by_cases hjp : j + 1 < p.length
    · rw [gn_snoc_old _ _ _ hjp, gn_snoc_old _ _ _ (by omega)]; exact h4 j hjp
    · have : j + 1 = p.length := by simp at hj; omega
      rw [this, gn_snoc_new, gn_snoc_old _ _ _ (by omega), show j = p.length - 1 by omega, h2]; exact ha
/-- A cell could be marked next. -/
def nxt (adj : Nat → Nat → Prop) (op : Nat → Bool) (n : Nat) (F : List Nat) (b : Nat → Bool) (i : Nat) : Prop := op i = true ∧ (i ∈ F ∨ ∃ k, k < n ∧ b k = true ∧ adj k i)
/-- All marks are right. -/
def Sound (adj : Nat → Nat → Prop) (op : Nat → Bool) (n : Nat) (F : List Nat) (b : Nat → Bool) : Prop := ∀ i, i < n → b i = true → Rch adj op n F i
theorem rch_closed {b : Nat → Bool} (hb : ∀ i, i < n → nxt adj op n F b i → b i = true) {i : Nat} (h : Rch adj op n F i) : b i = true ∧ i < n := by
  obtain ⟨p, h0, h1, h2, h3, h4⟩ := h
  have h2 : gn p (p.length - 1) = i := by simpa using h2
  have key : ∀ k, k < p.length → b (gn p k) = true := by
    intro k
    induction k with
    | zero => intro hk; exact hb _ (h3 0 hk).1 ⟨(h3 0 hk).2, .inl h1⟩
    | succ k ih => intro hk; exact hb _ (h3 (k + 1) hk).1 ⟨(h3 (k + 1) hk).2, .inr ⟨gn p k, (h3 k (by omega)).1, ih (by omega), h4 k hk⟩⟩
  rw [← h2]
  exact ⟨key _ (by omega), (h3 _ (by omega)).1⟩
theorem rch_way : (∃ t ∈ T, Rch adj op n F t) ↔ ∃ p, IsWay adj op n F T p := by
  constructor
  · rintro ⟨t, ht, p, h0, h1, h2, h3, h4⟩
    have h2 : gn p (p.length - 1) = t := by simpa using h2
    exact ⟨p, h0, h1, by rw [h2]; exact ht, h3, h4⟩
  · rintro ⟨p, h0, h1, h2, h3, h4⟩
    exact ⟨_, h2, p, h0, h1, by simp, h3, h4⟩
end
/-- How many marks there are below n. -/
def cntB (b : Nat → Bool) : Nat → Nat
  | 0 => 0
  | k + 1 => cntB b k + (if b k then 1 else 0)
theorem cntB_le (b : Nat → Bool) : ∀ n, cntB b n ≤ n
  | 0 => Nat.le_refl _
  | n + 1 => by have := cntB_le b n; unfold cntB; split <;> omega
def upB (b : Nat → Bool) (i : Nat) : Nat → Bool := fun k => if k = i then true else b k
theorem cntB_up_lo (b : Nat → Bool) (i : Nat) : ∀ n, n ≤ i → cntB (upB b i) n = cntB b n
  | 0, _ => rfl
  | n + 1, h => by
    have h1 : upB b i n = b n := by unfold upB; rw [if_neg (show ¬ n = i by omega)]
    unfold cntB; rw [cntB_up_lo b i n (by omega), h1]
theorem cntB_up {b : Nat → Bool} {i : Nat} (hb : b i = false) : ∀ n, i < n → cntB (upB b i) n = cntB b n + 1
  | 0, h => by omega
  | n + 1, h => by
    unfold cntB
    by_cases hi : i = n
    · subst hi
      rw [cntB_up_lo b i i (Nat.le_refl _), hb]
      simp [upB]
    · rw [cntB_up hb n (by omega)]
      have : upB b i n = b n := by unfold upB; rw [if_neg (show ¬ n = i by omega)]
      rw [this]; omega
end Go.Proofs.Ytgnakeemcccfjaa

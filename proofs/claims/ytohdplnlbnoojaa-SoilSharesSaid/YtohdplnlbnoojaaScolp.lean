/- What the parts of a column are. -/
import Derived.Test.YtohdplnlbnoojaaScol2
namespace Go.Proofs.Ytohdplnlbnoojaa
open Go Go.RowKit Go.IntWalk

/-- Parts that follow each other from a level down to another one. -/
def chn : Int → List Pa → Int → Prop
  | v, [], w => v = w
  | v, p :: ps, w => p.t = v ∧ chn p.b ps w
theorem chn_put {p : Pa} {w : Int} (hw : p.t = w) : ∀ {l : List Pa} {v : Int}, chn v l w → chn v (l ++ [p]) p.b
  | [], _, h => ⟨hw.trans (Eq.symm h), rfl⟩
  | _ :: _, _, h => ⟨h.1, chn_put hw h.2⟩
/-- What is so of a part: soil s at each of its levels above the bottom. -/
def okPa (l : List La) (a b : Int) (p : Pa) : Prop := p.b < p.t ∧ b ≤ p.b ∧ p.t ≤ a ∧ ∀ q, p.b < q → q ≤ p.t → (el l (layN l q l.length)).s = p.s
theorem layN_eq (l : List La) (q : Int) {k : Nat} (h2 : 0 < k → q ≤ (el l k).t) : ∀ {n : Nat}, k < n → (∀ j, k < j → j < n → (el l j).t < q) → layN l q n = k
  | 0, hk, _ => absurd hk (Nat.not_lt_zero _)
  | n + 1, hk, h1 => by
    rw [layN]
    by_cases hn : k = n
    · subst hn
      rcases Nat.eq_zero_or_pos k with h0 | h0
      · subst h0
        split
        · rfl
        · rfl
      · rw [if_pos (h2 h0)]
    · have h3 := h1 n (by omega) (by omega)
      rw [if_neg (by omega)]
      exact layN_eq l q h2 (by omega) fun j hj hjn => h1 j hj (by omega)
theorem desc_lt {l : List La} (hd : ∀ k, 0 < k → k < l.length → (el l k).t < (el l (k - 1)).t) {i : Nat} : ∀ {j : Nat}, i < j → j < l.length → (el l j).t < (el l i).t
  | 0, h, _ => absurd h (Nat.not_lt_zero _)
  | j + 1, h, hj => by
    have h1 := hd (j + 1) (by omega) hj
    rw [Nat.add_sub_cancel] at h1
    by_cases hi : i = j
    · subst hi; exact h1
    · have h2 := desc_lt hd (i := i) (j := j) (by omega) (by omega)
      omega
/-- The level behind the first k layers. -/
def lvC (l : List La) (a b : Int) (k : Nat) : Int := if k = 0 then a else if k < l.length then max b (min a (el l k).t) else b
theorem lvC_step (l : List La) (a b : Int) (hab : b ≤ a) (hd : ∀ k, 0 < k → k < l.length → (el l k).t < (el l (k - 1)).t) {k : Nat} (hk : k < l.length) :
    (colB l b k < colT l a k → colT l a k = lvC l a b k ∧ colB l b k = lvC l a b (k + 1)) ∧ (¬ colB l b k < colT l a k → lvC l a b (k + 1) = lvC l a b k) := by
  have h1 : k + 1 < l.length → (el l (k + 1)).t < (el l k).t := fun h => by have := hd (k + 1) (by omega) h; rwa [Nat.add_sub_cancel] at this
  unfold colB colT lvC
  generalize (el l (k + 1)).t = t1 at *
  generalize (el l k).t = t0 at *
  rw [if_neg (show ¬ k + 1 = 0 by omega)]
  by_cases h0 : k = 0
  · rw [if_neg (show ¬ 0 < k by omega), if_pos h0]
    by_cases h2 : k + 1 < l.length
    · have := h1 h2
      rw [if_pos h2, if_pos h2]
      omega
    · rw [if_neg h2, if_neg h2]
      omega
  · rw [if_pos (show 0 < k by omega), if_neg h0, if_pos hk]
    by_cases h2 : k + 1 < l.length
    · have := h1 h2
      rw [if_pos h2, if_pos h2]
      omega
    · rw [if_neg h2, if_neg h2]
      omega
theorem part_ok (l : List La) (a b : Int) (hd : ∀ k, 0 < k → k < l.length → (el l k).t < (el l (k - 1)).t) {k : Nat} (hk : k < l.length) (h : colB l b k < colT l a k) : okPa l a b ⟨(el l k).s, colT l a k, colB l b k⟩ := by
  have hB : colB l b k = if k + 1 < l.length then max b (el l (k + 1)).t else b := rfl
  have hT : colT l a k = if 0 < k then min a (el l k).t else a := rfl
  refine ⟨h, ?_, ?_, fun q h1 h2 => ?_⟩
  · show b ≤ colB l b k
    rw [hB]; split <;> omega
  · show colT l a k ≤ a
    rw [hT]; split <;> omega
  · show (el l (layN l q l.length)).s = (el l k).s
    have h1 : colB l b k < q := h1
    have h2 : q ≤ colT l a k := h2
    rw [layN_eq l q (k := k) (fun h0 => by rw [hT, if_pos h0] at h2; omega) hk (fun j hj hjl => by
      rw [hB, if_pos (show k + 1 < l.length by omega)] at h1
      by_cases hjk : j = k + 1
      · subst hjk; omega
      · have := desc_lt hd (i := k + 1) (j := j) (by omega) hjl
        omega)]
theorem colN_ok (l : List La) (a b : Int) (hab : b ≤ a) (hd : ∀ k, 0 < k → k < l.length → (el l k).t < (el l (k - 1)).t) : ∀ k, k ≤ l.length → chn a (colN l a b k) (lvC l a b k) ∧ ∀ p ∈ colN l a b k, okPa l a b p
  | 0, _ => ⟨rfl, fun p hp => by cases hp⟩
  | k + 1, hk => by
    obtain ⟨h1, h2⟩ := colN_ok l a b hab hd k (by omega)
    obtain ⟨h3, h4⟩ := lvC_step l a b hab hd (show k < l.length by omega)
    rw [colN]
    by_cases h : colB l b k < colT l a k
    · rw [if_pos h]
      obtain ⟨h5, h6⟩ := h3 h
      refine ⟨?_, fun p hp => ?_⟩
      · rw [← h6]
        exact chn_put (p := ⟨(el l k).s, colT l a k, colB l b k⟩) h5 h1
      · rcases List.mem_append.1 hp with hp | hp
        · exact h2 p hp
        · rw [List.mem_singleton.1 hp]
          exact part_ok l a b hd (by omega) h
    · rw [if_neg h, h4 h]
      exact ⟨h1, h2⟩
theorem col_ok {l : List La} {a b : Int} (hab : b ≤ a) (hp : 0 < l.length) (hd : ∀ k, 0 < k → k < l.length → (el l k).t < (el l (k - 1)).t) : chn a (colN l a b l.length) b ∧ ∀ p ∈ colN l a b l.length, okPa l a b p := by
  obtain ⟨h1, h2⟩ := colN_ok l a b hab hd l.length (Nat.le_refl _)
  unfold lvC at h1
  rw [if_neg (show ¬ l.length = 0 by omega), if_neg (show ¬ l.length < l.length by omega)] at h1
  exact ⟨h1, h2⟩
theorem chn_drop {L : List Pa} {v w : Int} {i : Nat} (h : chn v (L.drop i) w) (hi : i < L.length) : (el L i).t = v ∧ chn (el L i).b (L.drop (i + 1)) w := by
  rw [List.drop_eq_getElem_cons hi] at h
  rw [el_lt _ _ hi]
  exact h
theorem chn_end {L : List Pa} {v w : Int} {i : Nat} (h : chn v (L.drop i) w) (hi : L.length ≤ i) : v = w := by
  rw [List.drop_eq_nil_of_le hi] at h
  exact h
end Go.Proofs.Ytohdplnlbnoojaa

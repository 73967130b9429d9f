/- The rule of twelfths: the marks that are added. -/
import Derived.Test.YtblmljcgjibfgaaTrshift
namespace Go.Proofs.Ytblmljcgjibfgaa
open Go Go.RowKit Go.IntWalk

def tw : Nat → Int
  | 0 => 1
  | 1 => 3
  | 2 => 6
  | 3 => 9
  | _ => 11
theorem tw_bd (k : Nat) : 1 ≤ tw k ∧ tw k ≤ 11 := by
  match k with
  | 0 => decide
  | 1 => decide
  | 2 => decide
  | 3 => decide
  | k + 4 => exact ⟨by show (1 : Int) ≤ 11; decide, by show (11 : Int) ≤ 11; decide⟩
def sixth (a b : Pt) (k : Nat) : Pt := ⟨a.x + ((k : Int) + 1) * (b.x - a.x) / 6, a.y + tw k * (b.y - a.y) / 12⟩
def lastX (O : List Pt) : Int := (gt O (O.length - 1)).x
def add1 (O : List Pt) (m : Pt) : List Pt := if lastX O < m.x then O ++ [m] else O
def addS (a b : Pt) (O : List Pt) : Nat → List Pt
  | 0 => O
  | k + 1 => add1 (addS a b O k) (sixth a b k)
def twL (l : List Pt) : Nat → List Pt
  | 0 => []
  | k + 1 => (if 0 < k then addS (gt l (k - 1)) (gt l k) (twL l k) 5 else twL l k) ++ [gt l k]
theorem add1_len (O : List Pt) (m : Pt) : O.length ≤ (add1 O m).length ∧ (add1 O m).length ≤ O.length + 1 := by
  unfold add1; split <;> simp
theorem addS_succ (a b : Pt) (O : List Pt) (k : Nat) : addS a b O (k + 1) = if lastX (addS a b O k) < (sixth a b k).x then addS a b O k ++ [sixth a b k] else addS a b O k := rfl
theorem addS_len (a b : Pt) (O : List Pt) : ∀ k, O.length ≤ (addS a b O k).length ∧ (addS a b O k).length ≤ O.length + k
  | 0 => ⟨Nat.le_refl _, Nat.le_refl _⟩
  | k + 1 => by
    have h1 := addS_len a b O k
    have h2 := add1_len (addS a b O k) (sixth a b k)
    rw [addS]
    omega
theorem twL_len (l : List Pt) : ∀ k, k ≤ (twL l k).length ∧ (twL l k).length ≤ 6 * k
  | 0 => ⟨Nat.le_refl _, Nat.le_refl _⟩
  | k + 1 => by
    have h1 := twL_len l k
    rw [twL, List.length_append]
    split
    · have h2 := addS_len (gt l (k - 1)) (gt l k) (twL l k) 5
      simp; omega
    · simp; omega
theorem twL_last (l : List Pt) (k : Nat) : ∃ S, twL l (k + 1) = S ++ [gt l k] := ⟨_, rfl⟩
theorem sixth_x {a b : Pt} (h : a.x < b.x) {k : Nat} (hk : k < 5) : a.x ≤ (sixth a b k).x ∧ (sixth a b k).x < b.x := by
  unfold sixth
  dsimp only
  have h0 : 0 < b.x - a.x := by omega
  generalize hd : b.x - a.x = d at *
  have : b.x = a.x + d := by omega
  rw [this]
  match k, hk with
  | 0, _ => simp; omega
  | 1, _ => simp; omega
  | 2, _ => simp; omega
  | 3, _ => simp; omega
  | 4, _ => simp; omega
theorem sixth_y (a b : Pt) (k : Nat) : min a.y b.y ≤ (sixth a b k).y ∧ (sixth a b k).y ≤ max a.y b.y := by
  unfold sixth
  dsimp only
  generalize hd : b.y - a.y = d
  have : b.y = a.y + d := by omega
  rw [this]
  have ht : tw k = 1 ∨ tw k = 3 ∨ tw k = 6 ∨ tw k = 9 ∨ tw k = 11 := by
    match k with
    | 0 => simp [tw]
    | 1 => simp [tw]
    | 2 => simp [tw]
    | 3 => simp [tw]
    | k + 4 => simp [tw]
  rcases ht with h | h | h | h | h <;> rw [h] <;> omega
/-- Ascending minutes. -/
def Asc (O : List Pt) : Prop := O.Pairwise (fun p q => p.x < q.x)
theorem lastX_app (S : List Pt) (p : Pt) : lastX (S ++ [p]) = p.x := by
  unfold lastX gt
  simp [List.getD]
theorem asc_snoc {S : List Pt} {p m : Pt} (h : Asc (S ++ [p])) (hm : p.x < m.x) : Asc (S ++ [p] ++ [m]) := by
  unfold Asc at *
  rw [List.pairwise_append]
  refine ⟨h, by simp, fun a ha b hb => ?_⟩
  have hb : b = m := by simpa using hb
  subst hb
  rw [List.mem_append] at ha
  rcases ha with ha | ha
  · have := (List.pairwise_append.1 h).2.2 a ha p (by simp)
    omega
  · have : a = p := by simpa using ha
    subst this; exact hm
/-- What each mark that was added between a and b is. -/
def Betw (a b m : Pt) : Prop := m = a ∨ (a.x < m.x ∧ m.x < b.x ∧ min a.y b.y ≤ m.y ∧ m.y ≤ max a.y b.y)
theorem addS_ok {a b : Pt} (hab : a.x < b.x) (S : List Pt) (hA : Asc (S ++ [a])) : ∀ k, k ≤ 5 → ∃ T p, addS a b (S ++ [a]) k = S ++ T ++ [p] ∧ Asc (S ++ T ++ [p]) ∧ (∀ m ∈ T ++ [p], Betw a b m) ∧ a.x ≤ p.x ∧ p.x < b.x
  | 0, _ => ⟨[], a, by simp [addS], by simpa using hA, fun m hm => by simp at hm; subst hm; exact .inl rfl, Int.le_refl _, hab⟩
  | k + 1, hk => by
    obtain ⟨T, p, h1, h2, h3, h4, h5⟩ := addS_ok hab S hA k (by omega)
    rw [addS, h1]
    unfold add1
    rw [lastX_app]
    obtain ⟨x1, x2⟩ := sixth_x hab (show k < 5 by omega)
    split
    · rename_i hlt
      refine ⟨T ++ [p], sixth a b k, by simp, by have := asc_snoc h2 hlt; simpa using this, fun m hm => ?_, x1, x2⟩
      rw [List.mem_append] at hm
      rcases hm with hm | hm
      · exact h3 m hm
      · have : m = sixth a b k := by simpa using hm
        subst this
        have hy := sixth_y a b k
        exact .inr ⟨by omega, x2, hy.1, hy.2⟩
    · exact ⟨T, p, rfl, h2, h3, h4, h5⟩
/-- Where a mark of the result lies: at a mark, or between it and the next one. -/
def At (l : List Pt) (n : Nat) (m : Pt) : Prop := ∃ k, k < n ∧ (m = gt l k ∨ (k + 1 < n ∧ (gt l k).x < m.x ∧ m.x < (gt l (k + 1)).x ∧ min (gt l k).y (gt l (k + 1)).y ≤ m.y ∧ m.y ≤ max (gt l k).y (gt l (k + 1)).y))
theorem At.mono {l : List Pt} {n n' : Nat} {m : Pt} (h : At l n m) (hn : n ≤ n') : At l n' m := by
  obtain ⟨k, hk, h⟩ := h
  exact ⟨k, by omega, by rcases h with h | ⟨h1, h2⟩; exact .inl h; exact .inr ⟨by omega, h2⟩⟩
theorem twL_ok {l : List Pt} (hG : Good l) : ∀ k, k < l.length → Asc (twL l (k + 1)) ∧ ∀ m ∈ twL l (k + 1), At l (k + 1) m
  | 0, _ => by
    rw [twL, twL, if_neg (by omega)]
    exact ⟨by simp [Asc], fun m hm => ⟨0, by omega, .inl (by simpa using hm)⟩⟩
  | k + 1, hk => by
    obtain ⟨h1, h2⟩ := twL_ok hG k (by omega)
    obtain ⟨S, hS⟩ := twL_last l k
    rw [hS] at h1 h2
    have hab := hG.asc k hk
    obtain ⟨T, p, g1, g2, g3, g4, g5⟩ := addS_ok hab S h1 5 (Nat.le_refl _)
    have e : twL l (k + 1 + 1) = S ++ T ++ [p] ++ [gt l (k + 1)] := by
      rw [twL, if_pos (by omega), Nat.add_sub_cancel, hS, g1]
    rw [e]
    refine ⟨asc_snoc g2 g5, fun m hm => ?_⟩
    rw [List.mem_append] at hm
    rcases hm with hm | hm
    · rw [List.append_assoc, List.mem_append] at hm
      rcases hm with hm | hm
      · exact (h2 m (List.mem_append_left _ hm)).mono (by omega)
      · rcases g3 m hm with h | h
        · exact ⟨k, by omega, .inl h⟩
        · exact ⟨k, by omega, .inr ⟨by omega, h⟩⟩
    · exact ⟨k + 1, by omega, .inl (by simpa using hm)⟩
end Go.Proofs.Ytblmljcgjibfgaa

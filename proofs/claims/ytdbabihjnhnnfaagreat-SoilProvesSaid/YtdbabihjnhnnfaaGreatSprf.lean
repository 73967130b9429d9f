/- When levels are those to which others slump: they are stable, and each lowered cell is held by a neighbour. Nothing of the program but its names. -/
import Derived.Test.YtdbabihjnhnnfaaGreatSlp
namespace Go.Proofs.YtdbabihjnhnnfaaGreat
open Go Go.RowKit Go.IntWalk

/-- Cell i is as high above a neighbour as may be. -/
def HeldP (ps : List (Nat × Nat)) (al : Nat → Nat → Int) (L : List Int) (i : Nat) : Prop := ∃ j, ((i, j) ∈ ps ∨ (j, i) ∈ ps) ∧ gi L i = gi L j + al i j
theorem held_top {ps : List (Nat × Nat)} {al : Nat → Nat → Int} {M L : List Int} (hc : ∀ a b, al a b = al b a) (hp : ∀ p ∈ ps, 0 < al p.1 p.2) (hlo : ∀ i, -20000 ≤ gi L i) (hh : ∀ i, gi L i ≠ gi M i → HeldP ps al L i)
    {X : List Int} (h1 : ∀ i, gi X i ≤ gi M i) (h2 : ∀ p ∈ ps, okP X p.1 p.2 (al p.1 p.2)) : ∀ (n : Nat) (i : Nat), gi L i + 20000 ≤ n → gi X i ≤ gi L i
  | n, i, hn => by
    by_cases hx : gi X i ≤ gi L i
    · exact hx
    exfalso
    have h3 := h1 i
    obtain ⟨j, hj, he⟩ := hh i (by omega)
    have h4 : 0 < al i j ∧ gi X i ≤ gi X j + al i j := by
      rcases hj with hj | hj
      · have h5 := h2 _ hj
        have h6 := hp _ hj
        unfold okP at h5
        simp only at h5 h6
        omega
      · have h5 := h2 _ hj
        have h6 := hp _ hj
        unfold okP at h5
        simp only at h5 h6
        rw [hc i j]
        omega
    have h5 := hlo j
    have h6 := hlo i
    match n with
    | 0 => omega
    | n + 1 =>
      have h7 := held_top hc hp hlo hh h1 h2 n j (by omega)
      omega
/-- Lowered, stable and held: the levels to which others slump. -/
theorem held_sl {ps : List (Nat × Nat)} {al : Nat → Nat → Int} {M L : List Int} (hc : ∀ a b, al a b = al b a) (hp : ∀ p ∈ ps, 0 < al p.1 p.2) (hl : L.length = M.length) (hle : ∀ i, gi L i ≤ gi M i) (hu : ∀ i, gi M i = 30000 → gi L i = 30000) (hlo : ∀ i, -20000 ≤ gi L i) (hok : ∀ p ∈ ps, okP L p.1 p.2 (al p.1 p.2)) (hh : ∀ i, gi L i ≠ gi M i → HeldP ps al L i) : IsSl ps al M L :=
  ⟨⟨hl, hle, hu, fun i _ => hlo i, fun _ h1 h2 i => held_top hc hp hlo hh h1 h2 (gi L i + 20000).toNat i (by have := hlo i; omega)⟩, hok⟩
/-- Each lowered cell of the levels to which others slump is held. -/
theorem sl_held {ps : List (Nat × Nat)} {al : Nat → Nat → Int} {M L : List Int} (hc : ∀ a b, al a b = al b a) (hp : ∀ p ∈ ps, 0 < al p.1 p.2) (h : IsSl ps al M L) {i : Nat} (hi : i < M.length) (hne : gi L i ≠ gi M i) : HeldP ps al L i := by
  apply Classical.byContradiction
  intro hn
  have hl : i < L.length := by rw [h.1.len]; exact hi
  have h0 := h.1.le i
  have h1 := h.1.top (L.set i (gi L i + 1)) (fun j => by
    rw [gi_set _ _ _ hl]
    have := h.1.le j
    split
    · rename_i e; subst e; omega
    · exact this) (fun p hpm => by
    have h2 := h.2 p hpm
    have h3 := hp p hpm
    unfold okP at h2 ⊢
    rw [gi_set _ _ _ hl, gi_set _ _ _ hl]
    obtain ⟨a, b⟩ := p
    simp only at h2 h3 ⊢
    by_cases ha : a = i
    · subst ha
      rw [if_pos rfl]
      have h4 : gi L a ≠ gi L b + al a b := fun e => hn ⟨b, .inl hpm, e⟩
      by_cases hb : b = a
      · subst hb
        rw [if_pos rfl]
        omega
      · rw [if_neg hb]
        omega
    · rw [if_neg ha]
      by_cases hb : b = i
      · subst hb
        rw [if_pos rfl]
        have h4 : gi L b ≠ gi L a + al a b := fun e => hn ⟨a, .inr hpm, by rw [hc b a]; exact e⟩
        omega
      · rw [if_neg hb]
        exact h2) i
  rw [gi_set _ _ _ hl, if_pos rfl] at h1
  omega
end Go.Proofs.YtdbabihjnhnnfaaGreat

/- What join's levels are, against the reference's. -/
import Derived.Test.YtgnakeemcccfjaaBjoin4
namespace Go.Proofs.Ytgnakeemcccfjaa
open Go Go.RowKit Go.IntWalk

theorem knF_iff (L : List Int) (k : Nat) : knB L k = false ↔ gi L k = 30000 := by unfold knB; simp
theorem joL_la (g h : Gr) (k : Nat) : joF opL g h k = laF g h k := by
  unfold joF laF opL
  by_cases h1 : gi g.L k = 30000
  · rw [if_pos ((knF_iff _ _).2 h1)]
    by_cases h2 : gi h.L k = 30000
    · rw [if_pos h2, h1, h2]
    · rw [if_neg h2]
  · rw [if_neg (fun e => h1 ((knF_iff _ _).1 e))]
    by_cases h2 : gi h.L k = 30000
    · rw [if_pos h2, if_pos ((knF_iff _ _).2 h2)]
    · rw [if_neg h2, if_neg (fun e => h2 ((knF_iff _ _).1 e))]
theorem joS_sh (g h : Gr) (k : Nat) : joF opS g h k = shF g h k := by
  unfold joF shF laF opS
  by_cases h1 : gi g.L k = 30000
  · rw [if_pos ((knF_iff _ _).2 h1), if_neg (by intro e; exact e.1 h1)]
    by_cases h2 : gi h.L k = 30000
    · rw [if_pos h2, h1, h2]
    · rw [if_neg h2]
  · rw [if_neg (fun e => h1 ((knF_iff _ _).1 e))]
    by_cases h2 : gi h.L k = 30000
    · rw [if_pos h2, if_pos ((knF_iff _ _).2 h2), if_neg (by intro e; exact absurd e.2 (Int.lt_irrefl _))]
    · rw [if_neg h2, if_neg (fun e => h2 ((knF_iff _ _).1 e))]
      by_cases h3 : gi h.L k < gi g.L k
      · rw [if_pos ⟨h1, h3⟩]; omega
      · rw [if_neg (by intro e; exact h3 e.2)]; omega
theorem joS_comm (g h : Gr) (k : Nat) : joF opS g h k = joF opS h g k := by
  unfold joF opS
  by_cases h1 : gi g.L k = 30000
  · rw [if_pos ((knF_iff _ _).2 h1)]
    by_cases h2 : gi h.L k = 30000
    · rw [if_pos ((knF_iff _ _).2 h2), h1, h2]
    · rw [if_neg (fun e => h2 ((knF_iff _ _).1 e)), if_pos ((knF_iff _ _).2 h1)]
  · rw [if_neg (fun e => h1 ((knF_iff _ _).1 e))]
    by_cases h2 : gi h.L k = 30000
    · rw [if_pos ((knF_iff _ _).2 h2), if_pos ((knF_iff _ _).2 h2)]
    · rw [if_neg (fun e => h2 ((knF_iff _ _).1 e)), if_neg (fun e => h2 ((knF_iff _ _).1 e)), if_neg (fun e => h1 ((knF_iff _ _).1 e))]
      omega
/-- Shoalest is nowhere lower than a known cell. -/
theorem joS_ge (g h : Gr) (k : Nat) : (gi g.L k ≠ 30000 → gi g.L k ≤ joF opS g h k) ∧ (gi h.L k ≠ 30000 → gi h.L k ≤ joF opS g h k) := by
  have main : ∀ g h : Gr, gi g.L k ≠ 30000 → gi g.L k ≤ joF opS g h k := by
    intro g h h1
    unfold joF opS
    rw [if_neg (fun e => h1 ((knF_iff _ _).1 e))]
    split <;> omega
  exact ⟨main g h, fun h1 => by rw [joS_comm]; exact main h g h1⟩
/-- A row that a call has made, between two bounds. -/
def NbZ (lo hi : Nat) (w : World) (A : Option Addr) (l : List Int) : Prop := l = [] ∨ ∃ q c, A = some ⟨q, 0, none⟩ ∧ lo ≤ q ∧ q < hi ∧ OwnK 3 1 encZ w q c l
theorem NbZ.of {base : Nat} {w : World} {A : Option Addr} {c : Nat} {l : List Int} (h : NewZ base w A c l) : NbZ base w.heap.size w A l := by
  rcases h.2.2 with ⟨h1, _⟩ | ⟨q, h1, h2, h3⟩
  · exact .inl h1
  · exact .inr ⟨q, c, h1, h2, h3.lt, h3⟩
theorem NbZ.st {lo hi : Nat} {w : World} {A : Option Addr} {l : List Int} (h : NbZ lo hi w A l) {a : Addr} (ha : a.block < lo ∨ hi ≤ a.block) (v : Value) : NbZ lo hi (w.setCell a v) A l := by
  rcases h with h | ⟨q, c, h1, h2, h3, h4⟩
  · exact .inl h
  · exact .inr ⟨q, c, h1, h2, h3, h4.other (by omega) v⟩
theorem NbZ.ext {lo hi : Nat} {w w' : World} {A : Option Addr} {l : List Int} (h : NbZ lo hi w A l) (hw : Ext w w') : NbZ lo hi w' A l := by
  rcases h with h | ⟨q, c, h1, h2, h3, h4⟩
  · exact .inl h
  · exact .inr ⟨q, c, h1, h2, h3, h4.ext hw⟩
theorem NbZ.row {lo hi : Nat} {w : World} {A : Option Addr} {l : List Int} (h : NbZ lo hi w A l) : Row 1 encZ w A l := by
  rcases h with h | ⟨q, c, h1, h2, h3, h4⟩
  · exact .inl h
  · rw [h1]; exact h4.row encZ_len
end Go.Proofs.Ytgnakeemcccfjaa

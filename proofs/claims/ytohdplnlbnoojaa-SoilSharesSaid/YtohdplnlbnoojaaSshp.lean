/- Heights of the parts of columns, by soils. Nothing of the program but its names. -/
import Derived.Test.YtohdplnlbnoojaaScolp
namespace Go.Proofs.Ytohdplnlbnoojaa
open Go Go.RowKit Go.IntWalk

theorem colN_in (l : List La) (f z : Int) : ∀ k, ∀ p ∈ colN l f z k, z ≤ p.b ∧ p.b < p.t ∧ p.t ≤ f
  | 0, p, hp => by cases hp
  | k + 1, p, hp => by
    rw [colN] at hp
    by_cases h : colB l z k < colT l f k
    · rw [if_pos h] at hp
      rcases List.mem_append.1 hp with hp | hp
      · exact colN_in l f z k p hp
      · rw [List.mem_singleton.1 hp]
        refine ⟨?_, h, ?_⟩
        · show z ≤ colB l z k
          unfold colB; split <;> omega
        · show colT l f k ≤ f
          unfold colT; split <;> omega
    · rw [if_neg h] at hp
      exact colN_in l f z k p hp
def hgF (L : List Pa) (x : ByteArray) (i : Nat) : Int := if sameS (el L i).s x = true then (el L i).t - (el L i).b else 0
/-- What the first parts have of a soil. -/
def hgN (L : List Pa) (x : ByteArray) (k : Nat) : Int := sumN (hgF L x) k
theorem hgN_succ (L : List Pa) (x : ByteArray) (k : Nat) : hgN L x (k + 1) = hgN L x k + hgF L x k := rfl
def LvPa (L : List Pa) : Prop := ∀ p ∈ L, -20000 ≤ p.b ∧ p.b < p.t ∧ p.t ≤ 20000
theorem hgF_bound {L : List Pa} (h : LvPa L) (x : ByteArray) {k : Nat} (hk : k < L.length) : 0 ≤ hgF L x k ∧ hgF L x k ≤ 40000 := by
  have h1 := h (el L k) (by rw [el_lt _ _ hk]; exact List.getElem_mem hk)
  unfold hgF
  split <;> omega
theorem hgN_bound {L : List Pa} (h : LvPa L) (x : ByteArray) : ∀ k, k ≤ L.length → 0 ≤ hgN L x k ∧ hgN L x k ≤ 40000 * (k : Int)
  | 0, _ => by simp [hgN, sumN]
  | k + 1, hk => by
    have h1 := hgN_bound h x k (by omega)
    have h2 := hgF_bound h x (show k < L.length by omega)
    rw [hgN_succ]
    push_cast
    omega
/-- What the columns of the first cells have of a soil; P: the cells that count, C: their columns. -/
def htF (P : Nat → Bool) (C : Nat → List Pa) (x : ByteArray) (i : Nat) : Int := if P i = true then hgN (C i) x (C i).length else 0
def htN (P : Nat → Bool) (C : Nat → List Pa) (x : ByteArray) (k : Nat) : Int := sumN (htF P C x) k
theorem htN_succ (P : Nat → Bool) (C : Nat → List Pa) (x : ByteArray) (k : Nat) : htN P C x (k + 1) = htN P C x k + htF P C x k := rfl
theorem htN_bound {P : Nat → Bool} {C : Nat → List Pa} (x : ByteArray) : ∀ k, (∀ i, i < k → P i = true → LvPa (C i) ∧ (C i).length ≤ 12) → 0 ≤ htN P C x k ∧ htN P C x k ≤ 480000 * (k : Int)
  | 0, _ => by simp [htN, sumN]
  | k + 1, h => by
    have h1 := htN_bound x k (fun i hi => h i (by omega))
    rw [htN_succ]
    have h2 : 0 ≤ htF P C x k ∧ htF P C x k ≤ 480000 := by
      unfold htF
      split
      · rename_i hp
        obtain ⟨h3, h4⟩ := h k (by omega) hp
        have h5 := hgN_bound h3 x _ (Nat.le_refl _)
        omega
      · omega
    push_cast
    omega
end Go.Proofs.Ytohdplnlbnoojaa

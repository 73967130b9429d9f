/- The change between two beds as numbers. -/
import Derived.Test.YtdbabihjnhnnfaaGreatBpure
namespace Go.Proofs.YtdbabihjnhnnfaaGreat
open Go

/-- Of a cell: what was cut, what was filled, and whether it is not known in both. -/
def cutC (s a b : Int) : Int := if a = 30000 ∨ b = 30000 then 0 else s * s * max (a - b) 0
def unkC (a b : Int) : Int := if a = 30000 ∨ b = 30000 then 1 else 0
def cutAt (s : Int) (l m : List Int) (i : Nat) : Int := cutC s (gi l i) (gi m i)
def unkAt (l m : List Int) (i : Nat) : Int := unkC (gi l i) (gi m i)
theorem max_mul {s : Int} (h : 0 ≤ s) (x : Int) : max (s * x) 0 = s * max x 0 := by
  rcases Int.le_total x 0 with hx | hx
  · have : s * x ≤ 0 := Int.mul_nonpos_of_nonneg_of_nonpos h hx
    rw [Int.max_eq_right this, Int.max_eq_right hx, Int.mul_zero]
  · have : 0 ≤ s * x := Int.mul_nonneg h hx
    rw [Int.max_eq_left this, Int.max_eq_left hx]
theorem cutC_bd {s a b : Int} (h0 : 0 ≤ s) (h1 : s ≤ 10000) (ha : a = 30000 ∨ (-20000 ≤ a ∧ a ≤ 20000)) (hb : b = 30000 ∨ (-20000 ≤ b ∧ b ≤ 20000)) : 0 ≤ cutC s a b ∧ cutC s a b ≤ 4000000000000 := by
  unfold cutC
  split
  · omega
  · rename_i h
    have h2 : 0 ≤ s * s := Int.mul_nonneg h0 h0
    have h3 : s * s ≤ 10000 * 10000 := Int.mul_le_mul h1 h1 h0 (by omega)
    have h4 : 0 ≤ max (a - b) 0 := Int.le_max_right _ _
    have h5 : max (a - b) 0 ≤ 40000 := by omega
    refine ⟨Int.mul_nonneg h2 h4, ?_⟩
    have := Int.mul_le_mul h3 h5 h4 (by omega)
    omega
theorem unkC_bd (a b : Int) : 0 ≤ unkC a b ∧ unkC a b ≤ 1 := by unfold unkC; split <;> omega
theorem sumN_bd {f : Nat → Int} {M : Int} : ∀ n, (∀ i, i < n → 0 ≤ f i ∧ f i ≤ M) → 0 ≤ sumN f n ∧ sumN f n ≤ M * n
  | 0, _ => by simp [sumN]
  | n + 1, h => by
    have h1 := sumN_bd n (fun i hi => h i (by omega))
    have h2 := h n (by omega)
    rw [sumN, Int.natCast_add, Int.mul_add]
    omega
/-- What a walk over every c-th cell has summed up. -/
theorem sumN_zero (n : Nat) : sumN (fun _ => 0) n = 0 := by
  induction n with
  | zero => rfl
  | succ n ih => rw [sumN, ih]; rfl
theorem sumN_one {c : Nat} (col : Nat) (hcol : col < c) (x : Int) : sumN (fun i => if i = col then x else 0) c = x := by
  induction c with
  | zero => omega
  | succ c ih =>
    rw [sumN]
    rcases Nat.lt_or_ge col c with h | h
    · rw [ih h, if_neg (by omega)]; omega
    · have : col = c := by omega
      subst this
      rw [if_pos rfl, sumN_congr (g := fun _ => 0) col (fun i hi => if_neg (by omega)), sumN_zero]; omega
theorem sumN_col (f : Nat → Int) {c col : Nat} (hcol : col < c) : ∀ r, sumN (fun i => if i % c = col then f i else 0) (c * r) = sumN (fun j => f (col + j * c)) r
  | 0 => rfl
  | r + 1 => by
    rw [Nat.mul_succ, sumN_split, sumN_col f hcol r, sumN]
    congr 1
    rw [sumN_congr (g := fun i => if i = col then f (col + r * c) else 0) c (fun i hi => by
      rw [Nat.mul_add_mod, Nat.mod_eq_of_lt hi]
      by_cases h : i = col
      · rw [if_pos h, if_pos h, h, Nat.mul_comm c r, Nat.add_comm]
      · rw [if_neg h, if_neg h])]
    exact sumN_one col hcol _
theorem sumN_cols (f : Nat → Int) (c : Nat) : ∀ r, sumN (fun col => sumN (fun j => f (col + j * c)) r) c = sumN f (c * r)
  | 0 => by show sumN (fun _ => 0) c = 0; exact sumN_zero c
  | r + 1 => by
    rw [Nat.mul_succ, sumN_split, ← sumN_cols f c r, ← sumN_add]
    apply sumN_congr
    intro i _
    rw [sumN, Nat.mul_comm r c, Nat.add_comm i]
/-- A level, moved into a layer. -/
def mvI (lo hi x : Int) : Int := if x = 30000 then 30000 else min (max x lo) hi
theorem part_eq {lo hi a b : Int} (h : lo ≤ hi) : max 0 (min a hi - max b lo) = max (min (max a lo) hi - min (max b lo) hi) 0 := by omega
theorem mvI_lev {lo hi x : Int} (h : -20000 ≤ lo ∧ lo ≤ hi ∧ hi ≤ 20000) : mvI lo hi x = 30000 ↔ x = 30000 := by unfold mvI; split <;> omega
theorem mvI_ok {lo hi x : Int} (h : -20000 ≤ lo ∧ lo ≤ hi ∧ hi ≤ 20000) : mvI lo hi x = 30000 ∨ (-20000 ≤ mvI lo hi x ∧ mvI lo hi x ≤ 20000) := by unfold mvI; split <;> omega
/-- The reference's change of a cell in a layer. -/
theorem cut_layer {s lo hi a b : Int} (h : -20000 ≤ lo ∧ lo ≤ hi ∧ hi ≤ 20000) (ha : ¬ (a = 30000 ∨ b = 30000)) : s * s * max 0 (min a hi - max b lo) = cutC s (mvI lo hi a) (mvI lo hi b) := by
  unfold cutC
  rw [if_neg (by rw [mvI_lev h, mvI_lev h]; exact ha), part_eq h.2.1]
  unfold mvI
  rw [if_neg (by omega), if_neg (by omega)]
theorem cut_whole {s a b : Int} (ha : -20000 ≤ a ∧ a ≤ 20000) (hb : -20000 ≤ b ∧ b ≤ 20000) : s * s * max 0 (min a 20000 - max b (-20000)) = cutC s a b := by
  unfold cutC
  rw [if_neg (by omega), show max 0 (min a 20000 - max b (-20000)) = max (a - b) 0 by omega]
theorem vol_cut {s a b : Int} (h0 : 0 ≤ s) (h1 : s ≤ 10000) (ha : a = 30000 ∨ (-20000 ≤ a ∧ a ≤ 20000)) (hb : b = 30000 ∨ (-20000 ≤ b ∧ b ≤ 20000)) (hu : ¬ a = 30000) (hv : ¬ b = 30000) :
    cutC s a b = max (-(s * s * (b - a))) 0 ∧ cutC s b a = max (s * s * (b - a)) 0 ∧ (-4000000000000 ≤ s * s * (b - a) ∧ s * s * (b - a) ≤ 4000000000000) := by
  have q1 := cutC_bd h0 h1 ha hb
  have q2 := cutC_bd h0 h1 hb ha
  have e1 : cutC s a b = max (-(s * s * (b - a))) 0 := by
    unfold cutC
    rw [if_neg (by omega), ← max_mul (Int.mul_nonneg h0 h0), ← Int.mul_neg]
    congr 2
    omega
  have e2 : cutC s b a = max (s * s * (b - a)) 0 := by
    unfold cutC
    rw [if_neg (by omega), ← max_mul (Int.mul_nonneg h0 h0)]
  omega
end Go.Proofs.YtdbabihjnhnnfaaGreat

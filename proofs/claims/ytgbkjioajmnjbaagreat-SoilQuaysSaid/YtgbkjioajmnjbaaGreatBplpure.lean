/- Cells and places. -/
import Derived.Test.YtgbkjioajmnjbaaGreatBpure
namespace Go.Proofs.YtgbkjioajmnjbaaGreat
open Go

/-- Whether a place is in the rectangle of a grid, and its cell. -/
def inB (g : Gr) (x y : Int) : Bool := withinB x g.X (g.X + g.C * g.S - 1) && withinB y g.Y (g.Y + g.R * g.S - 1)
def cIdx (g : Gr) (x y : Int) : Int := (y - g.Y) / g.S * g.C + (x - g.X) / g.S
/-- Whether cell i contains a place, as the reference asks. -/
def cOn (g : Gr) (cn i : Nat) (x y : Int) : Bool :=
  decide (g.X + ((i % cn : Nat) : Int) * g.S ≤ x) && (decide (x < g.X + ((i % cn : Nat) : Int) * g.S + g.S) && (decide (g.Y + ((i / cn : Nat) : Int) * g.S ≤ y) && decide (y < g.Y + ((i / cn : Nat) : Int) * g.S + g.S)))
theorem inB_iff {g : Gr} {x y : Int} : inB g x y = true ↔ (g.X ≤ x ∧ x < g.X + g.C * g.S) ∧ (g.Y ≤ y ∧ y < g.Y + g.R * g.S) := by
  unfold inB withinB
  simp only [Bool.and_eq_true, decide_eq_true_eq]
  omega
theorem div_char {u s q : Int} (hs : 0 < s) : (q * s ≤ u ∧ u < q * s + s) ↔ u / s = q := by
  have e1 := Int.mul_ediv_add_emod u s
  have e2 := Int.emod_nonneg u (show s ≠ 0 by omega)
  have e3 := Int.emod_lt_of_pos u hs
  constructor
  · rintro ⟨h1, h2⟩
    have h3 : u / s < q + 1 := Int.ediv_lt_of_lt_mul hs (by rw [Int.add_mul, Int.one_mul]; exact h2)
    have h4 : q ≤ u / s := (Int.le_ediv_iff_mul_le hs).2 h1
    omega
  · intro h
    rw [h, Int.mul_comm] at e1
    omega
theorem cOn_iff {g : Gr} {cn rn i : Nat} (hC : g.C = cn) (hR : g.R = rn) (h0 : 0 < cn) (hs : 0 < g.S) (hi : i < cn * rn) (x y : Int) : cOn g cn i x y = true ↔ inB g x y = true ∧ (i : Int) = cIdx g x y := by
  have m1 := Nat.mod_lt i h0
  have q1 : i / cn < rn := by rw [Nat.div_lt_iff_lt_mul h0, Nat.mul_comm]; exact hi
  have dm := Nat.div_add_mod i cn
  have key : cOn g cn i x y = true ↔ (x - g.X) / g.S = ((i % cn : Nat) : Int) ∧ (y - g.Y) / g.S = ((i / cn : Nat) : Int) := by
    rw [← div_char hs, ← div_char hs]
    unfold cOn
    simp only [Bool.and_eq_true, decide_eq_true_eq]
    omega
  rw [key, inB_iff]
  unfold cIdx
  generalize hq : (x - g.X) / g.S = q
  generalize hr : (y - g.Y) / g.S = r
  have hq := (div_char hs).2 hq
  have hr := (div_char hs).2 hr
  rw [hC, hR]
  constructor
  · rintro ⟨rfl, rfl⟩
    have a1 : ((i % cn : Nat) : Int) * g.S + g.S ≤ (cn : Int) * g.S := by
      have : (((i % cn : Nat) : Int) + 1) * g.S ≤ (cn : Int) * g.S := Int.mul_le_mul_of_nonneg_right (by omega) (by omega)
      rw [Int.add_mul, Int.one_mul] at this; exact this
    have a2 : ((i / cn : Nat) : Int) * g.S + g.S ≤ (rn : Int) * g.S := by
      have : (((i / cn : Nat) : Int) + 1) * g.S ≤ (rn : Int) * g.S := Int.mul_le_mul_of_nonneg_right (by omega) (by omega)
      rw [Int.add_mul, Int.one_mul] at this; exact this
    have a3 : 0 ≤ ((i % cn : Nat) : Int) * g.S := Int.mul_nonneg (Int.natCast_nonneg _) (by omega)
    have a4 : 0 ≤ ((i / cn : Nat) : Int) * g.S := Int.mul_nonneg (Int.natCast_nonneg _) (by omega)
    refine ⟨⟨⟨by omega, by omega⟩, by omega, by omega⟩, ?_⟩
    have : ((cn * (i / cn) + i % cn : Nat) : Int) = ((i / cn : Nat) : Int) * cn + ((i % cn : Nat) : Int) := by rw [Int.natCast_add, Int.natCast_mul, Int.mul_comm]
    rw [← this, dm]
  · rintro ⟨⟨⟨h1, h2⟩, h3, h4⟩, h5⟩
    have b1 : 0 ≤ q := by
      by_cases h : 0 ≤ q
      · exact h
      · have : (q + 1) * g.S ≤ 0 * g.S := Int.mul_le_mul_of_nonneg_right (by omega) (by omega)
        rw [Int.add_mul, Int.one_mul, Int.zero_mul] at this; omega
    have b2 : q < cn := by
      by_cases h : q < cn
      · exact h
      · have : (cn : Int) * g.S ≤ q * g.S := Int.mul_le_mul_of_nonneg_right (by omega) (by omega)
        omega
    have b3 : 0 ≤ r := by
      by_cases h : 0 ≤ r
      · exact h
      · have : (r + 1) * g.S ≤ 0 * g.S := Int.mul_le_mul_of_nonneg_right (by omega) (by omega)
        rw [Int.add_mul, Int.one_mul, Int.zero_mul] at this; omega
    obtain ⟨q', rfl⟩ : ∃ q' : Nat, q = q' := ⟨q.toNat, by omega⟩
    obtain ⟨r', rfl⟩ : ∃ r' : Nat, r = r' := ⟨r.toNat, by omega⟩
    have h6 : i = r' * cn + q' := by
      have : (i : Int) = ((r' * cn + q' : Nat) : Int) := by rw [h5]; simp
      omega
    have b4 : q' < cn := by omega
    have c1 : i % cn = q' := by rw [h6, Nat.add_comm, Nat.add_mul_mod_self_right, Nat.mod_eq_of_lt b4]
    have c2 : i / cn = r' := by rw [h6, Nat.add_comm, Nat.add_mul_div_right _ _ h0, Nat.div_eq_of_lt b4, Nat.zero_add]
    rw [c1, c2]
    exact ⟨rfl, rfl⟩
/-- The cell of a place in the rectangle. -/
theorem cIdx_cell {g : Gr} {cn rn : Nat} (hC : g.C = cn) (hR : g.R = rn) (_h0 : 0 < cn) (hs : 0 < g.S) {x y : Int} (h : inB g x y = true) :
    (0 ≤ (x - g.X) / g.S ∧ (x - g.X) / g.S < cn) ∧ (0 ≤ (y - g.Y) / g.S ∧ (y - g.Y) / g.S < rn) ∧ ∃ i : Nat, i < cn * rn ∧ cIdx g x y = i := by
  obtain ⟨⟨h1, h2⟩, h3, h4⟩ := inB_iff.1 h
  rw [hC] at h2
  rw [hR] at h4
  have a1 : 0 ≤ (x - g.X) / g.S := Int.ediv_nonneg (by omega) (by omega)
  have a2 : (x - g.X) / g.S < cn := Int.ediv_lt_of_lt_mul hs (by omega)
  have a3 : 0 ≤ (y - g.Y) / g.S := Int.ediv_nonneg (by omega) (by omega)
  have a4 : (y - g.Y) / g.S < rn := Int.ediv_lt_of_lt_mul hs (by omega)
  refine ⟨⟨a1, a2⟩, ⟨a3, a4⟩, ?_⟩
  unfold cIdx
  rw [hC]
  generalize (x - g.X) / g.S = q at *
  generalize (y - g.Y) / g.S = r at *
  obtain ⟨q', rfl⟩ : ∃ q' : Nat, q = q' := ⟨q.toNat, by omega⟩
  obtain ⟨r', rfl⟩ : ∃ r' : Nat, r = r' := ⟨r.toNat, by omega⟩
  refine ⟨r' * cn + q', ?_, by simp⟩
  calc r' * cn + q' < r' * cn + cn := by omega
    _ = (r' + 1) * cn := by rw [Nat.succ_mul]
    _ ≤ rn * cn := Nat.mul_le_mul_right _ (by omega)
    _ = cn * rn := Nat.mul_comm _ _
def ctX (g : Gr) (cn i : Nat) : Int := g.X + ((i % cn : Nat) : Int) * g.S + g.S / 2
def ctY (g : Gr) (cn i : Nat) : Int := g.Y + ((i / cn : Nat) : Int) * g.S + g.S / 2
theorem ct_on {g : Gr} {cn i : Nat} (hs : 1 < g.S) : cOn g cn i (ctX g cn i) (ctY g cn i) = true := by
  unfold cOn ctX ctY
  simp only [Bool.and_eq_true, decide_eq_true_eq]
  omega
end Go.Proofs.YtgbkjioajmnjbaaGreat

/- Contracts of the offsets and the places along a line. -/
import Derived.Test.YtgnakeemcccfjaaGreatLine
namespace Go.Proofs.YtgnakeemcccfjaaGreat
open Go Go.RowKit Go.IntWalk

def lineE (a b p : Pt) : Int := if !allGood [a, b, p] then 2 else if decide (a = b) then 11 else 0
theorem lineE_bad {a b p : Pt} (h : allGood [a, b, p] = false) : lineE a b p = 2 := by simp [lineE, h]
theorem lineE_one {a p : Pt} (h : allGood [a, a, p] = true) : lineE a a p = 11 := by simp [lineE, h]
theorem lineE_ok {a b p : Pt} (h : allGood [a, b, p] = true) (hne : a ≠ b) : lineE a b p = 0 := by simp [lineE, h, hne]

def offV (a b p : Pt) : Int := if lineE a b p = 0 then wrap64 ((sizeW (crossW a b p)).tdiv (spanG a b)) else 0
def alongV (a b p : Pt) : Int := if lineE a b p = 0 then dotW a b p / spanG a b else 0

/-- The span of two different points in range. -/
theorem spanG_pos {a b : Pt} (ha : good a = true) (hb : good b = true) (hne : a ≠ b) : 0 < spanG a b ∧ spanG a b ≤ 3000000 := by
  unfold spanG
  rw [show allGood [a, b] = true by simp [allGood, ha, hb], if_pos rfl, dotW_good ha hb hb]
  obtain ⟨r0, r1, r2, r3⟩ := rootW_spec (cap := 3000000) (dotZ a b b) (by omega) (by omega)
  refine ⟨?_, r1⟩
  rcases Int.lt_or_le 0 (rootW 3000000 (dotZ a b b)) with h | h
  · exact h
  · exfalso
    have h0 : rootW 3000000 (dotZ a b b) = 0 := by omega
    rw [h0] at r3
    have hz : dotZ a b b ≤ 0 := by omega
    unfold dotZ at hz
    have s1 := sq_nonneg (b.x - a.x)
    have s2 := sq_nonneg (b.y - a.y)
    have e1 : (b.x - a.x) * (b.x - a.x) = 0 := by omega
    have e2 : (b.y - a.y) * (b.y - a.y) = 0 := by omega
    rw [Int.mul_eq_zero, or_self] at e1 e2
    apply hne
    cases a; cases b
    simp at e1 e2
    simp; omega
theorem quot_bound {n m : Int} (h0 : 0 < m) (h1 : -8000000000000 ≤ n) (h2 : n ≤ 8000000000000) : -8000000000000 ≤ n / m ∧ n / m ≤ 8000000000000 := by
  constructor
  · exact Int.le_ediv_of_mul_le h0 (by omega)
  · have := Int.ediv_lt_of_lt_mul (a := n) (b := 8000000000001) h0 (by omega)
    omega

end Go.Proofs.YtgnakeemcccfjaaGreat

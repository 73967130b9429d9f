/- Plain mathematics of points: nothing of the program. -/
import Derived.IntWalk
namespace Go.Proofs.Ytmhmfjgahhgbpaa
open Go Go.RowKit Go.IntWalk

structure Pt where
  x : Int
  y : Int
  deriving DecidableEq, Inhabited

def sgn (n : Int) : Int := if n < 0 then -1 else if 0 < n then 1 else 0
def absW (n : Int) : Int := if n < 0 then wrap64 (-n) else n
def sizeW (n : Int) : Int := max n (wrap64 (-n))
def cmpI (x y : Int) : Int := if x < y then -1 else if y < x then 1 else 0
def withinB (n lo hi : Int) : Bool := decide (lo ≤ n) && decide (n ≤ hi)

def crossW (a b c : Pt) : Int := wrap64 (wrap64 (wrap64 (b.x - a.x) * wrap64 (c.y - a.y)) - wrap64 (wrap64 (b.y - a.y) * wrap64 (c.x - a.x)))
def dotW (a b c : Pt) : Int := wrap64 (wrap64 (wrap64 (b.x - a.x) * wrap64 (c.x - a.x)) + wrap64 (wrap64 (b.y - a.y) * wrap64 (c.y - a.y)))
def good (p : Pt) : Bool := withinB p.x (-1000000) 1000000 && withinB p.y (-1000000) 1000000
def allGood (l : List Pt) : Bool := l.all good

def betweenW (a b p : Pt) : Bool := decide (crossW a b p = 0) && withinB p.x (min a.x b.x) (max a.x b.x) && withinB p.y (min a.y b.y) (max a.y b.y)

theorem all_take_succ {α : Type} (f : α → Bool) (l : List α) (k : Nat) (hk : k < l.length) (h : (l.take k).all f = true) (h1 : f l[k] = true) : (l.take (k + 1)).all f = true := by
  rw [List.take_succ_eq_append_getElem hk, List.all_append, h]; simp [h1]
theorem all_false {α : Type} (f : α → Bool) (l : List α) (k : Nat) (hk : k < l.length) (h1 : f l[k] = false) : l.all f = false := by
  rw [List.all_eq_false]; exact ⟨_, List.getElem_mem hk, by simp [h1]⟩
theorem take_all {α : Type} (f : α → Bool) (l : List α) (k : Nat) (hk : l.length ≤ k) (h : (l.take k).all f = true) : l.all f = true := by
  rwa [List.take_of_length_le hk] at h

theorem wrap64_add64 (n k : Int) : wrap64 (n + 18446744073709551616 * k) = wrap64 n := by unfold wrap64; omega
theorem wrap64_form (n : Int) : ∃ k, wrap64 n = n + 18446744073709551616 * k := ⟨-((n + 9223372036854775808) / 18446744073709551616), by unfold wrap64; omega⟩
theorem wrap64_mul (x y : Int) : wrap64 (wrap64 x * wrap64 y) = wrap64 (x * y) := by
  obtain ⟨j, hj⟩ := wrap64_form x
  obtain ⟨k, hk⟩ := wrap64_form y
  rw [hj, hk, show (x + 18446744073709551616 * j) * (y + 18446744073709551616 * k) = x * y + 18446744073709551616 * (x * k + j * y + 18446744073709551616 * (j * k)) by grind]
  exact wrap64_add64 _ _
theorem wrap64_wadd (x y : Int) : wrap64 (wrap64 x + y) = wrap64 (x + y) := by unfold wrap64; omega
theorem wrap64_addw (x y : Int) : wrap64 (x + wrap64 y) = wrap64 (x + y) := by unfold wrap64; omega
theorem wrap64_wsub (x y : Int) : wrap64 (wrap64 x - y) = wrap64 (x - y) := by unfold wrap64; omega
theorem wrap64_subw (x y : Int) : wrap64 (x - wrap64 y) = wrap64 (x - y) := by unfold wrap64; omega
theorem wrap64_idem (x : Int) : wrap64 (wrap64 x) = wrap64 x := by unfold wrap64; omega

def crossZ (a b c : Pt) : Int := (b.x - a.x) * (c.y - a.y) - (b.y - a.y) * (c.x - a.x)
def dotZ (a b c : Pt) : Int := (b.x - a.x) * (c.x - a.x) + (b.y - a.y) * (c.y - a.y)
theorem crossW_eq (a b c : Pt) : crossW a b c = wrap64 (crossZ a b c) := by
  unfold crossW crossZ
  rw [wrap64_mul, wrap64_mul, wrap64_wsub, wrap64_subw]
theorem dotW_eq (a b c : Pt) : dotW a b c = wrap64 (dotZ a b c) := by
  unfold dotW dotZ
  rw [wrap64_mul, wrap64_mul, wrap64_wadd, wrap64_addw]

theorem good_iff (p : Pt) : good p = true ↔ (-1000000 ≤ p.x ∧ p.x ≤ 1000000) ∧ (-1000000 ≤ p.y ∧ p.y ≤ 1000000) := by simp [good, withinB]
/-- A product of two small numbers. -/
theorem mul_bound {x y M N : Int} (hx : -M ≤ x) (hx' : x ≤ M) (hy : -N ≤ y) (hy' : y ≤ N) : -(M * N) ≤ x * y ∧ x * y ≤ M * N := by
  have hM : 0 ≤ M := by omega
  have hN : 0 ≤ N := by omega
  have h1 : 0 ≤ (M - x) * (N + y) := Int.mul_nonneg (by omega) (by omega)
  have h2 : 0 ≤ (M + x) * (N - y) := Int.mul_nonneg (by omega) (by omega)
  have h3 : 0 ≤ (M - x) * (N - y) := Int.mul_nonneg (by omega) (by omega)
  have h4 : 0 ≤ (M + x) * (N + y) := Int.mul_nonneg (by omega) (by omega)
  constructor <;> grind
theorem crossZ_bound {a b c : Pt} (ha : good a = true) (hb : good b = true) (hc : good c = true) : -8000000000000 ≤ crossZ a b c ∧ crossZ a b c ≤ 8000000000000 := by
  rw [good_iff] at *
  have h1 := mul_bound (x := b.x - a.x) (y := c.y - a.y) (M := 2000000) (N := 2000000) (by omega) (by omega) (by omega) (by omega)
  have h2 := mul_bound (x := b.y - a.y) (y := c.x - a.x) (M := 2000000) (N := 2000000) (by omega) (by omega) (by omega) (by omega)
  unfold crossZ
  omega
theorem dotZ_bound {a b c : Pt} (ha : good a = true) (hb : good b = true) (hc : good c = true) : -8000000000000 ≤ dotZ a b c ∧ dotZ a b c ≤ 8000000000000 := by
  rw [good_iff] at *
  have h1 := mul_bound (x := b.x - a.x) (y := c.x - a.x) (M := 2000000) (N := 2000000) (by omega) (by omega) (by omega) (by omega)
  have h2 := mul_bound (x := b.y - a.y) (y := c.y - a.y) (M := 2000000) (N := 2000000) (by omega) (by omega) (by omega) (by omega)
  unfold dotZ
  omega
theorem crossW_good {a b c : Pt} (ha : good a = true) (hb : good b = true) (hc : good c = true) : crossW a b c = crossZ a b c := by
  rw [crossW_eq]; exact wrap64_in _ (by have := crossZ_bound ha hb hc; omega)
theorem dotW_good {a b c : Pt} (ha : good a = true) (hb : good b = true) (hc : good c = true) : dotW a b c = dotZ a b c := by
  rw [dotW_eq]; exact wrap64_in _ (by have := dotZ_bound ha hb hc; omega)
theorem sq_nonneg (x : Int) : 0 ≤ x * x := by
  rcases Int.le_total 0 x with h | h
  · exact Int.mul_nonneg h h
  · have := Int.mul_nonneg (a := -x) (b := -x) (by omega) (by omega); grind
theorem dotZ_sq (a b : Pt) : 0 ≤ dotZ a b b := by
  unfold dotZ
  have := sq_nonneg (b.x - a.x)
  have := sq_nonneg (b.y - a.y)
  omega

/-! ### Division -/
theorem tmod_form (n m : Int) (h0 : 0 < m) : (n.tmod m < 0 → n % m = n.tmod m + m ∧ n / m = n.tdiv m - 1) ∧ (0 ≤ n.tmod m → n % m = n.tmod m ∧ n / m = n.tdiv m) ∧ n.tmod m < m ∧ -m < n.tmod m := by
  have e1 := Int.mul_tdiv_add_tmod n m
  have e2 := Int.mul_ediv_add_emod n m
  have p1 := Int.emod_nonneg n (show m ≠ 0 by omega)
  have p2 := Int.emod_lt_of_pos n h0
  have p3 := Int.tmod_lt_of_pos n h0
  have p4 : -m < n.tmod m := by
    have := Int.tmod_lt_of_pos (-n) h0
    rw [Int.neg_tmod] at this; omega
  have key : ∀ d r r' q q' : Int, m * q + r = m * q' + r' → r - r' = d → (d = 0 ∨ d = m) → (d = 0 → q = q') ∧ (d = m → q = q' - 1) := by
    intro d r r' q q' he hd _
    constructor
    · intro h
      have : m * (q - q') = 0 := by grind
      rcases Int.mul_eq_zero.1 this with h' | h' <;> omega
    · intro h
      have : m * (q - q' + 1) = 0 := by grind
      rcases Int.mul_eq_zero.1 this with h' | h' <;> omega
  refine ⟨fun h => ?_, fun h => ?_, p3, p4⟩
  · have hq : n / m = n.tdiv m - 1 := by
      have h1 : m * (n / m - n.tdiv m) = n.tmod m - n % m := by grind
      have h2 : n / m - n.tdiv m < 0 := by
        rcases Int.lt_or_le (n / m - n.tdiv m) 0 with h' | h'
        · exact h'
        · have := Int.mul_nonneg (Int.le_of_lt h0) h'; omega
      have h3 : -2 < n / m - n.tdiv m := by
        rcases Int.lt_or_le (-2) (n / m - n.tdiv m) with h' | h'
        · exact h'
        · have := Int.mul_nonneg (Int.le_of_lt h0) (show 0 ≤ -2 - (n / m - n.tdiv m) by omega); grind
      omega
    refine ⟨?_, hq⟩
    rw [hq] at e2; grind
  · have hq : n / m = n.tdiv m := by
      have h1 : m * (n / m - n.tdiv m) = n.tmod m - n % m := by grind
      have h2 : n / m - n.tdiv m < 1 := by
        rcases Int.lt_or_le (n / m - n.tdiv m) 1 with h' | h'
        · exact h'
        · have := Int.mul_nonneg (Int.le_of_lt h0) (show 0 ≤ (n / m - n.tdiv m) - 1 by omega); grind
      have h3 : -1 < n / m - n.tdiv m := by
        rcases Int.lt_or_le (-1) (n / m - n.tdiv m) with h' | h'
        · exact h'
        · have := Int.mul_nonneg (Int.le_of_lt h0) (show 0 ≤ -1 - (n / m - n.tdiv m) by omega); grind
      omega
    refine ⟨?_, hq⟩
    rw [hq] at e2; grind

/-! ### The root, rounded up, by halving -/
def rootUpF (n : Int) : Nat → Int → Int → Int
  | 0, low, _ => low
  | f + 1, low, high => if low < high then (if (low + high) / 2 * ((low + high) / 2) < n then rootUpF n f ((low + high) / 2 + 1) high else rootUpF n f low ((low + high) / 2)) else low
/-- r is the least number from 0 on whose square is at least n. -/
def isRoot (n r : Int) : Prop := 0 ≤ r ∧ n ≤ r * r ∧ (r = 0 ∨ (r - 1) * (r - 1) < n)
theorem isRoot_one {n r s : Int} (hr : isRoot n r) (hs : isRoot n s) : r = s := by
  obtain ⟨r0, r1, r2⟩ := hr
  obtain ⟨s0, s1, s2⟩ := hs
  rcases Int.lt_trichotomy r s with h | h | h
  · rcases s2 with s2 | s2
    · omega
    · have : r * r ≤ (s - 1) * (s - 1) := Int.mul_le_mul (by omega) (by omega) (by omega) (by omega)
      omega
  · exact h
  · rcases r2 with r2 | r2
    · omega
    · have : s * s ≤ (r - 1) * (r - 1) := Int.mul_le_mul (by omega) (by omega) (by omega) (by omega)
      omega

/-- r is the least number from 0 to cap whose square is at least n, or cap. -/
def isRootC (cap n r : Int) : Prop := 0 ≤ r ∧ r ≤ cap ∧ (r = 0 ∨ (r - 1) * (r - 1) < n) ∧ (r = cap ∨ n ≤ r * r)
theorem isRootC_one {cap n r s : Int} (hr : isRootC cap n r) (hs : isRootC cap n s) : r = s := by
  obtain ⟨r0, r1, r2, r3⟩ := hr
  obtain ⟨s0, s1, s2, s3⟩ := hs
  rcases Int.lt_trichotomy r s with h | h | h
  · rcases s2 with s2 | s2 <;> rcases r3 with r3 | r3 <;> try omega
    have : r * r ≤ (s - 1) * (s - 1) := Int.mul_le_mul (by omega) (by omega) (by omega) (by omega)
    omega
  · exact h
  · rcases r2 with r2 | r2 <;> rcases s3 with s3 | s3 <;> try omega
    have : s * s ≤ (r - 1) * (r - 1) := Int.mul_le_mul (by omega) (by omega) (by omega) (by omega)
    omega
theorem rootUpF_spec (cap n : Int) : ∀ (f : Nat) (low high : Int), 0 ≤ low → low ≤ high → high ≤ cap → high - low < 2 ^ f → (low = 0 ∨ (low - 1) * (low - 1) < n) → (high = cap ∨ n ≤ high * high) → isRootC cap n (rootUpF n (f + 1) low high) := by
  intro f
  induction f with
  | zero =>
    intro low high h0 h1 h2 h3 h4 h5
    have : high = low := by omega
    subst this
    simp [rootUpF]
    exact ⟨h0, h2, h4, h5⟩
  | succ f ih =>
    intro low high h0 h1 h2 h3 h4 h5
    rw [rootUpF]
    have h3' : high - low < 2 * 2 ^ f := by rw [Int.pow_succ] at h3; omega
    by_cases hlt : low < high
    · rw [if_pos hlt]
      by_cases hm : (low + high) / 2 * ((low + high) / 2) < n
      · rw [if_pos hm]
        refine ih _ _ (by omega) (by omega) h2 (by omega) (.inr ?_) h5
        rw [show (low + high) / 2 + 1 - 1 = (low + high) / 2 by omega]; exact hm
      · rw [if_neg hm]
        exact ih _ _ h0 (by omega) (by omega) (by omega) h4 (.inr (by omega))
    · rw [if_neg hlt]
      have : high = low := by omega
      subst this
      exact ⟨h0, h2, h4, h5⟩
/-- The number to which rootUp and Span halve. -/
def rootW (cap n : Int) : Int := rootUpF n 64 0 cap
theorem rootW_spec {cap : Int} (n : Int) (h0 : 0 ≤ cap) (h1 : cap ≤ 4000000) : isRootC cap n (rootW cap n) :=
  rootUpF_spec cap n 63 0 cap (by omega) h0 (Int.le_refl _) (by omega) (.inl rfl) (.inl rfl)
theorem rootW_eq {cap n r : Int} (h0 : 0 ≤ cap) (h1 : cap ≤ 4000000) (h : isRootC cap n r) : r = rootW cap n := isRootC_one h (rootW_spec n h0 h1)
/-- Below the square of both caps the cap does not matter. -/
theorem rootW_cap {n : Int} (h : n ≤ 8000000000000) : rootW 3000000 n = rootW 4000000 n := by
  refine rootW_eq (by omega) (by omega) ?_
  obtain ⟨r0, r1, r2, r3⟩ := rootW_spec (cap := 3000000) n (by omega) (by omega)
  refine ⟨r0, by omega, r2, .inr ?_⟩
  rcases r3 with r3 | r3
  · rw [r3]; omega
  · exact r3
theorem sq_cap {m : Int} (h0 : 0 ≤ m) (h1 : m ≤ 4000000) : wrap64 (m * m) = m * m := by
  have := mul_bound (x := m) (y := m) (M := 4000000) (N := 4000000) (by omega) h1 (by omega) h1
  exact wrap64_in _ (by omega)

end Go.Proofs.Ytmhmfjgahhgbpaa

/- Plain mathematics of points: nothing of the program. Plain mathematics of segments: nothing of the program. Plain mathematics of polygons: nothing of the program. -/
import Derived.IntWalk

namespace Go.Proofs.YtgbkjioajmnjbaaGreat
open Go Go.RowKit Go.IntWalk

structure Pt where
  x : Int
  y : Int
  deriving DecidableEq, Inhabited

def sgn (n : Int) : Int := if n < 0 then -1 else if 0 < n then 1 else 0
def absW (n : Int) : Int := if n < 0 then wrap64 (-n) else n
def sizeW (n : Int) : Int := max n (wrap64 (-n))
def cmpI (x y : Int) : Int := if x < y then -1 else if y < x then 1 else 0
def withinB (n lo hi : Int) : Bool := decide (lo ≤ n) && decide (n ≤ hi)

def crossW (a b c : Pt) : Int := wrap64 (wrap64 (wrap64 (b.x - a.x) * wrap64 (c.y - a.y)) - wrap64 (wrap64 (b.y - a.y) * wrap64 (c.x - a.x)))
def dotW (a b c : Pt) : Int := wrap64 (wrap64 (wrap64 (b.x - a.x) * wrap64 (c.x - a.x)) + wrap64 (wrap64 (b.y - a.y) * wrap64 (c.y - a.y)))
def good (p : Pt) : Bool := withinB p.x (-1000000) 1000000 && withinB p.y (-1000000) 1000000
def allGood (l : List Pt) : Bool := l.all good

def betweenW (a b p : Pt) : Bool := decide (crossW a b p = 0) && withinB p.x (min a.x b.x) (max a.x b.x) && withinB p.y (min a.y b.y) (max a.y b.y)

theorem all_take_succ {α : Type} (f : α → Bool) (l : List α) (k : Nat) (hk : k < l.length) (h : (l.take k).all f = true) (h1 : f l[k] = true) : (l.take (k + 1)).all f = true := by
  rw [List.take_succ_eq_append_getElem hk, List.all_append, h]; simp [h1]
theorem all_false {α : Type} (f : α → Bool) (l : List α) (k : Nat) (hk : k < l.length) (h1 : f l[k] = false) : l.all f = false := by
  rw [List.all_eq_false]; exact ⟨_, List.getElem_mem hk, by simp [h1]⟩
theorem take_all {α : Type} (f : α → Bool) (l : List α) (k : Nat) (hk : l.length ≤ k) (h : (l.take k).all f = true) : l.all f = true := by
  rwa [List.take_of_length_le hk] at h

theorem wrap64_add64 (n k : Int) : wrap64 (n + 18446744073709551616 * k) = wrap64 n := by unfold wrap64; omega
theorem wrap64_form (n : Int) : ∃ k, wrap64 n = n + 18446744073709551616 * k := ⟨-((n + 9223372036854775808) / 18446744073709551616), by unfold wrap64; omega⟩
theorem wrap64_mul (x y : Int) : wrap64 (wrap64 x * wrap64 y) = wrap64 (x * y) := by
  obtain ⟨j, hj⟩ := wrap64_form x
  obtain ⟨k, hk⟩ := wrap64_form y
  rw [hj, hk, show (x + 18446744073709551616 * j) * (y + 18446744073709551616 * k) = x * y + 18446744073709551616 * (x * k + j * y + 18446744073709551616 * (j * k)) by grind]
  exact wrap64_add64 _ _
theorem wrap64_wadd (x y : Int) : wrap64 (wrap64 x + y) = wrap64 (x + y) := by unfold wrap64; omega
theorem wrap64_addw (x y : Int) : wrap64 (x + wrap64 y) = wrap64 (x + y) := by unfold wrap64; omega
theorem wrap64_wsub (x y : Int) : wrap64 (wrap64 x - y) = wrap64 (x - y) := by unfold wrap64; omega
theorem wrap64_subw (x y : Int) : wrap64 (x - wrap64 y) = wrap64 (x - y) := by unfold wrap64; omega
theorem wrap64_idem (x : Int) : wrap64 (wrap64 x) = wrap64 x := by unfold wrap64; omega

def crossZ (a b c : Pt) : Int := (b.x - a.x) * (c.y - a.y) - (b.y - a.y) * (c.x - a.x)
def dotZ (a b c : Pt) : Int := (b.x - a.x) * (c.x - a.x) + (b.y - a.y) * (c.y - a.y)
theorem crossW_eq (a b c : Pt) : crossW a b c = wrap64 (crossZ a b c) := by
  unfold crossW crossZ
  rw [wrap64_mul, wrap64_mul, wrap64_wsub, wrap64_subw]
theorem dotW_eq (a b c : Pt) : dotW a b c = wrap64 (dotZ a b c) := by
  unfold dotW dotZ
  rw [wrap64_mul, wrap64_mul, wrap64_wadd, wrap64_addw]

theorem good_iff (p : Pt) : good p = true ↔ (-1000000 ≤ p.x ∧ p.x ≤ 1000000) ∧ (-1000000 ≤ p.y ∧ p.y ≤ 1000000) := by simp [good, withinB]
/-- A product of two small numbers. -/
theorem mul_bound {x y M N : Int} (hx : -M ≤ x) (hx' : x ≤ M) (hy : -N ≤ y) (hy' : y ≤ N) : -(M * N) ≤ x * y ∧ x * y ≤ M * N := by
  have hM : 0 ≤ M := by omega
  have hN : 0 ≤ N := by omega
  have h1 : 0 ≤ (M - x) * (N + y) := Int.mul_nonneg (by omega) (by omega)
  have h2 : 0 ≤ (M + x) * (N - y) := Int.mul_nonneg (by omega) (by omega)
  have h3 : 0 ≤ (M - x) * (N - y) := Int.mul_nonneg (by omega) (by omega)
  have h4 : 0 ≤ (M + x) * (N + y) := Int.mul_nonneg (by omega) (by omega)
  constructor <;> grind
theorem crossZ_bound {a b c : Pt} (ha : good a = true) (hb : good b = true) (hc : good c = true) : -8000000000000 ≤ crossZ a b c ∧ crossZ a b c ≤ 8000000000000 := by
  rw [good_iff] at *
  have h1 := mul_bound (x := b.x - a.x) (y := c.y - a.y) (M := 2000000) (N := 2000000) (by omega) (by omega) (by omega) (by omega)
  have h2 := mul_bound (x := b.y - a.y) (y := c.x - a.x) (M := 2000000) (N := 2000000) (by omega) (by omega) (by omega) (by omega)
  unfold crossZ
  omega
theorem dotZ_bound {a b c : Pt} (ha : good a = true) (hb : good b = true) (hc : good c = true) : -8000000000000 ≤ dotZ a b c ∧ dotZ a b c ≤ 8000000000000 := by
  rw [good_iff] at *
  have h1 := mul_bound (x := b.x - a.x) (y := c.x - a.x) (M := 2000000) (N := 2000000) (by omega) (by omega) (by omega) (by omega)
  have h2 := mul_bound (x := b.y - a.y) (y := c.y - a.y) (M := 2000000) (N := 2000000) (by omega) (by omega) (by omega) (by omega)
  unfold dotZ
  omega
theorem crossW_good {a b c : Pt} (ha : good a = true) (hb : good b = true) (hc : good c = true) : crossW a b c = crossZ a b c := by
  rw [crossW_eq]; exact wrap64_in _ (by have := crossZ_bound ha hb hc; omega)
theorem dotW_good {a b c : Pt} (ha : good a = true) (hb : good b = true) (hc : good c = true) : dotW a b c = dotZ a b c := by
  rw [dotW_eq]; exact wrap64_in _ (by have := dotZ_bound ha hb hc; omega)
theorem sq_nonneg (x : Int) : 0 ≤ x * x := by
  rcases Int.le_total 0 x with h | h
  · exact Int.mul_nonneg h h
  · have := Int.mul_nonneg (a := -x) (b := -x) (by omega) (by omega); grind
theorem dotZ_sq (a b : Pt) : 0 ≤ dotZ a b b := by
  unfold dotZ
  have := sq_nonneg (b.x - a.x)
  have := sq_nonneg (b.y - a.y)
  omega

/-! ### Division -/
theorem tmod_form (n m : Int) (h0 : 0 < m) : (n.tmod m < 0 → n % m = n.tmod m + m ∧ n / m = n.tdiv m - 1) ∧ (0 ≤ n.tmod m → n % m = n.tmod m ∧ n / m = n.tdiv m) ∧ n.tmod m < m ∧ -m < n.tmod m := by
  have e1 := Int.mul_tdiv_add_tmod n m
  have e2 := Int.mul_ediv_add_emod n m
  have p1 := Int.emod_nonneg n (show m ≠ 0 by omega)
  have p2 := Int.emod_lt_of_pos n h0
  have p3 := Int.tmod_lt_of_pos n h0
  have p4 : -m < n.tmod m := by
    have := Int.tmod_lt_of_pos (-n) h0
    rw [Int.neg_tmod] at this; omega
  have key : ∀ d r r' q q' : Int, m * q + r = m * q' + r' → r - r' = d → (d = 0 ∨ d = m) → (d = 0 → q = q') ∧ (d = m → q = q' - 1) := by
    intro d r r' q q' he hd _
    constructor
    · intro h
      have : m * (q - q') = 0 := by grind
      rcases Int.mul_eq_zero.1 this with h' | h' <;> omega
    · intro h
      have : m * (q - q' + 1) = 0 := by grind
      rcases Int.mul_eq_zero.1 this with h' | h' <;> omega
  refine ⟨fun h => ?_, fun h => ?_, p3, p4⟩
  · have hq : n / m = n.tdiv m - 1 := by
      have h1 : m * (n / m - n.tdiv m) = n.tmod m - n % m := by grind
      have h2 : n / m - n.tdiv m < 0 := by
        rcases Int.lt_or_le (n / m - n.tdiv m) 0 with h' | h'
        · exact h'
        · have := Int.mul_nonneg (Int.le_of_lt h0) h'; omega
      have h3 : -2 < n / m - n.tdiv m := by
        rcases Int.lt_or_le (-2) (n / m - n.tdiv m) with h' | h'
        · exact h'
        · have := Int.mul_nonneg (Int.le_of_lt h0) (show 0 ≤ -2 - (n / m - n.tdiv m) by omega); grind
      omega
    refine ⟨?_, hq⟩
    rw [hq] at e2; grind
  · have hq : n / m = n.tdiv m := by
      have h1 : m * (n / m - n.tdiv m) = n.tmod m - n % m := by grind
      have h2 : n / m - n.tdiv m < 1 := by
        rcases Int.lt_or_le (n / m - n.tdiv m) 1 with h' | h'
        · exact h'
        · have := Int.mul_nonneg (Int.le_of_lt h0) (show 0 ≤ (n / m - n.tdiv m) - 1 by omega); grind
      have h3 : -1 < n / m - n.tdiv m := by
        rcases Int.lt_or_le (-1) (n / m - n.tdiv m) with h' | h'
        · exact h'
        · have := Int.mul_nonneg (Int.le_of_lt h0) (show 0 ≤ -1 - (n / m - n.tdiv m) by omega); grind
      omega
    refine ⟨?_, hq⟩
    rw [hq] at e2; grind

/-! ### The root, rounded up, by halving -/
def rootUpF (n : Int) : Nat → Int → Int → Int
  | 0, low, _ => low
  | f + 1, low, high => if low < high then (if (low + high) / 2 * ((low + high) / 2) < n then rootUpF n f ((low + high) / 2 + 1) high else rootUpF n f low ((low + high) / 2)) else low
/-- r is the least number from 0 on whose square is at least n. -/
def isRoot (n r : Int) : Prop := 0 ≤ r ∧ n ≤ r * r ∧ (r = 0 ∨ (r - 1) * (r - 1) < n)
theorem isRoot_one {n r s : Int} (hr : isRoot n r) (hs : isRoot n s) : r = s := by
  obtain ⟨r0, r1, r2⟩ := hr
  obtain ⟨s0, s1, s2⟩ := hs
  rcases Int.lt_trichotomy r s with h | h | h
  · rcases s2 with s2 | s2
    · omega
    · have : r * r ≤ (s - 1) * (s - 1) := Int.mul_le_mul (by omega) (by omega) (by omega) (by omega)
      omega
  · exact h
  · rcases r2 with r2 | r2
    · omega
    · have : s * s ≤ (r - 1) * (r - 1) := Int.mul_le_mul (by omega) (by omega) (by omega) (by omega)
      omega

/-- r is the least number from 0 to cap whose square is at least n, or cap. -/
def isRootC (cap n r : Int) : Prop := 0 ≤ r ∧ r ≤ cap ∧ (r = 0 ∨ (r - 1) * (r - 1) < n) ∧ (r = cap ∨ n ≤ r * r)
theorem isRootC_one {cap n r s : Int} (hr : isRootC cap n r) (hs : isRootC cap n s) : r = s := by
  obtain ⟨r0, r1, r2, r3⟩ := hr
  obtain ⟨s0, s1, s2, s3⟩ := hs
  rcases Int.lt_trichotomy r s with h | h | h
  · rcases s2 with s2 | s2 <;> rcases r3 with r3 | r3 <;> try omega
    have : r * r ≤ (s - 1) * (s - 1) := Int.mul_le_mul (by omega) (by omega) (by omega) (by omega)
    omega
  · exact h
  · rcases r2 with r2 | r2 <;> rcases s3 with s3 | s3 <;> try omega
    have : s * s ≤ (r - 1) * (r - 1) := Int.mul_le_mul (by omega) (by omega) (by omega) (by omega)
    omega
theorem rootUpF_spec (cap n : Int) : ∀ (f : Nat) (low high : Int), 0 ≤ low → low ≤ high → high ≤ cap → high - low < 2 ^ f → (low = 0 ∨ (low - 1) * (low - 1) < n) → (high = cap ∨ n ≤ high * high) → isRootC cap n (rootUpF n (f + 1) low high) := by
  intro f
  induction f with
  | zero =>
    intro low high h0 h1 h2 h3 h4 h5
    have : high = low := by omega
    subst this
    simp [rootUpF]
    exact ⟨h0, h2, h4, h5⟩
  | succ f ih =>
    intro low high h0 h1 h2 h3 h4 h5
    rw [rootUpF]
    have h3' : high - low < 2 * 2 ^ f := by rw [Int.pow_succ] at h3; omega
    by_cases hlt : low < high
    · rw [if_pos hlt]
      by_cases hm : (low + high) / 2 * ((low + high) / 2) < n
      · rw [if_pos hm]
        refine ih _ _ (by omega) (by omega) h2 (by omega) (.inr ?_) h5
        rw [show (low + high) / 2 + 1 - 1 = (low + high) / 2 by omega]; exact hm
      · rw [if_neg hm]
        exact ih _ _ h0 (by omega) (by omega) (by omega) h4 (.inr (by omega))
    · rw [if_neg hlt]
      have : high = low := by omega
      subst this
      exact ⟨h0, h2, h4, h5⟩
/-- The number to which rootUp and Span halve. -/
def rootW (cap n : Int) : Int := rootUpF n 64 0 cap
theorem rootW_spec {cap : Int} (n : Int) (h0 : 0 ≤ cap) (h1 : cap ≤ 4000000) : isRootC cap n (rootW cap n) :=
  rootUpF_spec cap n 63 0 cap (by omega) h0 (Int.le_refl _) (by omega) (.inl rfl) (.inl rfl)
theorem rootW_eq {cap n r : Int} (h0 : 0 ≤ cap) (h1 : cap ≤ 4000000) (h : isRootC cap n r) : r = rootW cap n := isRootC_one h (rootW_spec n h0 h1)
/-- Below the square of both caps the cap does not matter. -/
theorem rootW_cap {n : Int} (h : n ≤ 8000000000000) : rootW 3000000 n = rootW 4000000 n := by
  refine rootW_eq (by omega) (by omega) ?_
  obtain ⟨r0, r1, r2, r3⟩ := rootW_spec (cap := 3000000) n (by omega) (by omega)
  refine ⟨r0, by omega, r2, .inr ?_⟩
  rcases r3 with r3 | r3
  · rw [r3]; omega
  · exact r3
theorem sq_cap {m : Int} (h0 : 0 ≤ m) (h1 : m ≤ 4000000) : wrap64 (m * m) = m * m := by
  have := mul_bound (x := m) (y := m) (M := 4000000) (N := 4000000) (by omega) h1 (by omega) h1
  exact wrap64_in _ (by omega)

end Go.Proofs.YtgbkjioajmnjbaaGreat

namespace Go.Proofs.YtgbkjioajmnjbaaGreat
open Go Go.RowKit Go.IntWalk

theorem span_iff (p a b : Int) : (min a b ≤ p ∧ p ≤ max a b) ↔ (a - p) * (b - p) ≤ 0 := by
  constructor
  · intro h
    rcases Int.le_total a b with hab | hab
    · have := Int.mul_nonneg (a := p - a) (b := b - p) (by omega) (by omega); grind
    · have := Int.mul_nonneg (a := a - p) (b := p - b) (by omega) (by omega); grind
  · intro h
    by_cases h1 : min a b ≤ p
    · by_cases h2 : p ≤ max a b
      · exact ⟨h1, h2⟩
      · have := Int.mul_pos (a := p - a) (b := p - b) (by omega) (by omega); grind
    · have := Int.mul_pos (a := a - p) (b := b - p) (by omega) (by omega); grind

def betZ (a b p : Pt) : Prop := crossZ a b p = 0 ∧ (min a.x b.x ≤ p.x ∧ p.x ≤ max a.x b.x) ∧ (min a.y b.y ≤ p.y ∧ p.y ≤ max a.y b.y)
def ovl1 (a b c d : Int) : Prop := min a b ≤ max c d ∧ min c d ≤ max a b
def ovlZ (a b c d : Pt) : Prop := ovl1 a.x b.x c.x d.x ∧ ovl1 a.y b.y c.y d.y
def rch (u v : Int) : Prop := (0 ≤ u ∨ 0 ≤ v) ∧ (u ≤ 0 ∨ v ≤ 0)
theorem rch_neg {u v : Int} : rch (-u) (-v) ↔ rch u v := by unfold rch; omega
theorem rch_swap {u v : Int} : rch u v ↔ rch v u := by unfold rch; omega

/-- Both ends of a segment through the foot of w are not strictly on one side of w. -/
theorem not_both (ux uy vx vy wx wy : Int) (h : ux * vy = uy * vx) (hx : ux * vx ≤ 0) (hy : uy * vy ≤ 0) (h1 : 0 < wx * uy - wy * ux) (h2 : 0 < wx * vy - wy * vx) : False := by
  have e1 : (wx * uy - wy * ux) * vx = (wx * vy - wy * vx) * ux := by grind
  have e2 : (wx * uy - wy * ux) * vy = (wx * vy - wy * vx) * uy := by grind
  generalize hA : wx * uy - wy * ux = A at *
  generalize hB : wx * vy - wy * vx = B at *
  have s1 := Int.mul_nonneg (Int.le_of_lt h1) (show 0 ≤ -(ux * vx) by omega)
  have s2 := Int.mul_nonneg (Int.le_of_lt h1) (show 0 ≤ -(uy * vy) by omega)
  rw [Int.mul_neg] at s1 s2
  have q1 : B * (ux * ux) = A * (ux * vx) := by rw [← Int.mul_assoc, ← e1, Int.mul_assoc, Int.mul_comm vx]
  have q2 : B * (uy * uy) = A * (uy * vy) := by rw [← Int.mul_assoc, ← e2, Int.mul_assoc, Int.mul_comm vy]
  have z1 : ux = 0 := by
    rcases Int.lt_trichotomy ux 0 with h' | h' | h'
    · have := Int.mul_pos h2 (Int.mul_pos_of_neg_of_neg h' h'); omega
    · exact h'
    · have := Int.mul_pos h2 (Int.mul_pos h' h'); omega
  have z2 : uy = 0 := by
    rcases Int.lt_trichotomy uy 0 with h' | h' | h'
    · have := Int.mul_pos h2 (Int.mul_pos_of_neg_of_neg h' h'); omega
    · exact h'
    · have := Int.mul_pos h2 (Int.mul_pos h' h'); omega
  subst z1 z2
  simp at hA
  omega
theorem bet_rch {a b c : Pt} (d : Pt) (h : betZ a b c) : rch (crossZ c d a) (crossZ c d b) := by
  obtain ⟨h0, hx, hy⟩ := h
  rw [span_iff] at hx hy
  unfold crossZ at *
  have hk : (a.x - c.x) * (b.y - c.y) = (a.y - c.y) * (b.x - c.x) := by grind
  constructor
  · rcases Int.lt_or_le ((d.x - c.x) * (a.y - c.y) - (d.y - c.y) * (a.x - c.x)) 0 with h1 | h1
    · rcases Int.lt_or_le ((d.x - c.x) * (b.y - c.y) - (d.y - c.y) * (b.x - c.x)) 0 with h2 | h2
      · exact (not_both _ _ _ _ (-(d.x - c.x)) (-(d.y - c.y)) hk hx hy (by grind) (by grind)).elim
      · exact .inr h2
    · exact .inl h1
  · rcases Int.lt_or_le 0 ((d.x - c.x) * (a.y - c.y) - (d.y - c.y) * (a.x - c.x)) with h1 | h1
    · rcases Int.lt_or_le 0 ((d.x - c.x) * (b.y - c.y) - (d.y - c.y) * (b.x - c.x)) with h2 | h2
      · exact (not_both _ _ _ _ _ _ hk hx hy h1 h2).elim
      · exact .inr h2
    · exact .inl h1
theorem bet_ovl {a b c : Pt} (d : Pt) (h : betZ a b c) : ovlZ a b c d := by
  obtain ⟨_, hx, hy⟩ := h
  unfold ovlZ ovl1
  omega
theorem bet_all {a b c : Pt} (d : Pt) (h : betZ a b c) : ovlZ a b c d ∧ rch (crossZ a b c) (crossZ a b d) ∧ rch (crossZ c d a) (crossZ c d b) :=
  ⟨bet_ovl d h, by have := h.1; unfold rch; omega, bet_rch d h⟩
theorem ovl_comm {a b c d : Pt} : ovlZ a b c d ↔ ovlZ c d a b := by unfold ovlZ ovl1; omega
theorem ovl_swap {a b c d : Pt} : ovlZ a b c d ↔ ovlZ a b d c := by unfold ovlZ ovl1; omega
theorem ovl_swap' {a b c d : Pt} : ovlZ a b c d ↔ ovlZ b a c d := by unfold ovlZ ovl1; omega
theorem cross_anti (a b p : Pt) : crossZ b a p = -crossZ a b p := by unfold crossZ; grind

theorem apart1 {a b c d A B C D : Int} (he : A * b - B * a = D * c - C * d) (hd : A - B = D - C) (h1 : 0 < A) (h2 : B < 0) (h3 : 0 < D) (h4 : C < 0) : ovl1 a b c d := by
  unfold ovl1
  refine ⟨?_, ?_⟩
  · rcases Int.lt_or_le (max c d) (min a b) with h | h
    · exfalso
      have s1 := Int.mul_nonneg (Int.le_of_lt h1) (show 0 ≤ b - min a b by omega)
      have s2 := Int.mul_nonneg (show 0 ≤ -B by omega) (show 0 ≤ a - min a b by omega)
      have s3 := Int.mul_nonneg (Int.le_of_lt h3) (show 0 ≤ min a b - 1 - c by omega)
      have s4 := Int.mul_nonneg (show 0 ≤ -C by omega) (show 0 ≤ min a b - 1 - d by omega)
      generalize min a b = m at *
      have hm : A * m - B * m = D * m - C * m := by rw [← Int.sub_mul, hd, Int.sub_mul]
      simp only [Int.mul_sub, Int.neg_mul, Int.mul_one] at s1 s2 s3 s4
      omega
    · exact h
  · rcases Int.lt_or_le (max a b) (min c d) with h | h
    · exfalso
      have s1 := Int.mul_nonneg (Int.le_of_lt h1) (show 0 ≤ max a b - b by omega)
      have s2 := Int.mul_nonneg (show 0 ≤ -B by omega) (show 0 ≤ max a b - a by omega)
      have s3 := Int.mul_nonneg (Int.le_of_lt h3) (show 0 ≤ c - max a b - 1 by omega)
      have s4 := Int.mul_nonneg (show 0 ≤ -C by omega) (show 0 ≤ d - max a b - 1 by omega)
      generalize max a b = m at *
      have hm : A * m - B * m = D * m - C * m := by rw [← Int.sub_mul, hd, Int.sub_mul]
      simp only [Int.mul_sub, Int.neg_mul, Int.mul_one] at s1 s2 s3 s4
      omega
    · exact h
theorem apart2 {a b c d A B C D : Int} (he : A * b - B * a = D * c - C * d) (hd : A - B = D - C) (h1 : A * B < 0) (h2 : C * D < 0) : ovl1 a b c d := by
  have n1 : (0 < A ∧ B < 0) ∨ (A < 0 ∧ 0 < B) := by
    rcases Int.lt_trichotomy A 0 with h | h | h <;> rcases Int.lt_trichotomy B 0 with k | k | k
    all_goals first | (exact .inl ⟨h, k⟩) | (exact .inr ⟨h, k⟩) | (subst h; simp at h1; done) | (subst k; simp at h1; done) | (have := Int.mul_pos h k; omega) | (have := Int.mul_pos_of_neg_of_neg h k; omega)
  have n2 : (0 < C ∧ D < 0) ∨ (C < 0 ∧ 0 < D) := by
    rcases Int.lt_trichotomy C 0 with h | h | h <;> rcases Int.lt_trichotomy D 0 with k | k | k
    all_goals first | (exact .inl ⟨h, k⟩) | (exact .inr ⟨h, k⟩) | (subst h; simp at h2; done) | (subst k; simp at h2; done) | (have := Int.mul_pos h k; omega) | (have := Int.mul_pos_of_neg_of_neg h k; omega)
  rcases n1 with ⟨p1, p2⟩ | ⟨p1, p2⟩
  · exact apart1 he hd p1 p2 (by omega) (by omega)
  · exact apart1 (A := -A) (B := -B) (C := -C) (D := -D) (by grind) (by omega) (by omega) (by omega) (by omega) (by omega)
theorem strict_ovl {a b c d : Pt} (h1 : crossZ a b c * crossZ a b d < 0) (h2 : crossZ c d a * crossZ c d b < 0) : ovlZ a b c d := by
  have hd : crossZ c d a - crossZ c d b = crossZ a b d - crossZ a b c := by unfold crossZ; grind
  exact ⟨apart2 (by unfold crossZ; grind) hd h2 h1, apart2 (by unfold crossZ; grind) hd h2 h1⟩
theorem rch_strict {u v : Int} (h : u * v < 0) : rch u v := by
  unfold rch
  rcases Int.lt_trichotomy u 0 with h1 | h1 | h1 <;> rcases Int.lt_trichotomy v 0 with k | k | k
  all_goals first | omega | (have := Int.mul_pos h1 k; omega) | (have := Int.mul_pos_of_neg_of_neg h1 k; omega)
theorem strict_of_rch {u v : Int} (h : rch u v) (hu : u ≠ 0) (hv : v ≠ 0) : u * v < 0 := by
  unfold rch at h
  rcases Int.lt_trichotomy u 0 with h1 | h1 | h1 <;> rcases Int.lt_trichotomy v 0 with k | k | k
  all_goals first | omega | exact Int.mul_neg_of_neg_of_pos h1 k | exact Int.mul_neg_of_pos_of_neg h1 k

/-- On one line, along which X differs, X alone says whether a point is between. -/
theorem along1 {D E t s : Int} (hD : D ≠ 0) (h : D * s = E * t) (ht : 0 ≤ t * (D - t)) : 0 ≤ s * (E - s) := by
  have e : D * D * (s * (E - s)) = E * E * (t * (D - t)) := by
    have : D * (E - s) = E * (D - t) := by grind
    have h3 : (D * s) * (D * (E - s)) = (E * t) * (E * (D - t)) := by rw [h, this]
    grind
  have hp : 0 < D * D := by
    rcases Int.lt_or_gt_of_ne hD with h' | h'
    · exact Int.mul_pos_of_neg_of_neg h' h'
    · exact Int.mul_pos h' h'
  have h0 : 0 ≤ D * D * (s * (E - s)) := by rw [e]; exact Int.mul_nonneg (sq_nonneg E) ht
  rcases Int.lt_or_le (s * (E - s)) 0 with h' | h'
  · have := Int.mul_neg_of_pos_of_neg hp h'; omega
  · exact h'
theorem bet_of_x {a b c : Pt} (hne : a.x ≠ b.x) (h0 : crossZ a b c = 0) (hx : min a.x b.x ≤ c.x ∧ c.x ≤ max a.x b.x) : betZ a b c := by
  refine ⟨h0, hx, ?_⟩
  rw [span_iff] at hx ⊢
  unfold crossZ at h0
  have := along1 (D := b.x - a.x) (E := b.y - a.y) (t := c.x - a.x) (s := c.y - a.y) (by omega) (by omega) (by grind)
  grind
theorem bet_of_y {a b c : Pt} (hne : a.y ≠ b.y) (h0 : crossZ a b c = 0) (hy : min a.y b.y ≤ c.y ∧ c.y ≤ max a.y b.y) : betZ a b c := by
  refine ⟨h0, ?_, hy⟩
  rw [span_iff] at hy ⊢
  unfold crossZ at h0
  have := along1 (D := b.y - a.y) (E := b.x - a.x) (t := c.y - a.y) (s := c.x - a.x) (by omega) (by omega) (by grind)
  grind
theorem line_all {a b c d : Pt} (hab : a.x ≠ b.x ∨ a.y ≠ b.y) (h1 : crossZ a b c = 0) (h2 : crossZ a b d = 0) : crossZ c d a = 0 ∧ crossZ c d b = 0 := by
  have k1 : (b.x - a.x) * crossZ c d a = 0 := by unfold crossZ at *; grind
  have k2 : (b.y - a.y) * crossZ c d a = 0 := by unfold crossZ at *; grind
  have k3 : crossZ c d b - crossZ c d a = crossZ a b c - crossZ a b d := by unfold crossZ; grind
  have k4 : crossZ c d a = 0 := by
    rcases hab with h | h
    · rcases Int.mul_eq_zero.1 k1 with h' | h'
      · omega
      · exact h'
    · rcases Int.mul_eq_zero.1 k2 with h' | h'
      · omega
      · exact h'
  exact ⟨k4, by omega⟩
theorem meet_line {a b c d : Pt} (ho : ovlZ a b c d) (h1 : crossZ a b c = 0) (h2 : crossZ a b d = 0) (h3 : rch (crossZ c d a) (crossZ c d b)) : betZ a b c ∨ betZ a b d ∨ betZ c d a ∨ betZ c d b := by
  by_cases hx : a.x = b.x
  · by_cases hy : a.y = b.y
    · have hab : a = b := by cases a; cases b; simp at hx hy; simp [hx, hy]
      subst hab
      refine .inr (.inr (.inl ⟨by unfold rch at h3; omega, ?_, ?_⟩)) <;> (unfold ovlZ ovl1 at ho; omega)
    · obtain ⟨l1, l2⟩ := line_all (.inr hy) h1 h2
      by_cases i1 : min a.y b.y ≤ c.y ∧ c.y ≤ max a.y b.y
      · exact .inl (bet_of_y hy h1 i1)
      by_cases i2 : min a.y b.y ≤ d.y ∧ d.y ≤ max a.y b.y
      · exact .inr (.inl (bet_of_y hy h2 i2))
      refine .inr (.inr (.inl (bet_of_y ?_ l1 ?_))) <;> (unfold ovlZ ovl1 at ho; omega)
  · obtain ⟨l1, l2⟩ := line_all (.inl hx) h1 h2
    by_cases i1 : min a.x b.x ≤ c.x ∧ c.x ≤ max a.x b.x
    · exact .inl (bet_of_x hx h1 i1)
    by_cases i2 : min a.x b.x ≤ d.x ∧ d.x ≤ max a.x b.x
    · exact .inr (.inl (bet_of_x hx h2 i2))
    refine .inr (.inr (.inl (bet_of_x ?_ l1 ?_))) <;> (unfold ovlZ ovl1 at ho; omega)
theorem meet_foot {a b c d : Pt} (h1 : crossZ a b c = 0) (h2 : crossZ a b d ≠ 0) (h3 : rch (crossZ c d a) (crossZ c d b)) : betZ a b c := by
  have e0 : crossZ a b d = crossZ a b c + crossZ c d a - crossZ c d b := by unfold crossZ; grind
  have e1 : crossZ c d a * (b.x - c.x) = crossZ c d b * (a.x - c.x) := by unfold crossZ at *; grind
  have e2 : crossZ c d a * (b.y - c.y) = crossZ c d b * (a.y - c.y) := by unfold crossZ at *; grind
  generalize hA : crossZ c d a = A at *
  generalize hB : crossZ c d b = B at *
  have key : ∀ u v : Int, A * v = B * u → u * v ≤ 0 := by
    intro u v he
    by_cases hA0 : A = 0
    · subst hA0
      have : u = 0 := by
        rcases Int.mul_eq_zero.1 (show B * u = 0 by grind) with h | h
        · omega
        · exact h
      subst this; simp
    by_cases hB0 : B = 0
    · subst hB0
      have : v = 0 := by
        rcases Int.mul_eq_zero.1 (show A * v = 0 by grind) with h | h
        · omega
        · exact h
      subst this; simp
    have hs := strict_of_rch h3 hA0 hB0
    rcases Int.lt_or_le 0 (u * v) with hp | hp
    · exfalso
      have hAA : 0 < A * A := by
        rcases Int.lt_or_gt_of_ne hA0 with h' | h'
        · exact Int.mul_pos_of_neg_of_neg h' h'
        · exact Int.mul_pos h' h'
      have t1 := Int.mul_pos hAA hp
      have t2 : A * A * (u * v) = (A * B) * (u * u) := by
        have : A * (A * v) * u = A * (B * u) * u := by rw [he]
        grind
      have t3 := Int.mul_nonneg (show 0 ≤ -(A * B) by omega) (sq_nonneg u)
      grind
    · exact hp
  refine ⟨h1, (span_iff _ _ _).2 (key _ _ e1), (span_iff _ _ _).2 (key _ _ e2)⟩
theorem meet_zero {a b c d : Pt} (ho : ovlZ a b c d) (h1 : crossZ a b c = 0) (h3 : rch (crossZ c d a) (crossZ c d b)) : betZ a b c ∨ betZ a b d ∨ betZ c d a ∨ betZ c d b := by
  by_cases h2 : crossZ a b d = 0
  · exact meet_line ho h1 h2 h3
  · exact .inl (meet_foot h1 h2 h3)
theorem bet_end {a b p : Pt} : betZ a b p ↔ betZ b a p := by
  unfold betZ
  rw [cross_anti a b p]
  omega
/-- Two segments meet in the one sense just if they do in the other one. -/
theorem meet_iff (a b c d : Pt) : (betZ a b c ∨ betZ a b d ∨ betZ c d a ∨ betZ c d b ∨ (crossZ a b c * crossZ a b d < 0 ∧ crossZ c d a * crossZ c d b < 0)) ↔
    ovlZ a b c d ∧ rch (crossZ a b c) (crossZ a b d) ∧ rch (crossZ c d a) (crossZ c d b) := by
  constructor
  · rintro (h | h | h | h | ⟨h1, h2⟩)
    · exact bet_all d h
    · obtain ⟨i, j, k⟩ := bet_all c h
      refine ⟨ovl_swap.1 i, rch_swap.1 j, ?_⟩
      rw [cross_anti c d a, cross_anti c d b] at k
      exact rch_neg.1 k
    · obtain ⟨i, j, k⟩ := bet_all b h
      exact ⟨ovl_comm.1 i, k, j⟩
    · obtain ⟨i, j, k⟩ := bet_all a h
      refine ⟨ovl_comm.1 (ovl_swap.1 i), ?_, rch_swap.1 j⟩
      rw [cross_anti a b c, cross_anti a b d] at k
      exact rch_neg.1 k
    · exact ⟨strict_ovl h1 h2, rch_strict h1, rch_strict h2⟩
  · rintro ⟨ho, r1, r2⟩
    by_cases z1 : crossZ a b c = 0
    · have := meet_zero ho z1 r2
      grind
    by_cases z2 : crossZ a b d = 0
    · have := meet_zero (c := d) (d := c) (ovl_swap.1 ho) z2 (by rw [cross_anti c d a, cross_anti c d b]; exact rch_neg.2 r2)
      rw [bet_end (a := d), bet_end (a := d)] at this
      grind
    by_cases z3 : crossZ c d a = 0
    · have := meet_zero (a := c) (b := d) (c := a) (d := b) (ovl_comm.1 ho) z3 r1
      grind
    by_cases z4 : crossZ c d b = 0
    · have := meet_zero (a := c) (b := d) (c := b) (d := a) (ovl_swap.1 (ovl_comm.1 ho)) z4 (by rw [cross_anti a b c, cross_anti a b d]; exact rch_neg.2 r1)
      rw [bet_end (a := b), bet_end (a := b)] at this
      grind
    exact .inr (.inr (.inr (.inr ⟨strict_of_rch r1 z1 z2, strict_of_rch r2 z3 z4⟩)))
end Go.Proofs.YtgbkjioajmnjbaaGreat

namespace Go.Proofs.YtgbkjioajmnjbaaGreat
open Go Go.RowKit Go.IntWalk

def anyN (f : Nat → Bool) : Nat → Bool
  | 0 => false
  | k + 1 => anyN f k || f k
def parN (f : Nat → Bool) : Nat → Bool
  | 0 => false
  | k + 1 => Bool.xor (parN f k) (f k)
def sumN (f : Nat → Int) : Nat → Int
  | 0 => 0
  | k + 1 => sumN f k + f k
theorem anyN_iff (f : Nat → Bool) : ∀ n, anyN f n = true ↔ ∃ i, i < n ∧ f i = true
  | 0 => by simp [anyN]
  | n + 1 => by
    rw [anyN, Bool.or_eq_true, anyN_iff f n]
    constructor
    · rintro (⟨i, h, hf⟩ | hf)
      · exact ⟨i, by omega, hf⟩
      · exact ⟨n, by omega, hf⟩
    · rintro ⟨i, h, hf⟩
      by_cases hi : i = n
      · subst hi; exact .inr hf
      · exact .inl ⟨i, by omega, hf⟩
theorem anyN_no (f : Nat → Bool) (n : Nat) : anyN f n = false ↔ ∀ i, i < n → f i = false := by
  constructor
  · intro h i hi
    cases hf : f i
    · rfl
    · have := (anyN_iff f n).2 ⟨i, hi, hf⟩; rw [h] at this; cases this
  · intro h
    cases ha : anyN f n
    · rfl
    · obtain ⟨i, hi, hf⟩ := (anyN_iff f n).1 ha
      rw [h i hi] at hf; cases hf
theorem anyN_at (f : Nat → Bool) {k n : Nat} (hk : k < n) (h : f k = true) : anyN f n = true := (anyN_iff f n).2 ⟨k, hk, h⟩
theorem anyN_congr {f g : Nat → Bool} (n : Nat) (h : ∀ i, i < n → f i = g i) : anyN f n = anyN g n := by
  rw [Bool.eq_iff_iff, anyN_iff, anyN_iff]
  exact ⟨fun ⟨i, hi, hf⟩ => ⟨i, hi, by rw [← h i hi]; exact hf⟩, fun ⟨i, hi, hf⟩ => ⟨i, hi, by rw [h i hi]; exact hf⟩⟩
theorem parN_congr {f g : Nat → Bool} : ∀ (n : Nat), (∀ i, i < n → f i = g i) → parN f n = parN g n
  | 0, _ => rfl
  | n + 1, h => by rw [parN, parN, parN_congr n (fun i hi => h i (by omega)), h n (by omega)]
theorem sumN_congr {f g : Nat → Int} : ∀ (n : Nat), (∀ i, i < n → f i = g i) → sumN f n = sumN g n
  | 0, _ => rfl
  | n + 1, h => by rw [sumN, sumN, sumN_congr n (fun i hi => h i (by omega)), h n (by omega)]
theorem parN_xor (f g : Nat → Bool) : ∀ n, parN (fun i => Bool.xor (f i) (g i)) n = Bool.xor (parN f n) (parN g n)
  | 0 => rfl
  | n + 1 => by
    simp only [parN]
    rw [parN_xor f g n]
    cases parN f n <;> cases parN g n <;> cases f n <;> cases g n <;> rfl
theorem parN_tele (q : Nat → Bool) : ∀ n, parN (fun i => Bool.xor (q i) (q (i + 1))) n = Bool.xor (q 0) (q n)
  | 0 => by simp [parN]
  | n + 1 => by
    simp only [parN]
    rw [parN_tele q n]
    cases q 0 <;> cases q n <;> cases q (n + 1) <;> rfl
theorem sumN_add (f g : Nat → Int) : ∀ n, sumN (fun i => f i + g i) n = sumN f n + sumN g n
  | 0 => rfl
  | n + 1 => by simp only [sumN]; rw [sumN_add f g n]; omega
theorem sumN_neg (f : Nat → Int) : ∀ n, sumN (fun i => -f i) n = -sumN f n
  | 0 => rfl
  | n + 1 => by simp only [sumN]; rw [sumN_neg f n]; omega
theorem sumN_tele (q : Nat → Int) : ∀ n, sumN (fun i => q (i + 1) - q i) n = q n - q 0
  | 0 => by simp [sumN]
  | n + 1 => by simp only [sumN]; rw [sumN_tele q n]; omega
theorem sumN_split (f : Nat → Int) (a : Nat) : ∀ b, sumN f (a + b) = sumN f a + sumN (fun i => f (a + i)) b
  | 0 => by simp [sumN]
  | b + 1 => by rw [← Nat.add_assoc, sumN, sumN_split f a b, sumN]; omega
theorem sumN_first (f : Nat → Int) : ∀ n, sumN f (n + 1) = f 0 + sumN (fun i => f (i + 1)) n
  | 0 => by simp [sumN]
  | n + 1 => by rw [sumN, sumN_first f n, sumN]; omega
theorem sumN_rev (f : Nat → Int) : ∀ n, sumN (fun i => f (n - 1 - i)) n = sumN f n
  | 0 => rfl
  | n + 1 => by
    rw [sumN_first]
    have : sumN (fun i => f (n + 1 - 1 - (i + 1))) n = sumN (fun i => f (n - 1 - i)) n := sumN_congr n (fun i hi => by rw [show n + 1 - 1 - (i + 1) = n - 1 - i by omega])
    rw [this, sumN_rev f n, sumN, show n + 1 - 1 - 0 = n by omega]; omega
theorem sumN_bound {f : Nat → Int} {M : Int} : ∀ n, (∀ i, i < n → -M ≤ f i ∧ f i ≤ M) → -(M * n) ≤ sumN f n ∧ sumN f n ≤ M * n
  | 0, _ => by simp [sumN]
  | n + 1, h => by
    have h1 := sumN_bound n (fun i hi => h i (by omega))
    have h2 := h n (by omega)
    rw [sumN, show M * ((n + 1 : Nat) : Int) = M * n + M by grind]
    omega

/-- A corner; they are counted in a circle. -/
def cor (l : List Pt) (i : Nat) : Pt := l.getD (i % l.length) ⟨0, 0⟩
theorem cor_lt (l : List Pt) (i : Nat) (h : i < l.length) : cor l i = l[i] := by
  unfold cor; rw [Nat.mod_eq_of_lt h]; simp [List.getD, h]
theorem cor_len (l : List Pt) : cor l l.length = cor l 0 := by unfold cor; simp
theorem cor_good {l : List Pt} (h : allGood l = true) (i : Nat) : good (cor l i) = true := by
  unfold cor
  rw [List.getD_eq_getElem?_getD]
  cases hx : l[i % l.length]? with
  | none => decide
  | some x => exact List.all_eq_true.1 h _ (List.mem_of_getElem? hx)

/-! ### Parity: a ray to the right and a ray upwards -/
def rightB (a b p : Pt) : Bool := (decide (p.y < a.y) != decide (p.y < b.y)) && (decide (a.y < b.y) == decide (0 < crossZ a b p))
def upcB (a b p : Pt) : Bool := (decide (a.x ≤ p.x) != decide (b.x ≤ p.x)) && (decide (crossZ a b p < 0) == decide (a.x < b.x))
def quadB (p a : Pt) : Bool := decide (p.x < a.x) && decide (p.y < a.y)
theorem sgn_pos (x y : Int) : 0 < x * y ↔ (0 < x ∧ 0 < y) ∨ (x < 0 ∧ y < 0) := by
  rcases Int.lt_trichotomy x 0 with h | h | h <;> rcases Int.lt_trichotomy y 0 with k | k | k
  · have := Int.mul_pos_of_neg_of_neg h k; omega
  · subst k; simp
  · have := Int.mul_neg_of_neg_of_pos h k; omega
  · subst h; simp
  · subst h; simp
  · subst h; simp
  · have := Int.mul_neg_of_pos_of_neg h k; omega
  · subst k; simp
  · have := Int.mul_pos h k; omega
theorem sgn_neg (x y : Int) : x * y < 0 ↔ (0 < x ∧ y < 0) ∨ (x < 0 ∧ 0 < y) := by
  have := sgn_pos x (-y)
  rw [show x * -y = -(x * y) by grind] at this
  omega
theorem parity_num (ax ay bx b_y P R : Int) (hp : 0 < P ↔ (0 < ax ∧ 0 < b_y) ∨ (ax < 0 ∧ b_y < 0)) (hn : P < 0 ↔ (0 < ax ∧ b_y < 0) ∨ (ax < 0 ∧ 0 < b_y))
    (kp : 0 < R ↔ (0 < ay ∧ 0 < bx) ∨ (ay < 0 ∧ bx < 0)) (kn : R < 0 ↔ (0 < ay ∧ bx < 0) ∨ (ay < 0 ∧ 0 < bx))
    (h : ¬ (P - R = 0 ∧ (min ax bx ≤ 0 ∧ 0 ≤ max ax bx) ∧ (min ay b_y ≤ 0 ∧ 0 ≤ max ay b_y))) :
    Bool.xor ((decide (0 < ay) != decide (0 < b_y)) && (decide (ay < b_y) == decide (0 < P - R))) ((decide (ax ≤ 0) != decide (bx ≤ 0)) && (decide (P - R < 0) == decide (ax < bx))) =
      Bool.xor (decide (0 < ax) && decide (0 < ay)) (decide (0 < bx) && decide (0 < b_y)) := by
  have k1 : decide (ax ≤ 0) = !decide (0 < ax) := by rw [Bool.eq_iff_iff]; simp
  have k2 : decide (bx ≤ 0) = !decide (0 < bx) := by rw [Bool.eq_iff_iff]; simp
  rw [k1, k2]
  by_cases h1 : 0 < ax <;> by_cases h2 : 0 < ay <;> by_cases h3 : 0 < bx <;> by_cases h4 : 0 < b_y
  all_goals
    by_cases e1 : ay < b_y <;> by_cases e2 : 0 < P - R <;> by_cases e3 : P - R < 0 <;> by_cases e4 : ax < bx <;> first | (exfalso; omega) | (simp only [h1, h2, h3, h4, e1, e2, e3, e4]; rfl)
theorem dec_eq {p q : Prop} [Decidable p] [Decidable q] (h : p ↔ q) : decide p = decide q := by rw [decide_eq_decide]; exact h
theorem edge_parity {a b p : Pt} (h : ¬ betZ a b p) : Bool.xor (rightB a b p) (upcB a b p) = Bool.xor (quadB p a) (quadB p b) := by
  have hc : crossZ a b p = (a.x - p.x) * (b.y - p.y) - (a.y - p.y) * (b.x - p.x) := by unfold crossZ; grind
  have := parity_num (a.x - p.x) (a.y - p.y) (b.x - p.x) (b.y - p.y) _ _ (sgn_pos (a.x - p.x) (b.y - p.y)) (sgn_neg _ _) (sgn_pos (a.y - p.y) (b.x - p.x)) (sgn_neg _ _) (by
    intro ⟨h0, h1, h2⟩
    exact h ⟨by rw [hc]; exact h0, by omega, by omega⟩)
  rw [← hc] at this
  unfold rightB upcB quadB
  rw [dec_eq (p := p.y < a.y) (q := 0 < a.y - p.y) (by omega), dec_eq (p := p.y < b.y) (q := 0 < b.y - p.y) (by omega), dec_eq (p := a.y < b.y) (q := a.y - p.y < b.y - p.y) (by omega),
    dec_eq (p := a.x ≤ p.x) (q := a.x - p.x ≤ 0) (by omega), dec_eq (p := b.x ≤ p.x) (q := b.x - p.x ≤ 0) (by omega), dec_eq (p := a.x < b.x) (q := a.x - p.x < b.x - p.x) (by omega),
    dec_eq (p := p.x < a.x) (q := 0 < a.x - p.x) (by omega), dec_eq (p := p.x < b.x) (q := 0 < b.x - p.x) (by omega)]
  exact this
theorem parity_eq (l : List Pt) (p : Pt) (h : ∀ i, i < l.length → ¬ betZ (cor l i) (cor l (i + 1)) p) :
    parN (fun i => rightB (cor l i) (cor l (i + 1)) p) l.length = parN (fun i => upcB (cor l i) (cor l (i + 1)) p) l.length := by
  have h1 := parN_congr (f := fun i => Bool.xor (rightB (cor l i) (cor l (i + 1)) p) (upcB (cor l i) (cor l (i + 1)) p)) (g := fun i => Bool.xor (quadB p (cor l i)) (quadB p (cor l (i + 1)))) l.length (fun i hi => edge_parity (h i hi))
  rw [parN_xor, parN_tele (fun i => quadB p (cor l i)), cor_len] at h1
  revert h1
  cases parN (fun i => rightB (cor l i) (cor l (i + 1)) p) l.length <;> cases parN (fun i => upcB (cor l i) (cor l (i + 1)) p) l.length <;> cases quadB p (cor l 0) <;> simp
end Go.Proofs.YtgbkjioajmnjbaaGreat

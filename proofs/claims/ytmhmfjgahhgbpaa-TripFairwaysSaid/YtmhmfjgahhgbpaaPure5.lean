/- Plain mathematics of segments: nothing of the program. -/
import Derived.Test.YtmhmfjgahhgbpaaPure
namespace Go.Proofs.Ytmhmfjgahhgbpaa
open Go Go.RowKit Go.IntWalk

theorem span_iff (p a b : Int) : (min a b ≤ p ∧ p ≤ max a b) ↔ (a - p) * (b - p) ≤ 0 := by
  constructor
  · intro h
    rcases Int.le_total a b with hab | hab
    · have := Int.mul_nonneg (a := p - a) (b := b - p) (by omega) (by omega); grind
    · have := Int.mul_nonneg (a := a - p) (b := p - b) (by omega) (by omega); grind
  · intro h
    by_cases h1 : min a b ≤ p
    · by_cases h2 : p ≤ max a b
      · exact ⟨h1, h2⟩
      · have := Int.mul_pos (a := p - a) (b := p - b) (by omega) (by omega); grind
    · have := Int.mul_pos (a := a - p) (b := b - p) (by omega) (by omega); grind

def betZ (a b p : Pt) : Prop := crossZ a b p = 0 ∧ (min a.x b.x ≤ p.x ∧ p.x ≤ max a.x b.x) ∧ (min a.y b.y ≤ p.y ∧ p.y ≤ max a.y b.y)
def ovl1 (a b c d : Int) : Prop := min a b ≤ max c d ∧ min c d ≤ max a b
def ovlZ (a b c d : Pt) : Prop := ovl1 a.x b.x c.x d.x ∧ ovl1 a.y b.y c.y d.y
def rch (u v : Int) : Prop := (0 ≤ u ∨ 0 ≤ v) ∧ (u ≤ 0 ∨ v ≤ 0)
theorem rch_neg {u v : Int} : rch (-u) (-v) ↔ rch u v := by unfold rch; omega
theorem rch_swap {u v : Int} : rch u v ↔ rch v u := by unfold rch; omega

/-- Both ends of a segment through the foot of w are not strictly on one side of w. -/
theorem not_both (ux uy vx vy wx wy : Int) (h : ux * vy = uy * vx) (hx : ux * vx ≤ 0) (hy : uy * vy ≤ 0) (h1 : 0 < wx * uy - wy * ux) (h2 : 0 < wx * vy - wy * vx) : False := by
  have e1 : (wx * uy - wy * ux) * vx = (wx * vy - wy * vx) * ux := by grind
  have e2 : (wx * uy - wy * ux) * vy = (wx * vy - wy * vx) * uy := by grind
  generalize hA : wx * uy - wy * ux = A at *
  generalize hB : wx * vy - wy * vx = B at *
  have s1 := Int.mul_nonneg (Int.le_of_lt h1) (show 0 ≤ -(ux * vx) by omega)
  have s2 := Int.mul_nonneg (Int.le_of_lt h1) (show 0 ≤ -(uy * vy) by omega)
  rw [Int.mul_neg] at s1 s2
  have q1 : B * (ux * ux) = A * (ux * vx) := by rw [← Int.mul_assoc, ← e1, Int.mul_assoc, Int.mul_comm vx]
  have q2 : B * (uy * uy) = A * (uy * vy) := by rw [← Int.mul_assoc, ← e2, Int.mul_assoc, Int.mul_comm vy]
  have z1 : ux = 0 := by
    rcases Int.lt_trichotomy ux 0 with h' | h' | h'
    · have := Int.mul_pos h2 (Int.mul_pos_of_neg_of_neg h' h'); omega
    · exact h'
    · have := Int.mul_pos h2 (Int.mul_pos h' h'); omega
  have z2 : uy = 0 := by
    rcases Int.lt_trichotomy uy 0 with h' | h' | h'
    · have := Int.mul_pos h2 (Int.mul_pos_of_neg_of_neg h' h'); omega
    · exact h'
    · have := Int.mul_pos h2 (Int.mul_pos h' h'); omega
  subst z1 z2
  simp at hA
  omega
theorem bet_rch {a b c : Pt} (d : Pt) (h : betZ a b c) : rch (crossZ c d a) (crossZ c d b) := by
  obtain ⟨h0, hx, hy⟩ := h
  rw [span_iff] at hx hy
  unfold crossZ at *
  have hk : (a.x - c.x) * (b.y - c.y) = (a.y - c.y) * (b.x - c.x) := by grind
  constructor
  · rcases Int.lt_or_le ((d.x - c.x) * (a.y - c.y) - (d.y - c.y) * (a.x - c.x)) 0 with h1 | h1
    · rcases Int.lt_or_le ((d.x - c.x) * (b.y - c.y) - (d.y - c.y) * (b.x - c.x)) 0 with h2 | h2
      · exact (not_both _ _ _ _ (-(d.x - c.x)) (-(d.y - c.y)) hk hx hy (by grind) (by grind)).elim
      · exact .inr h2
    · exact .inl h1
  · rcases Int.lt_or_le 0 ((d.x - c.x) * (a.y - c.y) - (d.y - c.y) * (a.x - c.x)) with h1 | h1
    · rcases Int.lt_or_le 0 ((d.x - c.x) * (b.y - c.y) - (d.y - c.y) * (b.x - c.x)) with h2 | h2
      · exact (not_both _ _ _ _ _ _ hk hx hy h1 h2).elim
      · exact .inr h2
    · exact .inl h1
theorem bet_ovl {a b c : Pt} (d : Pt) (h : betZ a b c) : ovlZ a b c d := by
  obtain ⟨_, hx, hy⟩ := h
  unfold ovlZ ovl1
  omega
theorem bet_all {a b c : Pt} (d : Pt) (h : betZ a b c) : ovlZ a b c d ∧ rch (crossZ a b c) (crossZ a b d) ∧ rch (crossZ c d a) (crossZ c d b) :=
  ⟨bet_ovl d h, by have := h.1; unfold rch; omega, bet_rch d h⟩
theorem ovl_comm {a b c d : Pt} : ovlZ a b c d ↔ ovlZ c d a b := by unfold ovlZ ovl1; omega
theorem ovl_swap {a b c d : Pt} : ovlZ a b c d ↔ ovlZ a b d c := by unfold ovlZ ovl1; omega
theorem ovl_swap' {a b c d : Pt} : ovlZ a b c d ↔ ovlZ b a c d := by unfold ovlZ ovl1; omega
theorem cross_anti (a b p : Pt) : crossZ b a p = -crossZ a b p := by unfold crossZ; grind

theorem apart1 {a b c d A B C D : Int} (he : A * b - B * a = D * c - C * d) (hd : A - B = D - C) (h1 : 0 < A) (h2 : B < 0) (h3 : 0 < D) (h4 : C < 0) : ovl1 a b c d := by
  unfold ovl1
  refine ⟨?_, ?_⟩
  · rcases Int.lt_or_le (max c d) (min a b) with h | h
    · exfalso
      have s1 := Int.mul_nonneg (Int.le_of_lt h1) (show 0 ≤ b - min a b by omega)
      have s2 := Int.mul_nonneg (show 0 ≤ -B by omega) (show 0 ≤ a - min a b by omega)
      have s3 := Int.mul_nonneg (Int.le_of_lt h3) (show 0 ≤ min a b - 1 - c by omega)
      have s4 := Int.mul_nonneg (show 0 ≤ -C by omega) (show 0 ≤ min a b - 1 - d by omega)
      generalize min a b = m at *
      have hm : A * m - B * m = D * m - C * m := by rw [← Int.sub_mul, hd, Int.sub_mul]
      simp only [Int.mul_sub, Int.neg_mul, Int.mul_one] at s1 s2 s3 s4
      omega
    · exact h
  · rcases Int.lt_or_le (max a b) (min c d) with h | h
    · exfalso
      have s1 := Int.mul_nonneg (Int.le_of_lt h1) (show 0 ≤ max a b - b by omega)
      have s2 := Int.mul_nonneg (show 0 ≤ -B by omega) (show 0 ≤ max a b - a by omega)
      have s3 := Int.mul_nonneg (Int.le_of_lt h3) (show 0 ≤ c - max a b - 1 by omega)
      have s4 := Int.mul_nonneg (show 0 ≤ -C by omega) (show 0 ≤ d - max a b - 1 by omega)
      generalize max a b = m at *
      have hm : A * m - B * m = D * m - C * m := by rw [← Int.sub_mul, hd, Int.sub_mul]
      simp only [Int.mul_sub, Int.neg_mul, Int.mul_one] at s1 s2 s3 s4
      omega
    · exact h
theorem apart2 {a b c d A B C D : Int} (he : A * b - B * a = D * c - C * d) (hd : A - B = D - C) (h1 : A * B < 0) (h2 : C * D < 0) : ovl1 a b c d := by
  have n1 : (0 < A ∧ B < 0) ∨ (A < 0 ∧ 0 < B) := by
    rcases Int.lt_trichotomy A 0 with h | h | h <;> rcases Int.lt_trichotomy B 0 with k | k | k
    all_goals first | (exact .inl ⟨h, k⟩) | (exact .inr ⟨h, k⟩) | (subst h; simp at h1; done) | (subst k; simp at h1; done) | (have := Int.mul_pos h k; omega) | (have := Int.mul_pos_of_neg_of_neg h k; omega)
  have n2 : (0 < C ∧ D < 0) ∨ (C < 0 ∧ 0 < D) := by
    rcases Int.lt_trichotomy C 0 with h | h | h <;> rcases Int.lt_trichotomy D 0 with k | k | k
    all_goals first | (exact .inl ⟨h, k⟩) | (exact .inr ⟨h, k⟩) | (subst h; simp at h2; done) | (subst k; simp at h2; done) | (have := Int.mul_pos h k; omega) | (have := Int.mul_pos_of_neg_of_neg h k; omega)
  rcases n1 with ⟨p1, p2⟩ | ⟨p1, p2⟩
  · exact apart1 he hd p1 p2 (by omega) (by omega)
  · exact apart1 (A := -A) (B := -B) (C := -C) (D := -D) (by grind) (by omega) (by omega) (by omega) (by omega) (by omega)
theorem strict_ovl {a b c d : Pt} (h1 : crossZ a b c * crossZ a b d < 0) (h2 : crossZ c d a * crossZ c d b < 0) : ovlZ a b c d := by
  have hd : crossZ c d a - crossZ c d b = crossZ a b d - crossZ a b c := by unfold crossZ; grind
  exact ⟨apart2 (by unfold crossZ; grind) hd h2 h1, apart2 (by unfold crossZ; grind) hd h2 h1⟩
theorem rch_strict {u v : Int} (h : u * v < 0) : rch u v := by
  unfold rch
  rcases Int.lt_trichotomy u 0 with h1 | h1 | h1 <;> rcases Int.lt_trichotomy v 0 with k | k | k
  all_goals first | omega | (have := Int.mul_pos h1 k; omega) | (have := Int.mul_pos_of_neg_of_neg h1 k; omega)
theorem strict_of_rch {u v : Int} (h : rch u v) (hu : u ≠ 0) (hv : v ≠ 0) : u * v < 0 := by
  unfold rch at h
  rcases Int.lt_trichotomy u 0 with h1 | h1 | h1 <;> rcases Int.lt_trichotomy v 0 with k | k | k
  all_goals first | omega | exact Int.mul_neg_of_neg_of_pos h1 k | exact Int.mul_neg_of_pos_of_neg h1 k

/-- On one line, along which X differs, X alone says whether a point is between. -/
theorem along1 {D E t s : Int} (hD : D ≠ 0) (h : D * s = E * t) (ht : 0 ≤ t * (D - t)) : 0 ≤ s * (E - s) := by
  have e : D * D * (s * (E - s)) = E * E * (t * (D - t)) := by
    have : D * (E - s) = E * (D - t) := by grind
    have h3 : (D * s) * (D * (E - s)) = (E * t) * (E * (D - t)) := by rw [h, this]
    grind
  have hp : 0 < D * D := by
    rcases Int.lt_or_gt_of_ne hD with h' | h'
    · exact Int.mul_pos_of_neg_of_neg h' h'
    · exact Int.mul_pos h' h'
  have h0 : 0 ≤ D * D * (s * (E - s)) := by rw [e]; exact Int.mul_nonneg (sq_nonneg E) ht
  rcases Int.lt_or_le (s * (E - s)) 0 with h' | h'
  · have := Int.mul_neg_of_pos_of_neg hp h'; omega
  · exact h'
theorem bet_of_x {a b c : Pt} (hne : a.x ≠ b.x) (h0 : crossZ a b c = 0) (hx : min a.x b.x ≤ c.x ∧ c.x ≤ max a.x b.x) : betZ a b c := by
  refine ⟨h0, hx, ?_⟩
  rw [span_iff] at hx ⊢
  unfold crossZ at h0
  have := along1 (D := b.x - a.x) (E := b.y - a.y) (t := c.x - a.x) (s := c.y - a.y) (by omega) (by omega) (by grind)
  grind
theorem bet_of_y {a b c : Pt} (hne : a.y ≠ b.y) (h0 : crossZ a b c = 0) (hy : min a.y b.y ≤ c.y ∧ c.y ≤ max a.y b.y) : betZ a b c := by
  refine ⟨h0, ?_, hy⟩
  rw [span_iff] at hy ⊢
  unfold crossZ at h0
  have := along1 (D := b.y - a.y) (E := b.x - a.x) (t := c.y - a.y) (s := c.x - a.x) (by omega) (by omega) (by grind)
  grind
theorem line_all {a b c d : Pt} (hab : a.x ≠ b.x ∨ a.y ≠ b.y) (h1 : crossZ a b c = 0) (h2 : crossZ a b d = 0) : crossZ c d a = 0 ∧ crossZ c d b = 0 := by
  have k1 : (b.x - a.x) * crossZ c d a = 0 := by unfold crossZ at *; grind
  have k2 : (b.y - a.y) * crossZ c d a = 0 := by unfold crossZ at *; grind
  have k3 : crossZ c d b - crossZ c d a = crossZ a b c - crossZ a b d := by unfold crossZ; grind
  have k4 : crossZ c d a = 0 := by
    rcases hab with h | h
    · rcases Int.mul_eq_zero.1 k1 with h' | h'
      · omega
      · exact h'
    · rcases Int.mul_eq_zero.1 k2 with h' | h'
      · omega
      · exact h'
  exact ⟨k4, by omega⟩
theorem meet_line {a b c d : Pt} (ho : ovlZ a b c d) (h1 : crossZ a b c = 0) (h2 : crossZ a b d = 0) (h3 : rch (crossZ c d a) (crossZ c d b)) : betZ a b c ∨ betZ a b d ∨ betZ c d a ∨ betZ c d b := by
  by_cases hx : a.x = b.x
  · by_cases hy : a.y = b.y
    · have hab : a = b := by cases a; cases b; simp at hx hy; simp [hx, hy]
      subst hab
      refine .inr (.inr (.inl ⟨by unfold rch at h3; omega, ?_, ?_⟩)) <;> (unfold ovlZ ovl1 at ho; omega)
    · obtain ⟨l1, l2⟩ := line_all (.inr hy) h1 h2
      by_cases i1 : min a.y b.y ≤ c.y ∧ c.y ≤ max a.y b.y
      · exact .inl (bet_of_y hy h1 i1)
      by_cases i2 : min a.y b.y ≤ d.y ∧ d.y ≤ max a.y b.y
      · exact .inr (.inl (bet_of_y hy h2 i2))
      refine .inr (.inr (.inl (bet_of_y ?_ l1 ?_))) <;> (unfold ovlZ ovl1 at ho; omega)
  · obtain ⟨l1, l2⟩ := line_all (.inl hx) h1 h2
    by_cases i1 : min a.x b.x ≤ c.x ∧ c.x ≤ max a.x b.x
    · exact .inl (bet_of_x hx h1 i1)
    by_cases i2 : min a.x b.x ≤ d.x ∧ d.x ≤ max a.x b.x
    · exact .inr (.inl (bet_of_x hx h2 i2))
    refine .inr (.inr (.inl (bet_of_x ?_ l1 ?_))) <;> (unfold ovlZ ovl1 at ho; omega)
theorem meet_foot {a b c d : Pt} (h1 : crossZ a b c = 0) (h2 : crossZ a b d ≠ 0) (h3 : rch (crossZ c d a) (crossZ c d b)) : betZ a b c := by
  have e0 : crossZ a b d = crossZ a b c + crossZ c d a - crossZ c d b := by unfold crossZ; grind
  have e1 : crossZ c d a * (b.x - c.x) = crossZ c d b * (a.x - c.x) := by unfold crossZ at *; grind
  have e2 : crossZ c d a * (b.y - c.y) = crossZ c d b * (a.y - c.y) := by unfold crossZ at *; grind
  generalize hA : crossZ c d a = A at *
  generalize hB : crossZ c d b = B at *
  have key : ∀ u v : Int, A * v = B * u → u * v ≤ 0 := by
    intro u v he
    by_cases hA0 : A = 0
    · subst hA0
      have : u = 0 := by
        rcases Int.mul_eq_zero.1 (show B * u = 0 by grind) with h | h
        · omega
        · exact h
      subst this; simp
    by_cases hB0 : B = 0
    · subst hB0
      have : v = 0 := by
        rcases Int.mul_eq_zero.1 (show A * v = 0 by grind) with h | h
        · omega
        · exact h
      subst this; simp
    have hs := strict_of_rch h3 hA0 hB0
    rcases Int.lt_or_le 0 (u * v) with hp | hp
    · exfalso
      have hAA : 0 < A * A := by
        rcases Int.lt_or_gt_of_ne hA0 with h' | h'
        · exact Int.mul_pos_of_neg_of_neg h' h'
        · exact Int.mul_pos h' h'
      have t1 := Int.mul_pos hAA hp
      have t2 : A * A * (u * v) = (A * B) * (u * u) := by
        have : A * (A * v) * u = A * (B * u) * u := by rw [he]
        grind
      have t3 := Int.mul_nonneg (show 0 ≤ -(A * B) by omega) (sq_nonneg u)
      grind
    · exact hp
  refine ⟨h1, (span_iff _ _ _).2 (key _ _ e1), (span_iff _ _ _).2 (key _ _ e2)⟩
theorem meet_zero {a b c d : Pt} (ho : ovlZ a b c d) (h1 : crossZ a b c = 0) (h3 : rch (crossZ c d a) (crossZ c d b)) : betZ a b c ∨ betZ a b d ∨ betZ c d a ∨ betZ c d b := by
  by_cases h2 : crossZ a b d = 0
  · exact meet_line ho h1 h2 h3
  · exact .inl (meet_foot h1 h2 h3)
theorem bet_end {a b p : Pt} : betZ a b p ↔ betZ b a p := by
  unfold betZ
  rw [cross_anti a b p]
  omega
/-- Two segments meet in the one sense just if they do in the other one. -/
theorem meet_iff (a b c d : Pt) : (betZ a b c ∨ betZ a b d ∨ betZ c d a ∨ betZ c d b ∨ (crossZ a b c * crossZ a b d < 0 ∧ crossZ c d a * crossZ c d b < 0)) ↔
    ovlZ a b c d ∧ rch (crossZ a b c) (crossZ a b d) ∧ rch (crossZ c d a) (crossZ c d b) := by
  constructor
  · rintro (h | h | h | h | ⟨h1, h2⟩)
    · exact bet_all d h
    · obtain ⟨i, j, k⟩ := bet_all c h
      refine ⟨ovl_swap.1 i, rch_swap.1 j, ?_⟩
      rw [cross_anti c d a, cross_anti c d b] at k
      exact rch_neg.1 k
    · obtain ⟨i, j, k⟩ := bet_all b h
      exact ⟨ovl_comm.1 i, k, j⟩
    · obtain ⟨i, j, k⟩ := bet_all a h
      refine ⟨ovl_comm.1 (ovl_swap.1 i), ?_, rch_swap.1 j⟩
      rw [cross_anti a b c, cross_anti a b d] at k
      exact rch_neg.1 k
    · exact ⟨strict_ovl h1 h2, rch_strict h1, rch_strict h2⟩
  · rintro ⟨ho, r1, r2⟩
    by_cases z1 : crossZ a b c = 0
    · have := meet_zero ho z1 r2
      grind
    by_cases z2 : crossZ a b d = 0
    · have := meet_zero (c := d) (d := c) (ovl_swap.1 ho) z2 (by rw [cross_anti c d a, cross_anti c d b]; exact rch_neg.2 r2)
      rw [bet_end (a := d), bet_end (a := d)] at this
      grind
    by_cases z3 : crossZ c d a = 0
    · have := meet_zero (a := c) (b := d) (c := a) (d := b) (ovl_comm.1 ho) z3 r1
      grind
    by_cases z4 : crossZ c d b = 0
    · have := meet_zero (a := c) (b := d) (c := b) (d := a) (ovl_swap.1 (ovl_comm.1 ho)) z4 (by rw [cross_anti a b c, cross_anti a b d]; exact rch_neg.2 r1)
      rw [bet_end (a := b), bet_end (a := b)] at this
      grind
    exact .inr (.inr (.inr (.inr ⟨strict_of_rch r1 z1 z2, strict_of_rch r2 z3 z4⟩)))
end Go.Proofs.Ytmhmfjgahhgbpaa

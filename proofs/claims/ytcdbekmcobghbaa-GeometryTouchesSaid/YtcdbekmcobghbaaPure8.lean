/- Plain mathematics of segments and rectangles: nothing of the program. -/
import Derived.Test.YtcdbekmcobghbaaPure6
namespace Go.Proofs.Ytcdbekmcobghbaa
open Go Go.RowKit Go.IntWalk

def meetZ (c d p q : Pt) : Prop := ovlZ c d p q ∧ rch (crossZ c d p) (crossZ c d q) ∧ rch (crossZ p q c) (crossZ p q d)
/-- The segment c d and the rectangle from a to b: the boxes overlap, and the rectangle's corners are not all strictly on one side. -/
def boxZ (c d a b : Pt) : Prop := ovlZ c d a b ∧ (0 ≤ crossZ c d a ∨ 0 ≤ crossZ c d ⟨b.x, a.y⟩ ∨ 0 ≤ crossZ c d b ∨ 0 ≤ crossZ c d ⟨a.x, b.y⟩) ∧ (crossZ c d a ≤ 0 ∨ crossZ c d ⟨b.x, a.y⟩ ≤ 0 ∨ crossZ c d b ≤ 0 ∨ crossZ c d ⟨a.x, b.y⟩ ≤ 0)
def inR (a b c : Pt) : Prop := (a.x ≤ c.x ∧ c.x ≤ b.x) ∧ (a.y ≤ c.y ∧ c.y ≤ b.y)
theorem rch_span (m s t : Int) (hm : 0 ≤ m) (h1 : min s t ≤ 0) (h2 : 0 ≤ max s t) : rch (m * s) (m * t) := by
  unfold rch
  rcases Int.le_total s 0 with hs | hs <;> rcases Int.le_total t 0 with ht | ht
  · have := Int.mul_nonneg hm (show 0 ≤ -s by omega)
    have := Int.mul_nonneg hm (show 0 ≤ -t by omega)
    have e1 : m * -s = -(m * s) := by grind
    have e2 : m * -t = -(m * t) := by grind
    rcases (by omega : s = 0 ∨ t = 0) with h | h <;> subst h <;> simp at * <;> omega
  · have := Int.mul_nonneg hm (show 0 ≤ -s by omega)
    have := Int.mul_nonneg hm ht
    have e1 : m * -s = -(m * s) := by grind
    omega
  · have := Int.mul_nonneg hm (show 0 ≤ -t by omega)
    have := Int.mul_nonneg hm hs
    have e1 : m * -t = -(m * t) := by grind
    omega
  · have := Int.mul_nonneg hm hs
    have := Int.mul_nonneg hm ht
    rcases (by omega : s = 0 ∨ t = 0) with h | h <;> subst h <;> simp at * <;> omega
theorem rch_span' (m s t : Int) (h1 : min s t ≤ 0) (h2 : 0 ≤ max s t) : rch (m * s) (m * t) := by
  rcases Int.le_total 0 m with hm | hm
  · exact rch_span m s t hm h1 h2
  · have := rch_span (-m) s t (by omega) h1 h2
    rw [show -m * s = -(m * s) by grind, show -m * t = -(m * t) by grind, rch_neg] at this
    exact this
/-- A level side. -/
theorem meet_level {c d p q : Pt} (hy : p.y = q.y) (hx : ovl1 c.x d.x p.x q.x) (h1 : min c.y d.y ≤ p.y) (h2 : p.y ≤ max c.y d.y) (hr : rch (crossZ c d p) (crossZ c d q)) : meetZ c d p q := by
  refine ⟨⟨hx, by unfold ovl1; omega⟩, hr, ?_⟩
  have e : ∀ r : Pt, crossZ p q r = (q.x - p.x) * (r.y - p.y) := by intro r; unfold crossZ; rw [hy]; grind
  rw [e, e]
  exact rch_span' _ _ _ (by omega) (by omega)
/-- An upright side. -/
theorem meet_upright {c d p q : Pt} (hx : p.x = q.x) (hy : ovl1 c.y d.y p.y q.y) (h1 : min c.x d.x ≤ p.x) (h2 : p.x ≤ max c.x d.x) (hr : rch (crossZ c d p) (crossZ c d q)) : meetZ c d p q := by
  refine ⟨⟨by unfold ovl1; omega, hy⟩, hr, ?_⟩
  have e : ∀ r : Pt, crossZ p q r = (p.y - q.y) * (r.x - p.x) := by intro r; unfold crossZ; rw [hx]; grind
  rw [e, e]
  exact rch_span' _ _ _ (by omega) (by omega)
/-- A segment that begins left of the rectangle. -/
theorem box_core {cx cy dx dy x0 x1 y0 y1 A B C D : Int} (_hx : x0 ≤ x1) (hy : y0 ≤ y1) (h1 : cx < x0) (h2 : x0 ≤ dx) (h3 : min cy dy ≤ y1) (h4 : y0 ≤ max cy dy)
    (hA : A = (dx - cx) * (y0 - cy) - (dy - cy) * (x0 - cx)) (hB : B = (dx - cx) * (y0 - cy) - (dy - cy) * (x1 - cx)) (hC : C = (dx - cx) * (y1 - cy) - (dy - cy) * (x1 - cx)) (hD : D = (dx - cx) * (y1 - cy) - (dy - cy) * (x0 - cx))
    (hp : 0 ≤ A ∨ 0 ≤ B ∨ 0 ≤ C ∨ 0 ≤ D) (hn : A ≤ 0 ∨ B ≤ 0 ∨ C ≤ 0 ∨ D ≤ 0) :
    rch A D ∨ ((min cy dy ≤ y1 ∧ y1 ≤ max cy dy) ∧ rch C D) ∨ ((min cy dy ≤ y0 ∧ y0 ≤ max cy dy) ∧ rch A B) := by
  have e1 : D - A = (dx - cx) * (y1 - y0) := by grind
  have e2 : C - B = (dx - cx) * (y1 - y0) := by grind
  have e3 := Int.mul_nonneg (show 0 ≤ dx - cx by omega) (show 0 ≤ y1 - y0 by omega)
  by_cases hr : rch A D
  · exact .inl hr
  unfold rch at hr
  by_cases hneg : A < 0 ∧ D < 0
  · refine .inr (.inl ⟨⟨h3, ?_⟩, by unfold rch; omega⟩)
    rcases Int.lt_or_le (max cy dy) y1 with h | h
    · exfalso
      have k1 : 0 ≤ (dx - x0) * (y1 - cy) := Int.mul_nonneg (by omega) (by omega)
      have k2 : 0 < (x0 - cx) * (y1 - dy) := Int.mul_pos (by omega) (by omega)
      have : D = (dx - x0) * (y1 - cy) + (x0 - cx) * (y1 - dy) := by grind
      omega
    · exact h
  · refine .inr (.inr ⟨⟨?_, h4⟩, by unfold rch; omega⟩)
    rcases Int.lt_or_le y0 (min cy dy) with h | h
    · exfalso
      have k1 : 0 ≤ (dx - x0) * (cy - y0) := Int.mul_nonneg (by omega) (by omega)
      have k2 : 0 < (x0 - cx) * (dy - y0) := Int.mul_pos (by omega) (by omega)
      have : A = -((dx - x0) * (cy - y0) + (x0 - cx) * (dy - y0)) := by grind
      omega
    · exact h
section
variable {a b c d : Pt}
theorem box_meets (hx : a.x ≤ b.x) (hy : a.y ≤ b.y) (h : boxZ c d a b) : inR a b c ∨ meetZ c d a ⟨b.x, a.y⟩ ∨ meetZ c d ⟨b.x, a.y⟩ b ∨ meetZ c d b ⟨a.x, b.y⟩ ∨ meetZ c d ⟨a.x, b.y⟩ a := by
  obtain ⟨⟨o1, o2⟩, hp, hn⟩ := h
  by_cases h1 : c.x < a.x
  · have := box_core (cx := c.x) (cy := c.y) (dx := d.x) (dy := d.y) (x0 := a.x) (x1 := b.x) (y0 := a.y) (y1 := b.y) (A := crossZ c d a) (B := crossZ c d ⟨b.x, a.y⟩) (C := crossZ c d b) (D := crossZ c d ⟨a.x, b.y⟩)
      hx hy h1 (by unfold ovl1 at o1; omega) (by unfold ovl1 at o2; omega) (by unfold ovl1 at o2; omega) rfl rfl rfl rfl hp hn
    rcases this with hr | ⟨⟨q1, q2⟩, hr⟩ | ⟨⟨q1, q2⟩, hr⟩
    · exact .inr (.inr (.inr (.inr (meet_upright rfl (by unfold ovl1 at *; (try simp only); omega) (by unfold ovl1 at o1; (try simp only); omega) (by unfold ovl1 at o1; (try simp only); omega) (rch_swap.1 hr)))))
    · exact .inr (.inr (.inr (.inl (meet_level rfl (by unfold ovl1 at *; (try simp only); omega) q1 q2 hr))))
    · exact .inr (.inl (meet_level rfl (by unfold ovl1 at *; (try simp only); omega) q1 q2 hr))
  by_cases h2 : b.x < c.x
  · have := box_core (cx := -c.x) (cy := c.y) (dx := -d.x) (dy := d.y) (x0 := -b.x) (x1 := -a.x) (y0 := a.y) (y1 := b.y) (A := -crossZ c d ⟨b.x, a.y⟩) (B := -crossZ c d a) (C := -crossZ c d ⟨a.x, b.y⟩) (D := -crossZ c d b)
      (by omega) hy (by omega) (by unfold ovl1 at o1; omega) (by unfold ovl1 at o2; omega) (by unfold ovl1 at o2; omega) (by unfold crossZ; grind) (by unfold crossZ; grind) (by unfold crossZ; grind) (by unfold crossZ; grind) (by omega) (by omega)
    rw [rch_neg, rch_neg, rch_neg] at this
    rcases this with hr | ⟨⟨q1, q2⟩, hr⟩ | ⟨⟨q1, q2⟩, hr⟩
    · exact .inr (.inr (.inl (meet_upright rfl (by unfold ovl1 at *; (try simp only); omega) (by unfold ovl1 at o1; (try simp only); omega) (by unfold ovl1 at o1; (try simp only); omega) hr)))
    · exact .inr (.inr (.inr (.inl (meet_level rfl (by unfold ovl1 at *; (try simp only); omega) q1 q2 (rch_swap.1 hr)))))
    · exact .inr (.inl (meet_level rfl (by unfold ovl1 at *; (try simp only); omega) q1 q2 (rch_swap.1 hr)))
  by_cases h3 : c.y < a.y
  · have := box_core (cx := c.y) (cy := c.x) (dx := d.y) (dy := d.x) (x0 := a.y) (x1 := b.y) (y0 := a.x) (y1 := b.x) (A := -crossZ c d a) (B := -crossZ c d ⟨a.x, b.y⟩) (C := -crossZ c d b) (D := -crossZ c d ⟨b.x, a.y⟩)
      hy hx h3 (by unfold ovl1 at o2; omega) (by unfold ovl1 at o1; omega) (by unfold ovl1 at o1; omega) (by unfold crossZ; grind) (by unfold crossZ; grind) (by unfold crossZ; grind) (by unfold crossZ; grind) (by omega) (by omega)
    rw [rch_neg, rch_neg, rch_neg] at this
    rcases this with hr | ⟨⟨q1, q2⟩, hr⟩ | ⟨⟨q1, q2⟩, hr⟩
    · exact .inr (.inl (meet_level rfl (by unfold ovl1 at *; (try simp only); omega) (by unfold ovl1 at o2; (try simp only); omega) (by unfold ovl1 at o2; (try simp only); omega) hr))
    · exact .inr (.inr (.inl (meet_upright rfl (by unfold ovl1 at *; (try simp only); omega) q1 q2 (rch_swap.1 hr))))
    · exact .inr (.inr (.inr (.inr (meet_upright rfl (by unfold ovl1 at *; (try simp only); omega) q1 q2 (rch_swap.1 hr)))))
  by_cases h4 : b.y < c.y
  · have := box_core (cx := -c.y) (cy := c.x) (dx := -d.y) (dy := d.x) (x0 := -b.y) (x1 := -a.y) (y0 := a.x) (y1 := b.x) (A := crossZ c d ⟨a.x, b.y⟩) (B := crossZ c d a) (C := crossZ c d ⟨b.x, a.y⟩) (D := crossZ c d b)
      (by omega) hx (by omega) (by unfold ovl1 at o2; omega) (by unfold ovl1 at o1; omega) (by unfold ovl1 at o1; omega) (by unfold crossZ; grind) (by unfold crossZ; grind) (by unfold crossZ; grind) (by unfold crossZ; grind) (by omega) (by omega)
    rcases this with hr | ⟨⟨q1, q2⟩, hr⟩ | ⟨⟨q1, q2⟩, hr⟩
    · exact .inr (.inr (.inr (.inl (meet_level rfl (by unfold ovl1 at *; (try simp only); omega) (by unfold ovl1 at o2; (try simp only); omega) (by unfold ovl1 at o2; (try simp only); omega) (rch_swap.1 hr)))))
    · exact .inr (.inr (.inl (meet_upright rfl (by unfold ovl1 at *; (try simp only); omega) q1 q2 hr)))
    · exact .inr (.inr (.inr (.inr (meet_upright rfl (by unfold ovl1 at *; (try simp only); omega) q1 q2 hr))))
  · exact .inl ⟨by omega, by omega⟩
end

theorem lin_min (k s x0 x1 : Int) (h0 : x0 ≤ s) (h1 : s ≤ x1) : (k * x0 ≤ k * s ∨ k * x1 ≤ k * s) ∧ (k * s ≤ k * x0 ∨ k * s ≤ k * x1) := by
  rcases Int.le_total 0 k with hk | hk
  · have a1 := Int.mul_nonneg hk (show 0 ≤ s - x0 by omega)
    have a2 := Int.mul_nonneg hk (show 0 ≤ x1 - s by omega)
    have e1 : k * (s - x0) = k * s - k * x0 := by grind
    have e2 : k * (x1 - s) = k * x1 - k * s := by grind
    omega
  · have a1 := Int.mul_nonneg (show 0 ≤ -k by omega) (show 0 ≤ s - x0 by omega)
    have a2 := Int.mul_nonneg (show 0 ≤ -k by omega) (show 0 ≤ x1 - s by omega)
    have e1 : -k * (s - x0) = k * x0 - k * s := by grind
    have e2 : -k * (x1 - s) = k * s - k * x1 := by grind
    omega
section
variable {a b c d : Pt}
/-- A point of the rectangle on the segment's line: the corners are not all strictly on one side. -/
theorem corners_reach {p : Pt} (hp : inR a b p) (h0 : crossZ c d p = 0) : (0 ≤ crossZ c d a ∨ 0 ≤ crossZ c d ⟨b.x, a.y⟩ ∨ 0 ≤ crossZ c d b ∨ 0 ≤ crossZ c d ⟨a.x, b.y⟩) ∧ (crossZ c d a ≤ 0 ∨ crossZ c d ⟨b.x, a.y⟩ ≤ 0 ∨ crossZ c d b ≤ 0 ∨ crossZ c d ⟨a.x, b.y⟩ ≤ 0) := by
  obtain ⟨⟨x0, x1⟩, y0, y1⟩ := hp
  have l1 := lin_min (d.x - c.x) p.y a.y b.y y0 y1
  have l2 := lin_min (-(d.y - c.y)) p.x a.x b.x x0 x1
  have e : ∀ q : Pt, crossZ c d q = (d.x - c.x) * q.y + -(d.y - c.y) * q.x + ((d.y - c.y) * c.x - (d.x - c.x) * c.y) := by intro q; unfold crossZ; grind
  rw [e] at h0
  simp only [e]
  omega
theorem box_of_point {p : Pt} (hp : inR a b p) (hb : betZ c d p) : boxZ c d a b := by
  obtain ⟨h0, h1, h2⟩ := hb
  refine ⟨⟨?_, ?_⟩, corners_reach hp h0⟩
  · obtain ⟨⟨x0, x1⟩, y0, y1⟩ := hp; unfold ovl1; omega
  · obtain ⟨⟨x0, x1⟩, y0, y1⟩ := hp; unfold ovl1; omega
theorem box_of_inR (hp : inR a b c) : boxZ c d a b := box_of_point hp ⟨by unfold crossZ; grind, by omega, by omega⟩
theorem box_of_corner {r : Pt} (hr : inR a b r) (hb : betZ c d r) : boxZ c d a b := box_of_point hr hb
theorem box_of_meet {p q : Pt} (hp : inR a b p) (hq : inR a b q) (hm : meetZ c d p q) (hc : (p = a ∧ q = ⟨b.x, a.y⟩) ∨ (p = ⟨b.x, a.y⟩ ∧ q = b) ∨ (p = b ∧ q = ⟨a.x, b.y⟩) ∨ (p = ⟨a.x, b.y⟩ ∧ q = a)) : boxZ c d a b := by
  obtain ⟨⟨o1, o2⟩, hr, _⟩ := hm
  obtain ⟨⟨x0, x1⟩, y0, y1⟩ := hp
  obtain ⟨⟨x2, x3⟩, y2, y3⟩ := hq
  unfold rch at hr
  refine ⟨⟨by unfold ovl1 at *; omega, by unfold ovl1 at *; omega⟩, ?_⟩
  rcases hc with ⟨rfl, rfl⟩ | ⟨rfl, rfl⟩ | ⟨rfl, rfl⟩ | ⟨rfl, rfl⟩ <;> omega
end
/-- Right of a segment that goes up. -/
theorem right_of {c d p : Pt} (h1 : c.y ≤ p.y) (h2 : p.y < d.y) (h3 : c.x < p.x) (h4 : d.x < p.x) : crossZ c d p < 0 := by
  have k1 := Int.mul_nonneg (show 0 ≤ p.x - d.x by omega) (show 0 ≤ p.y - c.y by omega)
  have k2 := Int.mul_pos (show 0 < p.x - c.x by omega) (show 0 < d.y - p.y by omega)
  have : crossZ c d p = -((p.x - d.x) * (p.y - c.y) + (p.x - c.x) * (d.y - p.y)) := by unfold crossZ; grind
  omega
theorem left_of {c d p : Pt} (h1 : c.y ≤ p.y) (h2 : p.y < d.y) (h3 : p.x < c.x) (h4 : p.x < d.x) : 0 < crossZ c d p := by
  have k1 := Int.mul_nonneg (show 0 ≤ d.x - p.x by omega) (show 0 ≤ p.y - c.y by omega)
  have k2 := Int.mul_pos (show 0 < c.x - p.x by omega) (show 0 < d.y - p.y by omega)
  have : crossZ c d p = (d.x - p.x) * (p.y - c.y) + (c.x - p.x) * (d.y - p.y) := by unfold crossZ; grind
  omega
/-- An edge that does not come near the rectangle is crossed alike by the rays to the right from both ends of a level side. -/
theorem right_same {a b c d : Pt} (hx : a.x ≤ b.x) (hy : a.y ≤ b.y) (hn : ¬ boxZ c d a b) {k : Int} (hk : k = a.y ∨ k = b.y) : rightB c d ⟨a.x, k⟩ = rightB c d ⟨b.x, k⟩ := by
  have key : (c.y ≤ k ∧ k < d.y) ∨ (d.y ≤ k ∧ k < c.y) → ((0 < crossZ c d ⟨a.x, k⟩) ↔ (0 < crossZ c d ⟨b.x, k⟩)) := by
    intro hcr
    by_cases hs : (0 < crossZ c d ⟨a.x, k⟩) ↔ (0 < crossZ c d ⟨b.x, k⟩)
    · exact hs
    exfalso
    by_cases h1 : max c.x d.x < a.x
    · rcases hcr with ⟨q1, q2⟩ | ⟨q1, q2⟩
      · have r1 := right_of (c := c) (d := d) (p := ⟨a.x, k⟩) q1 q2 (by simp only; omega) (by simp only; omega)
        have r2 := right_of (c := c) (d := d) (p := ⟨b.x, k⟩) q1 q2 (by simp only; omega) (by simp only; omega)
        omega
      · have r1 := right_of (c := d) (d := c) (p := ⟨a.x, k⟩) q1 q2 (by simp only; omega) (by simp only; omega)
        have r2 := right_of (c := d) (d := c) (p := ⟨b.x, k⟩) q1 q2 (by simp only; omega) (by simp only; omega)
        rw [cross_anti] at r1 r2
        omega
    by_cases h2 : b.x < min c.x d.x
    · rcases hcr with ⟨q1, q2⟩ | ⟨q1, q2⟩
      · have r1 := left_of (c := c) (d := d) (p := ⟨a.x, k⟩) q1 q2 (by simp only; omega) (by simp only; omega)
        have r2 := left_of (c := c) (d := d) (p := ⟨b.x, k⟩) q1 q2 (by simp only; omega) (by simp only; omega)
        omega
      · have r1 := left_of (c := d) (d := c) (p := ⟨a.x, k⟩) q1 q2 (by simp only; omega) (by simp only; omega)
        have r2 := left_of (c := d) (d := c) (p := ⟨b.x, k⟩) q1 q2 (by simp only; omega) (by simp only; omega)
        rw [cross_anti] at r1 r2
        omega
    · apply hn
      refine ⟨⟨by unfold ovl1; omega, by unfold ovl1; omega⟩, ?_⟩
      rcases hk with rfl | rfl
      · have : (⟨a.x, a.y⟩ : Pt) = a := rfl
        rw [this] at hs
        omega
      · have : (⟨b.x, b.y⟩ : Pt) = b := rfl
        rw [this] at hs
        omega
  unfold rightB
  simp only
  by_cases h1 : k < c.y <;> by_cases h2 : k < d.y
  · simp [h1, h2]
  · rw [dec_eq (key (.inr ⟨by omega, h1⟩))]
  · rw [dec_eq (key (.inl ⟨by omega, h2⟩))]
  · simp [h1, h2]
def sw (p : Pt) : Pt := ⟨p.y, p.x⟩
theorem cross_sw (a b c : Pt) : crossZ (sw a) (sw b) (sw c) = -crossZ a b c := by unfold crossZ sw; grind
theorem up_sw (c d p : Pt) : upcB c d p = rightB (sw c) (sw d) (sw p) := by
  unfold upcB rightB
  rw [cross_sw]
  have e1 : decide (c.x ≤ p.x) = !decide ((sw p).y < (sw c).y) := by unfold sw; rw [Bool.eq_iff_iff]; simp
  have e2 : decide (d.x ≤ p.x) = !decide ((sw p).y < (sw d).y) := by unfold sw; rw [Bool.eq_iff_iff]; simp
  have e3 : decide (crossZ c d p < 0) = decide (0 < -crossZ c d p) := dec_eq (by omega)
  have e4 : decide (c.x < d.x) = decide ((sw c).y < (sw d).y) := rfl
  rw [e1, e2, e3, e4]
  cases decide ((sw p).y < (sw c).y) <;> cases decide ((sw p).y < (sw d).y) <;> cases decide (0 < -crossZ c d p) <;> cases decide ((sw c).y < (sw d).y) <;> rfl
theorem box_sw {a b c d : Pt} : boxZ (sw c) (sw d) (sw a) (sw b) ↔ boxZ c d a b := by
  have e1 : crossZ (sw c) (sw d) ⟨(sw b).x, (sw a).y⟩ = -crossZ c d ⟨a.x, b.y⟩ := cross_sw c d ⟨a.x, b.y⟩
  have e2 : crossZ (sw c) (sw d) ⟨(sw a).x, (sw b).y⟩ = -crossZ c d ⟨b.x, a.y⟩ := cross_sw c d ⟨b.x, a.y⟩
  unfold boxZ ovlZ
  rw [e1, e2, cross_sw, cross_sw]
  have f1 : ovl1 (sw c).x (sw d).x (sw a).x (sw b).x = ovl1 c.y d.y a.y b.y := rfl
  have f2 : ovl1 (sw c).y (sw d).y (sw a).y (sw b).y = ovl1 c.x d.x a.x b.x := rfl
  rw [f1, f2]
  constructor
  · rintro ⟨⟨h1, h2⟩, h3, h4⟩; exact ⟨⟨h2, h1⟩, by omega, by omega⟩
  · rintro ⟨⟨h1, h2⟩, h3, h4⟩; exact ⟨⟨h2, h1⟩, by omega, by omega⟩
theorem up_same {a b c d : Pt} (hx : a.x ≤ b.x) (hy : a.y ≤ b.y) (hn : ¬ boxZ c d a b) {k : Int} (hk : k = a.x ∨ k = b.x) : upcB c d ⟨k, a.y⟩ = upcB c d ⟨k, b.y⟩ := by
  rw [up_sw, up_sw]
  exact right_same (a := sw a) (b := sw b) (c := sw c) (d := sw d) hy hx (fun h => hn (box_sw.1 h)) hk
end Go.Proofs.Ytcdbekmcobghbaa

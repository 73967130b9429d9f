/- Plain mathematics of circles: the determinant, and turning a triangle round. Nothing of the program. -/
import Derived.Test.YtcdbekmcobghbaaPure2
namespace Go.Proofs.Ytcdbekmcobghbaa
open Go Go.RowKit Go.IntWalk

theorem wrap64_wmul (x y : Int) : wrap64 (wrap64 x * y) = wrap64 (x * y) := by
  obtain ⟨j, hj⟩ := wrap64_form x
  rw [hj, show (x + 18446744073709551616 * j) * y = x * y + 18446744073709551616 * (j * y) by grind]
  exact wrap64_add64 _ _
theorem wrap64_mulw (x y : Int) : wrap64 (x * wrap64 y) = wrap64 (x * y) := by
  rw [Int.mul_comm, wrap64_wmul, Int.mul_comm]

/-- The determinant as the reference reckons it. -/
def detW (a b c d : Pt) : Int :=
  wrap64 (wrap64 (wrap64 (wrap64 (wrap64 (wrap64 (a.x - d.x) * wrap64 (a.x - d.x)) + wrap64 (wrap64 (a.y - d.y) * wrap64 (a.y - d.y))) * wrap64 (wrap64 (wrap64 (b.x - d.x) * wrap64 (c.y - d.y)) - wrap64 (wrap64 (b.y - d.y) * wrap64 (c.x - d.x))))
    - wrap64 (wrap64 (wrap64 (wrap64 (b.x - d.x) * wrap64 (b.x - d.x)) + wrap64 (wrap64 (b.y - d.y) * wrap64 (b.y - d.y))) * wrap64 (wrap64 (wrap64 (a.x - d.x) * wrap64 (c.y - d.y)) - wrap64 (wrap64 (a.y - d.y) * wrap64 (c.x - d.x)))))
    + wrap64 (wrap64 (wrap64 (wrap64 (c.x - d.x) * wrap64 (c.x - d.x)) + wrap64 (wrap64 (c.y - d.y) * wrap64 (c.y - d.y))) * wrap64 (wrap64 (wrap64 (a.x - d.x) * wrap64 (b.y - d.y)) - wrap64 (wrap64 (a.y - d.y) * wrap64 (b.x - d.x)))))
/-- Of differences. -/
def det6 (ax ay bx by_ cx cy : Int) : Int := (ax * ax + ay * ay) * (bx * cy - by_ * cx) - (bx * bx + by_ * by_) * (ax * cy - ay * cx) + (cx * cx + cy * cy) * (ax * by_ - ay * bx)
def detZ (a b c d : Pt) : Int := det6 (a.x - d.x) (a.y - d.y) (b.x - d.x) (b.y - d.y) (c.x - d.x) (c.y - d.y)
theorem detW_eq (a b c d : Pt) : detW a b c d = wrap64 (detZ a b c d) := by
  unfold detW detZ det6
  simp only [wrap64_wmul, wrap64_mulw, wrap64_wadd, wrap64_addw, wrap64_wsub, wrap64_subw, wrap64_idem]
theorem sideSum_eq (a b c d : Pt) : sideSum a b c d = wrap64 (detZ a b c d) := by
  unfold sideSum sideTerm
  simp only [crossW_eq, dotW_eq, wrap64_wmul, wrap64_mulw, wrap64_wadd, wrap64_addw, wrap64_wsub, wrap64_subw, wrap64_idem]
  congr 1
  unfold detZ det6 dotZ crossZ
  grind
theorem det_side (a b c d : Pt) : detW a b c d = sideSum a b c d := by rw [detW_eq, sideSum_eq]
theorem detZ_swap (a b c d : Pt) : detZ b a c d = -detZ a b c d := by unfold detZ det6; grind

theorem close_iff (a b : Pt) (ha : good a = true) (hb : good b = true) : closeTo a b = true ↔ (-20000 ≤ a.x - b.x ∧ a.x - b.x ≤ 20000) ∧ (-20000 ≤ a.y - b.y ∧ a.y - b.y ≤ 20000) := by
  rw [good_iff] at ha hb
  unfold closeTo withinB
  rw [wrap64_in _ (by omega), wrap64_in _ (by omega)]
  simp
theorem detZ_bound {a b c d : Pt} (ha : good a = true) (hb : good b = true) (hc : good c = true) (hd : good d = true) (h1 : closeTo a d = true) (h2 : closeTo b d = true) (h3 : closeTo c d = true) :
    -3000000000000000000 ≤ detZ a b c d ∧ detZ a b c d ≤ 3000000000000000000 := by
  rw [close_iff _ _ ha hd] at h1
  rw [close_iff _ _ hb hd] at h2
  rw [close_iff _ _ hc hd] at h3
  unfold detZ
  generalize a.x - d.x = ax at *
  generalize a.y - d.y = ay at *
  generalize b.x - d.x = bx at *
  generalize b.y - d.y = by_ at *
  generalize c.x - d.x = cx at *
  generalize c.y - d.y = cy at *
  have sq : ∀ x : Int, -20000 ≤ x → x ≤ 20000 → -400000000 ≤ x * x ∧ x * x ≤ 400000000 := fun x h h' => mul_bound (M := 20000) (N := 20000) h h' h h'
  have pr : ∀ x y : Int, -20000 ≤ x → x ≤ 20000 → -20000 ≤ y → y ≤ 20000 → -400000000 ≤ x * y ∧ x * y ≤ 400000000 := fun x y h h' g g' => mul_bound (M := 20000) (N := 20000) h h' g g'
  have a1 := sq ax (by omega) (by omega)
  have a2 := sq ay (by omega) (by omega)
  have b1 := sq bx (by omega) (by omega)
  have b2 := sq by_ (by omega) (by omega)
  have c1 := sq cx (by omega) (by omega)
  have c2 := sq cy (by omega) (by omega)
  have p1 := pr bx cy (by omega) (by omega) (by omega) (by omega)
  have p2 := pr by_ cx (by omega) (by omega) (by omega) (by omega)
  have p3 := pr ax cy (by omega) (by omega) (by omega) (by omega)
  have p4 := pr ay cx (by omega) (by omega) (by omega) (by omega)
  have p5 := pr ax by_ (by omega) (by omega) (by omega) (by omega)
  have p6 := pr ay bx (by omega) (by omega) (by omega) (by omega)
  have m1 := mul_bound (x := ax * ax + ay * ay) (y := bx * cy - by_ * cx) (M := 800000000) (N := 800000000) (by omega) (by omega) (by omega) (by omega)
  have m2 := mul_bound (x := bx * bx + by_ * by_) (y := ax * cy - ay * cx) (M := 800000000) (N := 800000000) (by omega) (by omega) (by omega) (by omega)
  have m3 := mul_bound (x := cx * cx + cy * cy) (y := ax * by_ - ay * bx) (M := 800000000) (N := 800000000) (by omega) (by omega) (by omega) (by omega)
  unfold det6
  omega

theorem cmpI_neg (z : Int) : cmpI (-z) 0 = -cmpI z 0 := by unfold cmpI; split <;> split <;> (try split) <;> (try split) <;> omega
theorem cmpI_small (z : Int) : cmpI z 0 = -1 ∨ cmpI z 0 = 0 ∨ cmpI z 0 = 1 := by
  unfold cmpI
  split
  · exact .inl rfl
  · split
    · exact .inr (.inr rfl)
    · exact .inr (.inl rfl)
theorem crossZ_swap (a b c : Pt) : crossZ b a c = -crossZ a b c := by unfold crossZ; grind
/-- Both the turn and the side change their sign when two corners are exchanged. -/
theorem side_swap {a b c d : Pt} (ha : good a = true) (hb : good b = true) (hc : good c = true) (hd : good d = true) (h1 : closeTo a d = true) (h2 : closeTo b d = true) (h3 : closeTo c d = true) :
    cmpI (crossW b a c) 0 = -cmpI (crossW a b c) 0 ∧ sideP b a c d = -sideP a b c d := by
  have hz := detZ_bound ha hb hc hd h1 h2 h3
  refine ⟨?_, ?_⟩
  · rw [crossW_good hb ha hc, crossW_good ha hb hc, crossZ_swap, cmpI_neg]
  · unfold sideP
    rw [sideSum_eq, sideSum_eq, detZ_swap, wrap64_in _ (by omega), wrap64_in _ (by omega), cmpI_neg]
end Go.Proofs.Ytcdbekmcobghbaa

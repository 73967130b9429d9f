/- A plane: what the law's cases say of its nodes. -/
import Derived.Test.YtcdbekmcobghbaaLevel
namespace Go.Proofs.Ytcdbekmcobghbaa
open Go Go.RowKit Go.IntWalk

theorem plane_sum (X Y Z x0 y0 x1 y1 x2 y2 px py : Int) :
    levS x0 y0 (X * x0 + Y * y0 + Z) x1 y1 (X * x1 + Y * y1 + Z) x2 y2 (X * x2 + Y * y2 + Z) px py = (X * px + Y * py + Z) * crossZ ⟨x0, y0⟩ ⟨x1, y1⟩ ⟨x2, y2⟩ := by
  unfold levS crossZ
  grind
theorem lowX_mul (L : Int) {D : Int} (_ : D ≠ 0) : lowX (L * D) D = D := by
  unfold lowX
  have : Nat.gcd (L * D).natAbs D.natAbs = D.natAbs := by
    rw [Int.natAbs_mul]
    exact Nat.gcd_eq_right (Nat.dvd_mul_left _ _)
  rw [this]
  split <;> omega
theorem low_plane {L D : Int} (hD : D ≠ 0) (hL : -20000 ≤ L ∧ L ≤ 20000) : lowN (L * D) D = L ∧ lowD (L * D) D = 1 := by
  unfold lowN lowD
  rw [lowX_mul L hD, Int.mul_tdiv_cancel _ hD, Int.tdiv_self hD]
  exact ⟨wrap64_in _ (by omega), wrap64_in _ (by omega)⟩
theorem plane_level {X Y Z x y : Int} (hX : -10 ≤ X ∧ X ≤ 10) (hY : -10 ≤ Y ∧ Y ≤ 10) (hZ : -128 ≤ Z ∧ Z ≤ 127) (hx : -500 ≤ x ∧ x ≤ 499) (hy : -500 ≤ y ∧ y ≤ 499) : -20000 ≤ X * x + Y * y + Z ∧ X * x + Y * y + Z ≤ 20000 := by
  have h1 := mul_bound (x := X) (y := x) (M := 10) (N := 500) hX.1 hX.2 (by omega) (by omega)
  have h2 := mul_bound (x := Y) (y := y) (M := 10) (N := 500) hY.1 hY.2 (by omega) (by omega)
  omega

/-- Four nodes of a plane. -/
structure Plane4 (X Y Z x0 y0 x1 y1 x2 y2 x3 y3 : Int) : Prop where
  hX : -10 ≤ X ∧ X ≤ 10
  hY : -10 ≤ Y ∧ Y ≤ 10
  hZ : -128 ≤ Z ∧ Z ≤ 127
  b0 : (-500 ≤ x0 ∧ x0 ≤ 499) ∧ (-500 ≤ y0 ∧ y0 ≤ 499)
  b1 : (-500 ≤ x1 ∧ x1 ≤ 499) ∧ (-500 ≤ y1 ∧ y1 ≤ 499)
  b2 : (-500 ≤ x2 ∧ x2 ≤ 499) ∧ (-500 ≤ y2 ∧ y2 ≤ 499)
  b3 : (-500 ≤ x3 ∧ x3 ≤ 499) ∧ (-500 ≤ y3 ∧ y3 ≤ 499)
def pl (X Y Z x y : Int) : I3 := (x, y, X * x + Y * y + Z)
def four (X Y Z x0 y0 x1 y1 x2 y2 x3 y3 : Int) : List I3 := [pl X Y Z x0 y0, pl X Y Z x1 y1, pl X Y Z x2 y2, pl X Y Z x3 y3]
section
variable {X Y Z x0 y0 x1 y1 x2 y2 x3 y3 : Int}
theorem small_good {x y : Int} (h : (-500 ≤ x ∧ x ≤ 499) ∧ (-500 ≤ y ∧ y ≤ 499)) : good ⟨x, y⟩ = true := by rw [good_iff]; simp only; omega
theorem pl_good {x y : Int} (hX : -10 ≤ X ∧ X ≤ 10) (hY : -10 ≤ Y ∧ Y ≤ 10) (hZ : -128 ≤ Z ∧ Z ≤ 127) (h : (-500 ≤ x ∧ x ≤ 499) ∧ (-500 ≤ y ∧ y ≤ 499)) : goodN (pl X Y Z x y) = true := by
  unfold goodN pl ptN
  rw [small_good h, Bool.true_and]
  have := plane_level hX hY hZ h.1 h.2
  simp [withinB]; omega
theorem four_all (H : Plane4 X Y Z x0 y0 x1 y1 x2 y2 x3 y3) : (four X Y Z x0 y0 x1 y1 x2 y2 x3 y3).all goodN = true := by
  simp [four, pl_good H.hX H.hY H.hZ H.b0, pl_good H.hX H.hY H.hZ H.b1, pl_good H.hX H.hY H.hZ H.b2, pl_good H.hX H.hY H.hZ H.b3]
theorem four_E (H : Plane4 X Y Z x0 y0 x1 y1 x2 y2 x3 y3) : nodesE (four X Y Z x0 y0 x1 y1 x2 y2 x3 y3) (0, 1, 2) = if crossZ ⟨x0, y0⟩ ⟨x1, y1⟩ ⟨x2, y2⟩ = 0 then 10 else 0 := by
  rw [nodesE_mid (by simp [four]), four_all H]
  have e : crI (psN (four X Y Z x0 y0 x1 y1 x2 y2 x3 y3)) (0, 1, 2) = crossZ ⟨x0, y0⟩ ⟨x1, y1⟩ ⟨x2, y2⟩ := by
    rw [← crossW_good (small_good H.b0) (small_good H.b1) (small_good H.b2)]; rfl
  rw [e, show hasL (psN (four X Y Z x0 y0 x1 y1 x2 y2 x3 y3)) (0, 1, 2) = true by simp [hasL, inL, psN, four]]
  rfl
theorem four_E' (H : Plane4 X Y Z x0 y0 x1 y1 x2 y2 x3 y3) : nodesE (four X Y Z x0 y0 x1 y1 x2 y2 x3 y3) (2, 1, 0) = if crossZ ⟨x0, y0⟩ ⟨x1, y1⟩ ⟨x2, y2⟩ = 0 then 10 else 0 := by
  rw [nodesE_mid (by simp [four]), four_all H]
  have e : crI (psN (four X Y Z x0 y0 x1 y1 x2 y2 x3 y3)) (2, 1, 0) = -crossZ ⟨x0, y0⟩ ⟨x1, y1⟩ ⟨x2, y2⟩ := by
    have : crI (psN (four X Y Z x0 y0 x1 y1 x2 y2 x3 y3)) (2, 1, 0) = crossW ⟨x2, y2⟩ ⟨x1, y1⟩ ⟨x0, y0⟩ := rfl
    rw [this, crossW_good (small_good H.b2) (small_good H.b1) (small_good H.b0)]
    unfold crossZ; grind
  rw [e, show hasL (psN (four X Y Z x0 y0 x1 y1 x2 y2 x3 y3)) (2, 1, 0) = true by simp [hasL, inL, psN, four]]
  simp only [Int.neg_eq_zero]
  rfl
theorem four_T (H : Plane4 X Y Z x0 y0 x1 y1 x2 y2 x3 y3) (hD : crossZ ⟨x0, y0⟩ ⟨x1, y1⟩ ⟨x2, y2⟩ ≠ 0) :
    Three (four X Y Z x0 y0 x1 y1 x2 y2 x3 y3) 0 1 2 0 1 2 x0 y0 (X * x0 + Y * y0 + Z) x1 y1 (X * x1 + Y * y1 + Z) x2 y2 (X * x2 + Y * y2 + Z) :=
  ⟨rfl, rfl, rfl, rfl, rfl, rfl, small_good H.b0, small_good H.b1, small_good H.b2, plane_level H.hX H.hY H.hZ H.b0.1 H.b0.2, plane_level H.hX H.hY H.hZ H.b1.1 H.b1.2, plane_level H.hX H.hY H.hZ H.b2.1 H.b2.2, rfl, rfl, rfl, hD, by simp [four]⟩
theorem four_T' (H : Plane4 X Y Z x0 y0 x1 y1 x2 y2 x3 y3) (hD : crossZ ⟨x0, y0⟩ ⟨x1, y1⟩ ⟨x2, y2⟩ ≠ 0) :
    Three (four X Y Z x0 y0 x1 y1 x2 y2 x3 y3) 2 1 0 2 1 0 x2 y2 (X * x2 + Y * y2 + Z) x1 y1 (X * x1 + Y * y1 + Z) x0 y0 (X * x0 + Y * y0 + Z) :=
  ⟨rfl, rfl, rfl, rfl, rfl, rfl, small_good H.b2, small_good H.b1, small_good H.b0, plane_level H.hX H.hY H.hZ H.b2.1 H.b2.2, plane_level H.hX H.hY H.hZ H.b1.1 H.b1.2, plane_level H.hX H.hY H.hZ H.b0.1 H.b0.2, rfl, rfl, rfl, by
    have : crossZ ⟨x2, y2⟩ ⟨x1, y1⟩ ⟨x0, y0⟩ = -crossZ ⟨x0, y0⟩ ⟨x1, y1⟩ ⟨x2, y2⟩ := by unfold crossZ; grind
    rw [this]; omega, by simp [four]⟩

/-! ### What both packages' functions return for them -/
theorem plane_level_c (H : Plane4 X Y Z x0 y0 x1 y1 x2 y2 x3 y3) (hD : crossZ ⟨x0, y0⟩ ⟨x1, y1⟩ ⟨x2, y2⟩ ≠ 0) (w : World) (A : Option Addr) (cA : Nat) (hA : Row 3 encI w A (four X Y Z x0 y0 x1 y1 x2 y2 x3 y3)) :
    Calls Try.prog 63 #[.slice A 4 cA, .agg #[.int .i64 0, .int .i64 1, .int .i64 2], .agg #[.int .i64 x3, .int .i64 y3]] w
      fun e w' => e = .returned (.tuple #[.agg #[.int .i64 (X * x3 + Y * y3 + Z), .int .i64 1], .int .i64 0]) ∧ Ext w w' := by
  have h := glevel_yes (four_T H hD) (by rw [four_E H, if_neg hD]) x3 y3 (small_good H.b3) w A cA hA
  rw [plane_sum] at h
  obtain ⟨e1, e2⟩ := low_plane hD (plane_level H.hX H.hY H.hZ H.b3.1 H.b3.2)
  rw [e1, e2] at h
  exact h
theorem plane_level_c' (H : Plane4 X Y Z x0 y0 x1 y1 x2 y2 x3 y3) (hD : crossZ ⟨x0, y0⟩ ⟨x1, y1⟩ ⟨x2, y2⟩ ≠ 0) (w : World) (A : Option Addr) (cA : Nat) (hA : Row 3 encI w A (four X Y Z x0 y0 x1 y1 x2 y2 x3 y3)) :
    Calls Try.prog 63 #[.slice A 4 cA, .agg #[.int .i64 2, .int .i64 1, .int .i64 0], .agg #[.int .i64 x3, .int .i64 y3]] w
      fun e w' => e = .returned (.tuple #[.agg #[.int .i64 (X * x3 + Y * y3 + Z), .int .i64 1], .int .i64 0]) ∧ Ext w w' := by
  have hD' : crossZ ⟨x2, y2⟩ ⟨x1, y1⟩ ⟨x0, y0⟩ ≠ 0 := by
    have : crossZ ⟨x2, y2⟩ ⟨x1, y1⟩ ⟨x0, y0⟩ = -crossZ ⟨x0, y0⟩ ⟨x1, y1⟩ ⟨x2, y2⟩ := by unfold crossZ; grind
    omega
  have h := glevel_yes (four_T' H hD) (by rw [four_E' H, if_neg hD]) x3 y3 (small_good H.b3) w A cA hA
  rw [plane_sum] at h
  obtain ⟨e1, e2⟩ := low_plane hD' (plane_level H.hX H.hY H.hZ H.b3.1 H.b3.2)
  rw [e1, e2] at h
  exact h
theorem plane_prism_c (H : Plane4 X Y Z x0 y0 x1 y1 x2 y2 x3 y3) (hD : crossZ ⟨x0, y0⟩ ⟨x1, y1⟩ ⟨x2, y2⟩ ≠ 0) (w : World) (A : Option Addr) (cA : Nat) (hA : Row 3 encI w A (four X Y Z x0 y0 x1 y1 x2 y2 x3 y3)) :
    Calls Try.prog 64 #[.slice A 4 cA, .agg #[.int .i64 0, .int .i64 1, .int .i64 2], .int .i64 0] w
      fun e w' => e = .returned (.tuple #[.int .i64 (prismV x0 y0 (X * x0 + Y * y0 + Z) x1 y1 (X * x1 + Y * y1 + Z) x2 y2 (X * x2 + Y * y2 + Z) 0), .int .i64 0]) ∧ Ext w w' :=
  gprism_yes (four_T H hD) (by rw [four_E H, if_neg hD]) 0 (by omega) w A cA hA
theorem flat_level_c (H : Plane4 X Y Z x0 y0 x1 y1 x2 y2 x3 y3) (hD : crossZ ⟨x0, y0⟩ ⟨x1, y1⟩ ⟨x2, y2⟩ = 0) (w : World) (A : Option Addr) (cA : Nat) (hA : Row 3 encI w A (four X Y Z x0 y0 x1 y1 x2 y2 x3 y3)) :
    Calls Try.prog 63 #[.slice A 4 cA, .agg #[.int .i64 0, .int .i64 1, .int .i64 2], .agg #[.int .i64 x3, .int .i64 y3]] w
      fun e w' => e = .returned (.tuple #[.agg #[.int .i64 0, .int .i64 0], .int .i64 10]) ∧ Ext w w' :=
  glevel_no (four X Y Z x0 y0 x1 y1 x2 y2 x3 y3) 0 1 2 x3 y3 10 w A cA (small_len (by simp [four])) hA (by rw [four_E H, if_pos hD]) (by omega)
theorem flat_level_c' (H : Plane4 X Y Z x0 y0 x1 y1 x2 y2 x3 y3) (hD : crossZ ⟨x0, y0⟩ ⟨x1, y1⟩ ⟨x2, y2⟩ = 0) (w : World) (A : Option Addr) (cA : Nat) (hA : Row 3 encI w A (four X Y Z x0 y0 x1 y1 x2 y2 x3 y3)) :
    Calls Try.prog 63 #[.slice A 4 cA, .agg #[.int .i64 2, .int .i64 1, .int .i64 0], .agg #[.int .i64 x3, .int .i64 y3]] w
      fun e w' => e = .returned (.tuple #[.agg #[.int .i64 0, .int .i64 0], .int .i64 10]) ∧ Ext w w' :=
  glevel_no (four X Y Z x0 y0 x1 y1 x2 y2 x3 y3) 2 1 0 x3 y3 10 w A cA (small_len (by simp [four])) hA (by rw [four_E' H, if_pos hD]) (by omega)
theorem flat_prism_c (H : Plane4 X Y Z x0 y0 x1 y1 x2 y2 x3 y3) (hD : crossZ ⟨x0, y0⟩ ⟨x1, y1⟩ ⟨x2, y2⟩ = 0) (w : World) (A : Option Addr) (cA : Nat) (hA : Row 3 encI w A (four X Y Z x0 y0 x1 y1 x2 y2 x3 y3)) :
    Calls Try.prog 64 #[.slice A 4 cA, .agg #[.int .i64 0, .int .i64 1, .int .i64 2], .int .i64 0] w
      fun e w' => e = .returned (.tuple #[.int .i64 0, .int .i64 10]) ∧ Ext w w' :=
  gprism_no (four X Y Z x0 y0 x1 y1 x2 y2 x3 y3) 0 1 2 0 10 w A cA (small_len (by simp [four])) hA (by rw [four_E H, if_pos hD]) (by omega)
end
end Go.Proofs.Ytcdbekmcobghbaa

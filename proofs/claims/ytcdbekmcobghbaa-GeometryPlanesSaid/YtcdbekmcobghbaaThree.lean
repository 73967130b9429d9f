/- A parameter of three narrow whole numbers, opened. -/
import Derived.Test.YtcdbekmcobghbaaFour
namespace Go.Proofs.Ytcdbekmcobghbaa
open Go Go.ChangeShapes Go.WideShapes Go.ChangeAt Go.RowKit Go.Joins

theorem cells_i8 : Try.prog.cellsOf 83 = 3 := by kernel_rfl
theorem cells_one8 : Try.prog.cellsOf 82 = 1 := by kernel_rfl
set_option maxRecDepth 100000 in
theorem three_i8 {H : Type} {enc : TypeId × Value → H} {w : World} {base b0 : Nat} {r : Reach} {spare : Nat → Bool} {held : Bool} {v : Value} {d : DataW H} {p : List MemPlace}
    (hv : Value.okWide Try.prog w r b0 83 v) (h : DataW.Trod enc Try.prog w base spare held 83 v d p) :
    ∃ a0 a1 a2 : Int, v = .agg #[.int .i8 a0, .int .i8 a1, .int .i8 a2] ∧ (-128 ≤ a0 ∧ a0 ≤ 127) ∧ (-128 ≤ a1 ∧ a1 ≤ 127) ∧ (-128 ≤ a2 ∧ a2 ≤ 127) := by
  obtain ⟨cs, rfl, hsz⟩ := okWide_arr Try.underlying83 hv
  obtain ⟨l⟩ := cs
  match l, hsz.trans cells_i8 with
  | [c0, c1, c2], _ =>
    obtain ⟨fuel, hf⟩ := h
    obtain ⟨xs, m, _, _, _, hn, hx⟩ := DataW.trod_array Try.underlying83 hf
    have get : ∀ i : Nat, i < 3 → ∃ x, xs[i]? = some x := fun i hi => ⟨xs[i]'(by omega), List.getElem?_eq_getElem _⟩
    simp only [cells_one8, Value.cells] at hx
    obtain ⟨x0, g0⟩ := get 0 (by omega)
    obtain ⟨x1, g1⟩ := get 1 (by omega)
    obtain ⟨x2, g2⟩ := get 2 (by omega)
    obtain ⟨a0, e0, _, f0⟩ := DataW.trod_int Try.underlying82 (by have := hx 0 (by omega); rw [g0] at this; exact this)
    obtain ⟨a1, e1, _, f1⟩ := DataW.trod_int Try.underlying82 (by have := hx 1 (by omega); rw [g1] at this; exact this)
    obtain ⟨a2, e2, _, f2⟩ := DataW.trod_int Try.underlying82 (by have := hx 2 (by omega); rw [g2] at this; exact this)
    simp at e0 e1 e2
    subst e0 e1 e2
    have rng : ∀ n : Int, (Lit.int .i8 n).wf = true → -128 ≤ n ∧ n ≤ 127 := fun n hn => by
      have h : IntKind.i8.min ≤ n ∧ n ≤ IntKind.i8.max := by simpa [Lit.wf] using hn
      rw [show IntKind.i8.min = -128 from by decide, show IntKind.i8.max = 127 from by decide] at h
      exact h
    exact ⟨a0, a1, a2, rfl, rng _ f0, rng _ f1, rng _ f2⟩

end Go.Proofs.Ytcdbekmcobghbaa

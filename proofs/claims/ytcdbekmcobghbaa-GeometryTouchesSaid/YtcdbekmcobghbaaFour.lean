/- A parameter of four points, opened. -/
import Derived.Test.YtcdbekmcobghbaaRow
namespace Go.Proofs.Ytcdbekmcobghbaa
open Go Go.ChangeShapes Go.WideShapes Go.ChangeAt Go.RowKit Go.Joins

theorem okWide_arr {P : Program} {w : World} {r : Reach} {base : Nat} {t e : TypeId} {n : Nat} {v : Value} (ht : P.underlying t = some (.array n e)) (h : Value.okWide P w r base t v) : ∃ cs, v = .agg cs ∧ cs.size = P.cellsOf t := by
  simp only [Value.okWide, ht] at h
  obtain ⟨cs, h1, h2, _⟩ := h
  exact ⟨cs, h1, h2⟩
theorem array_eight {α : Type} {cs : Array α} (h : cs.size = 8) : ∃ c0 c1 c2 c3 c4 c5 c6 c7, cs = #[c0, c1, c2, c3, c4, c5, c6, c7] := by
  obtain ⟨l⟩ := cs
  match l, h with
  | [c0, c1, c2, c3, c4, c5, c6, c7], _ => exact ⟨c0, c1, c2, c3, c4, c5, c6, c7, rfl⟩
theorem cells_four : Try.prog.cellsOf 32 = 8 := by kernel_rfl

/-- A point's two cells, read: two whole numbers. -/
theorem point_two_ints {H : Type} {enc : TypeId × Value → H} {w : World} {base : Nat} {spare : Nat → Bool} {held : Bool} {fuel : Nat} {c0 c1 : Value} {x : DataW H × List MemPlace}
    (h : DataW.trod enc Try.prog w base spare held fuel 23 [c0, c1] = some x) : ∃ a b, c0 = .int .i64 a ∧ c1 = .int .i64 b := by
  obtain ⟨y0, y1, n, _, _, h0, h1⟩ := trod_struct2 Try.underlying23 h
  simp only [cells1] at h0 h1
  obtain ⟨a0, e0, _, _⟩ := DataW.trod_int Try.underlying3 h0
  obtain ⟨a1, e1, _, _⟩ := DataW.trod_int Try.underlying3 h1
  simp at e0 e1
  exact ⟨_, _, e0, e1⟩

set_option maxRecDepth 100000 in
theorem four_pts {H : Type} {enc : TypeId × Value → H} {w : World} {base b0 : Nat} {r : Reach} {spare : Nat → Bool} {held : Bool} {v : Value} {d : DataW H} {p : List MemPlace}
    (hv : Value.okWide Try.prog w r b0 32 v) (h : DataW.Trod enc Try.prog w base spare held 32 v d p) :
    ∃ a0 a1 a2 a3 a4 a5 a6 a7, v = .agg #[.int .i64 a0, .int .i64 a1, .int .i64 a2, .int .i64 a3, .int .i64 a4, .int .i64 a5, .int .i64 a6, .int .i64 a7] := by
  obtain ⟨cs, rfl, hsz⟩ := okWide_arr Try.underlying32 hv
  obtain ⟨c0, c1, c2, c3, c4, c5, c6, c7, rfl⟩ := array_eight (hsz.trans cells_four)
  obtain ⟨fuel, hf⟩ := h
  obtain ⟨xs, m, _, _, _, hn, hx⟩ := DataW.trod_array Try.underlying32 hf
  have get : ∀ i : Nat, i < 4 → ∃ x, xs[i]? = some x := fun i hi => ⟨xs[i]'(by omega), List.getElem?_eq_getElem _⟩
  simp only [cellsP, Value.cells] at hx
  obtain ⟨x0, g0⟩ := get 0 (by omega)
  obtain ⟨x1, g1⟩ := get 1 (by omega)
  obtain ⟨x2, g2⟩ := get 2 (by omega)
  obtain ⟨x3, g3⟩ := get 3 (by omega)
  obtain ⟨a0, a1, rfl, rfl⟩ := point_two_ints (by have := hx 0 (by omega); rw [g0] at this; simpa using this)
  obtain ⟨a2, a3, rfl, rfl⟩ := point_two_ints (by have := hx 1 (by omega); rw [g1] at this; simpa using this)
  obtain ⟨a4, a5, rfl, rfl⟩ := point_two_ints (by have := hx 2 (by omega); rw [g2] at this; simpa using this)
  obtain ⟨a6, a7, rfl, rfl⟩ := point_two_ints (by have := hx 3 (by omega); rw [g3] at this; simpa using this)
  exact ⟨_, _, _, _, _, _, _, _, rfl⟩

end Go.Proofs.Ytcdbekmcobghbaa

/- A parameter of a rule, of two small numbers, opened. -/
import Derived.Test.YtohdplnlbnoojaaSrowg
namespace Go.Proofs.Ytohdplnlbnoojaa
open Go Go.ChangeShapes Go.WideShapes Go.ChangeAt Go.RowKit Go.Joins

theorem cells_rule : Try.prog.cellsOf 96 = 3 := by kernel_rfl
theorem cells_u16 : Try.prog.cellsOf 97 = 1 := by kernel_rfl
theorem cells2u : Try.prog.cellsOf 98 = 2 := by kernel_rfl
set_option maxRecDepth 100000 in
theorem open_rule {H : Type} {enc : TypeId × Value → H} {w : World} {base b0 : Nat} {r : Reach} {spare : Nat → Bool} {held : Bool} {v : Value} {d : DataW H} {p : List MemPlace}
    (hv : Value.okWide Try.prog w r b0 96 v) (h : DataW.Trod enc Try.prog w base spare held 96 v d p) :
    ∃ (x y z : Int), v = .agg #[.int .i64 x, .int .i64 y, .int .i64 z] := by
  obtain ⟨cs, rfl, hsz⟩ := okWide_struct Try.underlying96 hv
  obtain ⟨l⟩ := cs
  match l, hsz.trans cells_rule with
  | [c0, c1, c2], _ =>
    obtain ⟨fuel, hf⟩ := h
    obtain ⟨xs, m, _, _, _, hlen, hg⟩ := DataW.trod_struct Try.underlying96 hf
    have h0 := hg 0 _ rfl
    have h1 := hg 1 _ rfl
    have h2 := hg 2 _ rfl
    match xs, hlen with
    | [y0, y1, y2], _ =>
      have h0 : DataW.trod enc Try.prog w base spare held m 3 (([c0, c1, c2].drop 0).take (Try.prog.cellsOf 3)) = some y0 := h0
      have h1 : DataW.trod enc Try.prog w base spare held m 3 (([c0, c1, c2].drop 1).take (Try.prog.cellsOf 3)) = some y1 := h1
      have h2 : DataW.trod enc Try.prog w base spare held m 3 (([c0, c1, c2].drop 2).take (Try.prog.cellsOf 3)) = some y2 := h2
      rw [cells1] at h0 h1 h2
      obtain ⟨a0, e0, _, _⟩ := DataW.trod_int Try.underlying3 h0
      obtain ⟨a1, e1, _, _⟩ := DataW.trod_int Try.underlying3 h1
      obtain ⟨a2, e2, _, _⟩ := DataW.trod_int Try.underlying3 h2
      simp at e0 e1 e2
      subst e0 e1 e2
      exact ⟨a0, a1, a2, rfl⟩
set_option maxRecDepth 100000 in
theorem open_u16s {H : Type} {enc : TypeId × Value → H} {w : World} {base b0 : Nat} {r : Reach} {spare : Nat → Bool} {held : Bool} {v : Value} {d : DataW H} {p : List MemPlace}
    (hv : Value.okWide Try.prog w r b0 98 v) (h : DataW.Trod enc Try.prog w base spare held 98 v d p) :
    ∃ a0 a1 : Int, v = .agg #[.int .u16 a0, .int .u16 a1] ∧ (0 ≤ a0 ∧ a0 < 65536) ∧ (0 ≤ a1 ∧ a1 < 65536) := by
  obtain ⟨cs, rfl, hsz⟩ := okWide_array Try.underlying98 hv
  obtain ⟨c0, c1, rfl⟩ := array2 (hsz.trans cells2u)
  obtain ⟨fuel, hf⟩ := h
  obtain ⟨xs, m, _, _, _, hn, hx⟩ := DataW.trod_array Try.underlying98 hf
  have get : ∀ i : Nat, i < 2 → ∃ x, xs[i]? = some x := fun i hi => ⟨xs[i]'(by omega), List.getElem?_eq_getElem _⟩
  simp only [cells_u16, Value.cells] at hx
  obtain ⟨x0, g0⟩ := get 0 (by omega)
  obtain ⟨x1, g1⟩ := get 1 (by omega)
  have h0 := hx 0 (by omega)
  have h1 := hx 1 (by omega)
  rw [g0] at h0
  rw [g1] at h1
  obtain ⟨a0, e0, _, r0⟩ := DataW.trod_int Try.underlying97 h0
  obtain ⟨a1, e1, _, r1⟩ := DataW.trod_int Try.underlying97 h1
  simp at e0 e1
  subst e0 e1
  have e1 : IntKind.u16.min = 0 := rfl
  have e2 : IntKind.u16.max = 65535 := rfl
  simp only [Lit.wf, Bool.and_eq_true, decide_eq_true_eq, e1, e2] at r0 r1
  exact ⟨_, _, rfl, by omega, by omega⟩
end Go.Proofs.Ytohdplnlbnoojaa

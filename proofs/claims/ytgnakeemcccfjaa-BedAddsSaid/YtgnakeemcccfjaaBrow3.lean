/- A parameter of three beds and levels, opened. -/
import Derived.Test.YtgnakeemcccfjaaBrow
namespace Go.Proofs.Ytgnakeemcccfjaa
open Go Go.ChangeShapes Go.WideShapes Go.ChangeAt Go.RowKit Go.Joins

theorem cells_th : Try.prog.cellsOf 72 = 19 := by kernel_rfl
set_option maxRecDepth 100000 in
theorem grid_cells {H : Type} {enc : TypeId × Value → H} {w : World} {base : Nat} {spare : Nat → Bool} {held : Bool} {n : Nat} {c0 c1 c2 c3 c4 c5 : Value} {y : DataW H × List MemPlace}
    (hf : DataW.trod enc Try.prog w base spare held n 24 [c0, c1, c2, c3, c4, c5] = some y) :
    ∃ (g : Gr) (A : Option Addr) (cap : Nat), [c0, c1, c2, c3, c4, c5] = [.int .i64 g.X, .int .i64 g.Y, .int .i64 g.S, .int .i64 g.C, .int .i64 g.R, .slice A g.L.length cap] ∧ g.L.length ≤ cap ∧ cap ≤ maxLen ∧ Row 1 encZ w A g.L := by
  obtain ⟨xs, m, _, _, _, hlen, hg⟩ := DataW.trod_struct Try.underlying24 hf
  have h0 := hg 0 _ rfl
  have h1 := hg 1 _ rfl
  have h2 := hg 2 _ rfl
  have h3 := hg 3 _ rfl
  have h4 := hg 4 _ rfl
  have h5 := hg 5 _ rfl
  match xs, hlen with
  | [y0, y1, y2, y3, y4, (y5, z5)], _ =>
    have h0 : DataW.trod enc Try.prog w base spare held m 3 (([c0, c1, c2, c3, c4, c5].drop 0).take (Try.prog.cellsOf 3)) = some y0 := h0
    have h1 : DataW.trod enc Try.prog w base spare held m 3 (([c0, c1, c2, c3, c4, c5].drop 1).take (Try.prog.cellsOf 3)) = some y1 := h1
    have h2 : DataW.trod enc Try.prog w base spare held m 3 (([c0, c1, c2, c3, c4, c5].drop 2).take (Try.prog.cellsOf 3)) = some y2 := h2
    have h3 : DataW.trod enc Try.prog w base spare held m 3 (([c0, c1, c2, c3, c4, c5].drop 3).take (Try.prog.cellsOf 3)) = some y3 := h3
    have h4 : DataW.trod enc Try.prog w base spare held m 3 (([c0, c1, c2, c3, c4, c5].drop 4).take (Try.prog.cellsOf 3)) = some y4 := h4
    have h5 : DataW.trod enc Try.prog w base spare held m 22 (([c0, c1, c2, c3, c4, c5].drop 5).take (Try.prog.cellsOf 22)) = some (y5, z5) := h5
    rw [cells1] at h0 h1 h2 h3 h4
    rw [cells_zs] at h5
    obtain ⟨x0, e0, _, _⟩ := DataW.trod_int Try.underlying3 h0
    obtain ⟨x1, e1, _, _⟩ := DataW.trod_int Try.underlying3 h1
    obtain ⟨x2, e2, _, _⟩ := DataW.trod_int Try.underlying3 h2
    obtain ⟨x3, e3, _, _⟩ := DataW.trod_int Try.underlying3 h3
    obtain ⟨x4, e4, _, _⟩ := DataW.trod_int Try.underlying3 h4
    obtain ⟨l, A, cap, e5, k1, k2, k3⟩ := open_rows (enc := enc) (base := base) (spare := spare) (held := held) (d := y5) (p := z5) (v := c5) encZ_len (by omega) Try.underlying22 cells1 int_enc ⟨_, h5⟩
    simp at e0 e1 e2 e3 e4
    subst e0 e1 e2 e3 e4 e5
    exact ⟨⟨x0, x1, x2, x3, x4, l⟩, A, cap, rfl, k1, k2, k3⟩
set_option maxRecDepth 100000 in
theorem open_three {H : Type} {enc : TypeId × Value → H} {w : World} {base b0 : Nat} {r : Reach} {spare : Nat → Bool} {held : Bool} {v : Value} {d : DataW H} {p : List MemPlace}
    (hv : Value.okWide Try.prog w r b0 72 v) (h : DataW.Trod enc Try.prog w base spare held 72 v d p) :
    ∃ (g h q : Gr) (l : List Int) (A B C D : Option Addr) (ca cb cc cd : Nat), v = .agg #[.int .i64 g.X, .int .i64 g.Y, .int .i64 g.S, .int .i64 g.C, .int .i64 g.R, .slice A g.L.length ca, .int .i64 h.X, .int .i64 h.Y, .int .i64 h.S, .int .i64 h.C, .int .i64 h.R, .slice B h.L.length cb, .int .i64 q.X, .int .i64 q.Y, .int .i64 q.S, .int .i64 q.C, .int .i64 q.R, .slice C q.L.length cc, .slice D l.length cd] ∧ g.L.length ≤ maxLen ∧ h.L.length ≤ maxLen ∧ q.L.length ≤ maxLen ∧ l.length ≤ maxLen ∧ Row 1 encZ w A g.L ∧ Row 1 encZ w B h.L ∧ Row 1 encZ w C q.L ∧ Row 1 encZ w D l := by
  obtain ⟨cs, rfl, hsz⟩ := okWide_struct Try.underlying72 hv
  obtain ⟨l⟩ := cs
  match l, hsz.trans cells_th with
  | [c0, c1, c2, c3, c4, c5, c6, c7, c8, c9, c10, c11, c12, c13, c14, c15, c16, c17, c18], _ =>
    obtain ⟨fuel, hf⟩ := h
    obtain ⟨xs, m, _, _, _, hlen, hg⟩ := DataW.trod_struct Try.underlying72 hf
    have h0 := hg 0 _ rfl
    have h1 := hg 1 _ rfl
    have h2 := hg 2 _ rfl
    have h3 := hg 3 _ rfl
    match xs, hlen with
    | [y0, y1, y2, (y3, z3)], _ =>
      have h0 : DataW.trod enc Try.prog w base spare held m 24 (([c0, c1, c2, c3, c4, c5, c6, c7, c8, c9, c10, c11, c12, c13, c14, c15, c16, c17, c18].drop 0).take (Try.prog.cellsOf 24)) = some y0 := h0
      have h1 : DataW.trod enc Try.prog w base spare held m 24 (([c0, c1, c2, c3, c4, c5, c6, c7, c8, c9, c10, c11, c12, c13, c14, c15, c16, c17, c18].drop 6).take (Try.prog.cellsOf 24)) = some y1 := h1
      have h2 : DataW.trod enc Try.prog w base spare held m 24 (([c0, c1, c2, c3, c4, c5, c6, c7, c8, c9, c10, c11, c12, c13, c14, c15, c16, c17, c18].drop 12).take (Try.prog.cellsOf 24)) = some y2 := h2
      have h3 : DataW.trod enc Try.prog w base spare held m 22 (([c0, c1, c2, c3, c4, c5, c6, c7, c8, c9, c10, c11, c12, c13, c14, c15, c16, c17, c18].drop 18).take (Try.prog.cellsOf 22)) = some (y3, z3) := h3
      rw [cells_gr] at h0 h1 h2
      rw [cells_zs] at h3
      obtain ⟨g, A, ca, e0, a1, a2, a3⟩ := grid_cells h0
      obtain ⟨g2, B, cb, e1, b1, b2, b3⟩ := grid_cells h1
      obtain ⟨q, C, cc, e2, q1, q2, q3⟩ := grid_cells h2
      obtain ⟨l, D, cd, e3, d1, d2, d3⟩ := open_rows (enc := enc) (base := base) (spare := spare) (held := held) (d := y3) (p := z3) (v := c18) encZ_len (by omega) Try.underlying22 cells1 int_enc ⟨_, h3⟩
      simp only [List.cons.injEq, and_true] at e0 e1 e2
      obtain ⟨r0, r1, r2, r3, r4, r5⟩ := e0
      obtain ⟨r6, r7, r8, r9, r10, r11⟩ := e1
      obtain ⟨r12, r13, r14, r15, r16, r17⟩ := e2
      subst r0 r1 r2 r3 r4 r5 r6 r7 r8 r9 r10 r11 r12 r13 r14 r15 r16 r17 e3
      exact ⟨g, g2, q, l, A, B, C, D, ca, cb, cc, cd, rfl, by omega, by omega, by omega, by omega, a3, b3, q3, d3⟩
end Go.Proofs.Ytgnakeemcccfjaa

/- A parameter of a struct of nodes, a triangle, a point and a number, opened. -/
import Derived.Test.YtcdbekmcobghbaaOpen
namespace Go.Proofs.Ytcdbekmcobghbaa
open Go Go.ChangeShapes Go.WideShapes Go.ChangeAt Go.RowKit Go.Joins

theorem cells_w : Try.prog.cellsOf 70 = 7 := by kernel_rfl
theorem cells_ns : Try.prog.cellsOf 66 = 1 := by kernel_rfl
theorem cells_n : Try.prog.cellsOf 86 = 3 := by kernel_rfl
theorem node_enc {H : Type} {enc : TypeId × Value → H} {w : World} {base : Nat} {spare : Nat → Bool} {held : Bool} (n : Nat) (cs : List Value) (y : DataW H × List MemPlace) (hl : cs.length = 3)
    (h : DataW.trod enc Try.prog w base spare held n 86 cs = some y) : ∃ a, cs = encI a := by
  match cs, hl with
  | [c0, c1, c2], _ =>
    obtain ⟨xs, m, _, hx, _, hlen, hg⟩ := DataW.trod_struct Try.underlying86 h
    have h0 := hg 0 _ rfl
    have h1 := hg 1 _ rfl
    have h2 := hg 2 _ rfl
    match xs, hlen with
    | [y0, y1, y2], _ =>
      obtain ⟨a0, e0, _, _⟩ := DataW.trod_int Try.underlying3 h0
      obtain ⟨a1, e1, _, _⟩ := DataW.trod_int Try.underlying3 h1
      obtain ⟨a2, e2, _, _⟩ := DataW.trod_int Try.underlying3 h2
      simp [cells1] at e0 e1 e2
      subst e0 e1 e2
      exact ⟨(a0, a1, a2), rfl⟩
set_option maxRecDepth 100000 in
theorem open_wedge {H : Type} {enc : TypeId × Value → H} {w : World} {base b0 : Nat} {r : Reach} {spare : Nat → Bool} {held : Bool} {v : Value} {d : DataW H} {p : List MemPlace}
    (hv : Value.okWide Try.prog w r b0 70 v) (h : DataW.Trod enc Try.prog w base spare held 70 v d p) :
    ∃ (l : List I3) (A : Option Addr) (cap : Nat) (a b c px py lv : Int), v = .agg #[.slice A l.length cap, .int .i64 a, .int .i64 b, .int .i64 c, .int .i64 px, .int .i64 py, .int .i64 lv] ∧ l.length ≤ cap ∧ cap ≤ maxLen ∧ Row 3 encI w A l := by
  obtain ⟨cs, rfl, hsz⟩ := okWide_struct Try.underlying70 hv
  obtain ⟨l⟩ := cs
  match l, hsz.trans cells_w with
  | [c0, c1, c2, c3, c4, c5, c6], _ =>
    obtain ⟨fuel, hf⟩ := h
    obtain ⟨xs, m, _, _, _, hlen, hg⟩ := DataW.trod_struct Try.underlying70 hf
    have h0 := hg 0 _ rfl
    have h1 := hg 1 _ rfl
    have h2 := hg 2 _ rfl
    have h3 := hg 3 _ rfl
    match xs, hlen with
    | [(y0, z0), y1, y2, y3], _ =>
      have h0 : DataW.trod enc Try.prog w base spare held m 66 (([c0, c1, c2, c3, c4, c5, c6].drop 0).take (Try.prog.cellsOf 66)) = some (y0, z0) := h0
      have h1 : DataW.trod enc Try.prog w base spare held m 68 (([c0, c1, c2, c3, c4, c5, c6].drop 1).take (Try.prog.cellsOf 68)) = some y1 := h1
      have h2 : DataW.trod enc Try.prog w base spare held m 23 (([c0, c1, c2, c3, c4, c5, c6].drop 4).take (Try.prog.cellsOf 23)) = some y2 := h2
      have h3 : DataW.trod enc Try.prog w base spare held m 3 (([c0, c1, c2, c3, c4, c5, c6].drop 6).take (Try.prog.cellsOf 3)) = some y3 := h3
      rw [cells1] at h3
      rw [cells_ns] at h0
      rw [cellsT] at h1
      rw [cellsP] at h2
      obtain ⟨l, A, cap, e0, k1, k2, k3⟩ := open_rows (enc := enc) (base := base) (spare := spare) (held := held) (d := y0) (p := z0) (v := c0) encI_len (by omega) Try.underlying66 cells_n node_enc ⟨_, h0⟩
      obtain ⟨⟨a, b, c⟩, e1⟩ := tri_enc m [c1, c2, c3] y1 rfl h1
      obtain ⟨⟨px, py⟩, e2⟩ := point_enc m [c4, c5] y2 rfl h2
      obtain ⟨lv, e3, _, _⟩ := DataW.trod_int Try.underlying3 h3
      have q3 : c6 = .int .i64 lv := by
        have e4 : [c6] = [Value.int .i64 lv] := e3
        simpa using e4
      simp [encI, encP] at e1 e2
      obtain ⟨rfl, rfl, rfl⟩ := e1
      obtain ⟨rfl, rfl⟩ := e2
      subst e0 q3
      exact ⟨l, A, cap, a, b, c, px, py, lv, rfl, k1, k2, k3⟩

end Go.Proofs.Ytcdbekmcobghbaa

/- A parameter that is a quay, opened. -/
import Derived.Test.YtgbkjioajmnjbaaGreatSrow
import Derived.Test.YtgbkjioajmnjbaaGreatSqp
namespace Go.Proofs.YtgbkjioajmnjbaaGreat
open Go Go.ChangeShapes Go.WideShapes Go.ChangeAt Go.RowKit Go.Joins

theorem cells_quay : Tryz.prog.cellsOf 25 = 7 := by kernel_rfl
theorem cells_pt : Tryz.prog.cellsOf 23 = 2 := by kernel_rfl
theorem pt_two_ints {H : Type} {enc : TypeId × Value → H} {w : World} {base : Nat} {spare : Nat → Bool} {held : Bool} {fuel : Nat} {c0 c1 : Value} {x : DataW H × List MemPlace}
    (h : DataW.trod enc Tryz.prog w base spare held fuel 23 [c0, c1] = some x) : ∃ a b, c0 = .int .i64 a ∧ c1 = .int .i64 b := by
  obtain ⟨y0, y1, n, _, _, h0, h1⟩ := trod_struct2 Tryz.underlying23 h
  simp only [cells1] at h0 h1
  obtain ⟨a0, e0, _, _⟩ := DataW.trod_int Tryz.underlying3 h0
  obtain ⟨a1, e1, _, _⟩ := DataW.trod_int Tryz.underlying3 h1
  simp at e0 e1
  exact ⟨_, _, e0, e1⟩
set_option maxRecDepth 100000 in
theorem quay_enc {H : Type} {enc : TypeId × Value → H} {w : World} {base : Nat} {spare : Nat → Bool} {held : Bool} (n : Nat) (cs : List Value) (y : DataW H × List MemPlace) (hl : cs.length = 7)
    (h : DataW.trod enc Tryz.prog w base spare held n 25 cs = some y) : ∃ q : Qu, cs = [.string q.s, .int .i64 q.a.x, .int .i64 q.a.y, .int .i64 q.b.x, .int .i64 q.b.y, .int .i64 q.lev, .int .i64 q.run] := by
  match cs, hl with
  | [c0, c1, c2, c3, c4, c5, c6], _ =>
    obtain ⟨xs, m, _, _, _, hlen, hg⟩ := DataW.trod_struct Tryz.underlying25 h
    have h0 := hg 0 _ rfl
    have h1 := hg 1 _ rfl
    have h2 := hg 2 _ rfl
    have h3 := hg 3 _ rfl
    have h4 := hg 4 _ rfl
    match xs, hlen with
    | [y0, y1, y2, y3, y4], _ =>
      have h0 : DataW.trod enc Tryz.prog w base spare held m 9 (([c0, c1, c2, c3, c4, c5, c6].drop 0).take (Tryz.prog.cellsOf 9)) = some y0 := h0
      have h1 : DataW.trod enc Tryz.prog w base spare held m 23 (([c0, c1, c2, c3, c4, c5, c6].drop 1).take (Tryz.prog.cellsOf 23)) = some y1 := h1
      have h2 : DataW.trod enc Tryz.prog w base spare held m 23 (([c0, c1, c2, c3, c4, c5, c6].drop 3).take (Tryz.prog.cellsOf 23)) = some y2 := h2
      have h3 : DataW.trod enc Tryz.prog w base spare held m 3 (([c0, c1, c2, c3, c4, c5, c6].drop 5).take (Tryz.prog.cellsOf 3)) = some y3 := h3
      have h4 : DataW.trod enc Tryz.prog w base spare held m 3 (([c0, c1, c2, c3, c4, c5, c6].drop 6).take (Tryz.prog.cellsOf 3)) = some y4 := h4
      rw [cells1] at h3 h4
      rw [cells_str] at h0
      rw [cells_pt] at h1 h2
      obtain ⟨s, e0, _, _⟩ := DataW.trod_string Tryz.underlying9 h0
      obtain ⟨ax, ay, e1, e2⟩ := pt_two_ints (c0 := c1) (c1 := c2) h1
      obtain ⟨bx, by_, e3, e4⟩ := pt_two_ints (c0 := c3) (c1 := c4) h2
      obtain ⟨l, e5, _, _⟩ := DataW.trod_int Tryz.underlying3 h3
      obtain ⟨r, e6, _, _⟩ := DataW.trod_int Tryz.underlying3 h4
      simp at e0 e5 e6
      subst e0 e1 e2 e3 e4 e5 e6
      exact ⟨⟨s, ⟨ax, ay⟩, ⟨bx, by_⟩, l, r⟩, rfl⟩
set_option maxRecDepth 100000 in
theorem open_quay {H : Type} {enc : TypeId × Value → H} {w : World} {base b0 : Nat} {r : Reach} {spare : Nat → Bool} {held : Bool} {v : Value} {d : DataW H} {p : List MemPlace}
    (hv : Value.okWide Tryz.prog w r b0 25 v) (h : DataW.Trod enc Tryz.prog w base spare held 25 v d p) :
    ∃ q : Qu, v = .agg #[.string q.s, .int .i64 q.a.x, .int .i64 q.a.y, .int .i64 q.b.x, .int .i64 q.b.y, .int .i64 q.lev, .int .i64 q.run] := by
  obtain ⟨cs, rfl, hsz⟩ := okWide_struct Tryz.underlying25 hv
  obtain ⟨l⟩ := cs
  obtain ⟨fuel, hf⟩ := h
  obtain ⟨q, ha⟩ := quay_enc fuel l _ (hsz.trans cells_quay) hf
  exact ⟨q, by rw [ha]⟩
end Go.Proofs.YtgbkjioajmnjbaaGreat

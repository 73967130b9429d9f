/- A parameter that is a hopper, opened. -/
import Derived.Test.YtmhmfjgahhgbpaaTrow
namespace Go.Proofs.Ytmhmfjgahhgbpaa
open Go Go.ChangeShapes Go.WideShapes Go.ChangeAt Go.RowKit Go.Joins

theorem cellsL : Try.prog.cellsOf 71 = 2 := by kernel_rfl
theorem cells_ho : Try.prog.cellsOf 24 = 3 := by kernel_rfl
theorem cells_ls : Try.prog.cellsOf 22 = 1 := by kernel_rfl
theorem ln_enc {H : Type} {enc : TypeId × Value → H} {w : World} {base : Nat} {spare : Nat → Bool} {held : Bool} (n : Nat) (cs : List Value) (y : DataW H × List MemPlace) (hl : cs.length = 2)
    (h : DataW.trod enc Try.prog w base spare held n 71 cs = some y) : ∃ a, cs = encP a := by
  match cs, hl with
  | [c0, c1], _ =>
    obtain ⟨y0, y1, n, _, _, h0, h1⟩ := trod_struct2 Try.underlying71 h
    simp only [cells1] at h0 h1
    obtain ⟨a0, e0, _, _⟩ := DataW.trod_int Try.underlying3 h0
    obtain ⟨a1, e1, _, _⟩ := DataW.trod_int Try.underlying3 h1
    simp at e0 e1
    subst e0 e1
    exact ⟨⟨a0, a1⟩, rfl⟩
set_option maxRecDepth 100000 in
/-- A parameter of a hopper, opened. -/
theorem open_hopper {H : Type} {enc : TypeId × Value → H} {w : World} {base b0 : Nat} {r : Reach} {spare : Nat → Bool} {held : Bool} {v : Value} {d : DataW H} {p : List MemPlace}
    (hv : Value.okWide Try.prog w r b0 24 v) (h : DataW.Trod enc Try.prog w base spare held 24 v d p) :
    ∃ (s : ByteArray) (x : Int) (l : List Pt) (A : Option Addr) (cap : Nat), v = .agg #[.string s, .int .i64 x, .slice A l.length cap] ∧ l.length ≤ cap ∧ cap ≤ maxLen ∧ Row 2 encP w A l := by
  obtain ⟨cs, rfl, hsz⟩ := okWide_struct Try.underlying24 hv
  obtain ⟨l⟩ := cs
  match l, hsz.trans cells_ho with
  | [c0, c1, c3], _ =>
    obtain ⟨fuel, hf⟩ := h
    obtain ⟨xs, m, _, _, _, hlen, hg⟩ := DataW.trod_struct Try.underlying24 hf
    have h0 := hg 0 _ rfl
    have h1 := hg 1 _ rfl
    have h3 := hg 2 _ rfl
    match xs, hlen with
    | [y0, y1, (y3, z3)], _ =>
      have h0 : DataW.trod enc Try.prog w base spare held m 9 (([c0, c1, c3].drop 0).take (Try.prog.cellsOf 9)) = some y0 := h0
      have h1 : DataW.trod enc Try.prog w base spare held m 3 (([c0, c1, c3].drop 1).take (Try.prog.cellsOf 3)) = some y1 := h1
      have h3 : DataW.trod enc Try.prog w base spare held m 22 (([c0, c1, c3].drop 2).take (Try.prog.cellsOf 22)) = some (y3, z3) := h3
      rw [cells1] at h1
      rw [cells_str] at h0
      rw [cells_ls] at h3
      obtain ⟨s, e0, _, _⟩ := DataW.trod_string Try.underlying9 h0
      obtain ⟨x, e1, _, _⟩ := DataW.trod_int Try.underlying3 h1
      obtain ⟨l, A, cap, e3, k1, k2, k3⟩ := open_rows (enc := enc) (base := base) (spare := spare) (held := held) (d := y3) (p := z3) (v := c3) encP_len (by omega) Try.underlying22 cellsL ln_enc ⟨_, h3⟩
      simp at e0 e1
      subst e0 e1 e3
      exact ⟨s, x, l, A, cap, rfl, k1, k2, k3⟩
end Go.Proofs.Ytmhmfjgahhgbpaa

/- A parameter that is a view, opened. -/
import Derived.Test.YtblmljcgjibfgaaTrowl
namespace Go.Proofs.Ytblmljcgjibfgaa
open Go Go.ChangeShapes Go.WideShapes Go.ChangeAt Go.RowKit Go.Joins

theorem cells_v : Try.prog.cellsOf 51 = 4 := by kernel_rfl
theorem cells_gs : Try.prog.cellsOf 38 = 1 := by kernel_rfl
theorem cells_w : Try.prog.cellsOf 49 = 2 := by kernel_rfl
set_option maxRecDepth 100000 in
theorem open_view {H : Type} {enc : TypeId × Value → H} {w : World} {base b0 : Nat} {r : Reach} {spare : Nat → Bool} {held : Bool} {v : Value} {d : DataW H} {p : List MemPlace}
    (hv : Value.okWide Try.prog w r b0 51 v) (h : DataW.Trod enc Try.prog w base spare held 51 v d p) :
    ∃ (gs : List Ga) (A : Option Addr) (cap : Nat) (x f t : Int), v = .agg #[.slice A gs.length cap, .int .i64 x, .int .i64 f, .int .i64 t] ∧ gs.length ≤ cap ∧ cap ≤ maxLen ∧ Row 4 encG w A gs ∧ ∀ k (hk : k < gs.length), gs[k].l.length ≤ maxLen ∧ Row 2 encP w gs[k].A gs[k].l := by
  obtain ⟨cs, rfl, hsz⟩ := okWide_struct Try.underlying51 hv
  obtain ⟨l⟩ := cs
  match l, hsz.trans cells_v with
  | [c0, c1, c2, c3], _ =>
    obtain ⟨fuel, hf⟩ := h
    obtain ⟨xs, m, _, _, _, hlen, hg⟩ := DataW.trod_struct Try.underlying51 hf
    have h0 := hg 0 _ rfl
    have h1 := hg 1 _ rfl
    have h2 := hg 2 _ rfl
    match xs, hlen with
    | [(y0, z0), y1, (y2, z2)], _ =>
      have h0 : DataW.trod enc Try.prog w base spare held m 38 (([c0, c1, c2, c3].drop 0).take (Try.prog.cellsOf 38)) = some (y0, z0) := h0
      have h1 : DataW.trod enc Try.prog w base spare held m 3 (([c0, c1, c2, c3].drop 1).take (Try.prog.cellsOf 3)) = some y1 := h1
      have h2 : DataW.trod enc Try.prog w base spare held m 49 (([c0, c1, c2, c3].drop 2).take (Try.prog.cellsOf 49)) = some (y2, z2) := h2
      rw [cells_gs] at h0
      rw [cells1] at h1
      rw [cells_w] at h2
      have h0 : DataW.trod enc Try.prog w base spare held m 38 [c0] = some (y0, z0) := h0
      have h2 : DataW.trod enc Try.prog w base spare held m 49 [c2, c3] = some (y2, z2) := h2
      obtain ⟨x, e1, _, _⟩ := DataW.trod_int Try.underlying3 h1
      obtain ⟨u0, u1, n, _, _, k0, k1⟩ := trod_struct2 Try.underlying49 h2
      simp only [cells1] at k0 k1
      obtain ⟨f, e2, _, _⟩ := DataW.trod_int Try.underlying3 k0
      obtain ⟨t, e3, _, _⟩ := DataW.trod_int Try.underlying3 k1
      obtain ⟨gs, A, cap, e4, q1, q2, q3, q4⟩ := open_rowsQ (enc := enc) (base := base) (spare := spare) (held := held) (d := y0) (p := z0) (v := c0) (fun a => a.l.length ≤ maxLen ∧ Row 2 encP w a.A a.l) encG_len (by omega) Try.underlying38 cells_g gauge_enc ⟨m, h0⟩
      simp at e1 e2 e3
      subst e1 e2 e3 e4
      exact ⟨gs, A, cap, x, f, t, rfl, q1, q2, q3, q4⟩
end Go.Proofs.Ytblmljcgjibfgaa

/- A parameter of a way, opened. -/
import Derived.Test.YtgnakeemcccfjaaBrow
namespace Go.Proofs.Ytgnakeemcccfjaa
open Go Go.ChangeShapes Go.WideShapes Go.ChangeAt Go.RowKit Go.Joins

theorem cells_wy : Try.prog.cellsOf 92 = 5 := by kernel_rfl
theorem cells_rt : Try.prog.cellsOf 87 = 3 := by kernel_rfl
set_option maxRecDepth 100000 in
theorem open_way {H : Type} {enc : TypeId × Value → H} {w : World} {base b0 : Nat} {r : Reach} {spare : Nat → Bool} {held : Bool} {v : Value} {d : DataW H} {p : List MemPlace}
    (hv : Value.okWide Try.prog w r b0 92 v) (h : DataW.Trod enc Try.prog w base spare held 92 v d p) :
    ∃ (F T P Q : List Int) (lev : Int) (B D Ap Aq : Option Addr) (cB cD cP cQ : Nat), v = .agg #[.slice B F.length cB, .slice D T.length cD, .int .i64 lev, .slice Ap P.length cP, .slice Aq Q.length cQ] ∧
      Row 1 encZ w B F ∧ Row 1 encZ w D T ∧ Row 1 encZ w Ap P ∧ Row 1 encZ w Aq Q := by
  obtain ⟨cs, rfl, hsz⟩ := okWide_struct Try.underlying92 hv
  obtain ⟨l⟩ := cs
  match l, hsz.trans cells_wy with
  | [c0, c1, c2, c3, c4], _ =>
    obtain ⟨fuel, hf⟩ := h
    obtain ⟨xs, m, _, _, _, hlen, hg⟩ := DataW.trod_struct Try.underlying92 hf
    have h0 := hg 0 _ rfl
    have h1 := hg 1 _ rfl
    have h2 := hg 2 _ rfl
    match xs, hlen with
    | [(y0, z0), (y1, z1), (y2, z2)], _ =>
      have h0 : DataW.trod enc Try.prog w base spare held m 22 (([c0, c1, c2, c3, c4].drop 0).take (Try.prog.cellsOf 22)) = some (y0, z0) := h0
      have h1 : DataW.trod enc Try.prog w base spare held m 22 (([c0, c1, c2, c3, c4].drop 1).take (Try.prog.cellsOf 22)) = some (y1, z1) := h1
      have h2 : DataW.trod enc Try.prog w base spare held m 87 (([c0, c1, c2, c3, c4].drop 2).take (Try.prog.cellsOf 87)) = some (y2, z2) := h2
      rw [cells_zs] at h0 h1
      rw [cells_rt] at h2
      obtain ⟨F, B, cB, e0, _, _, k0⟩ := open_rows (enc := enc) (base := base) (spare := spare) (held := held) (d := y0) (p := z0) (v := c0) encZ_len (by omega) Try.underlying22 cells1 int_enc ⟨_, h0⟩
      obtain ⟨T, D, cD, e1, _, _, k1⟩ := open_rows (enc := enc) (base := base) (spare := spare) (held := held) (d := y1) (p := z1) (v := c1) encZ_len (by omega) Try.underlying22 cells1 int_enc ⟨_, h1⟩
      obtain ⟨us, n, _, _, _, hlen2, hg2⟩ := DataW.trod_struct Try.underlying87 h2
      have g0 := hg2 0 _ rfl
      have g1 := hg2 1 _ rfl
      have g2 := hg2 2 _ rfl
      match us, hlen2 with
      | [y3, (y4, z4), (y5, z5)], _ =>
        have g0 : DataW.trod enc Try.prog w base spare held n 3 (([c2, c3, c4].drop 0).take (Try.prog.cellsOf 3)) = some y3 := g0
        have g1 : DataW.trod enc Try.prog w base spare held n 22 (([c2, c3, c4].drop 1).take (Try.prog.cellsOf 22)) = some (y4, z4) := g1
        have g2 : DataW.trod enc Try.prog w base spare held n 22 (([c2, c3, c4].drop 2).take (Try.prog.cellsOf 22)) = some (y5, z5) := g2
        rw [cells1] at g0
        rw [cells_zs] at g1 g2
        obtain ⟨lev, e2, _, _⟩ := DataW.trod_int Try.underlying3 g0
        obtain ⟨P, Ap, cP, e3, _, _, k2⟩ := open_rows (enc := enc) (base := base) (spare := spare) (held := held) (d := y4) (p := z4) (v := c3) encZ_len (by omega) Try.underlying22 cells1 int_enc ⟨_, g1⟩
        obtain ⟨Q, Aq, cQ, e4, _, _, k3⟩ := open_rows (enc := enc) (base := base) (spare := spare) (held := held) (d := y5) (p := z5) (v := c4) encZ_len (by omega) Try.underlying22 cells1 int_enc ⟨_, g2⟩
        simp at e2
        subst e0 e1 e2 e3 e4
        exact ⟨F, T, P, Q, lev, B, D, Ap, Aq, cB, cD, cP, cQ, rfl, k0, k1, k2, k3⟩
end Go.Proofs.Ytgnakeemcccfjaa

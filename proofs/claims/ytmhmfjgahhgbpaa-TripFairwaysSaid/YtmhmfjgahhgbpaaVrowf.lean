/- Parameters that are a fairway, or a place, opened. -/
import Derived.Test.YtmhmfjgahhgbpaaTrowl
import Derived.Test.YtmhmfjgahhgbpaaVlawfa
namespace Go.Proofs.Ytmhmfjgahhgbpaa
open Go Go.ChangeShapes Go.WideShapes Go.ChangeAt Go.RowKit Go.Joins

theorem cells_bool : Try.prog.cellsOf 4 = 1 := by kernel_rfl
theorem cells_re : Try.prog.cellsOf 52 = 7 := by kernel_rfl
theorem cells_tk : Try.prog.cellsOf 74 = 3 := by kernel_rfl
theorem cells_fw : Try.prog.cellsOf 38 = 3 := by kernel_rfl
theorem cells_pc : Try.prog.cellsOf 40 = 3 := by kernel_rfl
theorem cells_gss : Try.prog.cellsOf 34 = 1 := by kernel_rfl
theorem cells_rss : Try.prog.cellsOf 35 = 1 := by kernel_rfl
theorem cells_tss : Try.prog.cellsOf 36 = 1 := by kernel_rfl
set_option maxRecDepth 100000 in
theorem re_enc {H : Type} {enc : TypeId × Value → H} {w : World} {base : Nat} {spare : Nat → Bool} {held : Bool} (n : Nat) (cs : List Value) (y : DataW H × List MemPlace) (hl : cs.length = 7)
    (h : DataW.trod enc Try.prog w base spare held n 52 cs = some y) : ∃ a, cs = encRe a := by
  match cs, hl with
  | [c0, c1, c2, c3, c4, c5, c6], _ =>
    obtain ⟨xs, m, _, _, _, hlen, hg⟩ := DataW.trod_struct Try.underlying52 h
    have h0 := hg 0 _ rfl
    have h1 := hg 1 _ rfl
    have h2 := hg 2 _ rfl
    have h3 := hg 3 _ rfl
    have h4 := hg 4 _ rfl
    have h5 := hg 5 _ rfl
    have h6 := hg 6 _ rfl
    match xs, hlen with
    | [y0, y1, y2, y3, y4, y5, y6], _ =>
      have h0 : DataW.trod enc Try.prog w base spare held m 9 (([c0, c1, c2, c3, c4, c5, c6].drop 0).take (Try.prog.cellsOf 9)) = some y0 := h0
      have h1 : DataW.trod enc Try.prog w base spare held m 3 (([c0, c1, c2, c3, c4, c5, c6].drop 1).take (Try.prog.cellsOf 3)) = some y1 := h1
      have h2 : DataW.trod enc Try.prog w base spare held m 3 (([c0, c1, c2, c3, c4, c5, c6].drop 2).take (Try.prog.cellsOf 3)) = some y2 := h2
      have h3 : DataW.trod enc Try.prog w base spare held m 3 (([c0, c1, c2, c3, c4, c5, c6].drop 3).take (Try.prog.cellsOf 3)) = some y3 := h3
      have h4 : DataW.trod enc Try.prog w base spare held m 3 (([c0, c1, c2, c3, c4, c5, c6].drop 4).take (Try.prog.cellsOf 3)) = some y4 := h4
      have h5 : DataW.trod enc Try.prog w base spare held m 4 (([c0, c1, c2, c3, c4, c5, c6].drop 5).take (Try.prog.cellsOf 4)) = some y5 := h5
      have h6 : DataW.trod enc Try.prog w base spare held m 4 (([c0, c1, c2, c3, c4, c5, c6].drop 6).take (Try.prog.cellsOf 4)) = some y6 := h6
      rw [cells_str] at h0
      rw [cells1] at h1 h2 h3 h4
      rw [cells_bool] at h5 h6
      obtain ⟨x0, e0, _, _⟩ := DataW.trod_string Try.underlying9 h0
      obtain ⟨x1, e1, _, _⟩ := DataW.trod_int Try.underlying3 h1
      obtain ⟨x2, e2, _, _⟩ := DataW.trod_int Try.underlying3 h2
      obtain ⟨x3, e3, _, _⟩ := DataW.trod_int Try.underlying3 h3
      obtain ⟨x4, e4, _, _⟩ := DataW.trod_int Try.underlying3 h4
      obtain ⟨x5, e5, _⟩ := DataW.trod_bool Try.underlying4 h5
      obtain ⟨x6, e6, _⟩ := DataW.trod_bool Try.underlying4 h6
      simp at e0 e1 e2 e3 e4 e5 e6
      subst e0 e1 e2 e3 e4 e5 e6
      exact ⟨⟨x0, x1, x2, x3, x4, x5, x6⟩, rfl⟩
set_option maxRecDepth 100000 in
theorem tk_enc {H : Type} {enc : TypeId × Value → H} {w : World} {base : Nat} {spare : Nat → Bool} {held : Bool} (n : Nat) (cs : List Value) (y : DataW H × List MemPlace) (hl : cs.length = 3)
    (h : DataW.trod enc Try.prog w base spare held n 74 cs = some y) : ∃ a, cs = encTk a := by
  match cs, hl with
  | [c0, c1, c2], _ =>
    obtain ⟨xs, m, _, _, _, hlen, hg⟩ := DataW.trod_struct Try.underlying74 h
    have h0 := hg 0 _ rfl
    have h1 := hg 1 _ rfl
    have h2 := hg 2 _ rfl
    match xs, hlen with
    | [y0, y1, y2], _ =>
      have h0 : DataW.trod enc Try.prog w base spare held m 9 (([c0, c1, c2].drop 0).take (Try.prog.cellsOf 9)) = some y0 := h0
      have h1 : DataW.trod enc Try.prog w base spare held m 3 (([c0, c1, c2].drop 1).take (Try.prog.cellsOf 3)) = some y1 := h1
      have h2 : DataW.trod enc Try.prog w base spare held m 3 (([c0, c1, c2].drop 2).take (Try.prog.cellsOf 3)) = some y2 := h2
      rw [cells_str] at h0
      rw [cells1] at h1 h2
      obtain ⟨x0, e0, _, _⟩ := DataW.trod_string Try.underlying9 h0
      obtain ⟨x1, e1, _, _⟩ := DataW.trod_int Try.underlying3 h1
      obtain ⟨x2, e2, _, _⟩ := DataW.trod_int Try.underlying3 h2
      simp at e0 e1 e2
      subst e0 e1 e2
      exact ⟨⟨x0, x1, x2⟩, rfl⟩
set_option maxRecDepth 100000 in
theorem pc_enc {H : Type} {enc : TypeId × Value → H} {w : World} {base : Nat} {spare : Nat → Bool} {held : Bool} (n : Nat) (cs : List Value) (y : DataW H × List MemPlace) (hl : cs.length = 3)
    (h : DataW.trod enc Try.prog w base spare held n 40 cs = some y) : ∃ a, cs = encTk a := by
  match cs, hl with
  | [c0, c1, c2], _ =>
    obtain ⟨xs, m, _, _, _, hlen, hg⟩ := DataW.trod_struct Try.underlying40 h
    have h0 := hg 0 _ rfl
    have h1 := hg 1 _ rfl
    have h2 := hg 2 _ rfl
    match xs, hlen with
    | [y0, y1, y2], _ =>
      have h0 : DataW.trod enc Try.prog w base spare held m 9 (([c0, c1, c2].drop 0).take (Try.prog.cellsOf 9)) = some y0 := h0
      have h1 : DataW.trod enc Try.prog w base spare held m 3 (([c0, c1, c2].drop 1).take (Try.prog.cellsOf 3)) = some y1 := h1
      have h2 : DataW.trod enc Try.prog w base spare held m 3 (([c0, c1, c2].drop 2).take (Try.prog.cellsOf 3)) = some y2 := h2
      rw [cells_str] at h0
      rw [cells1] at h1 h2
      obtain ⟨x0, e0, _, _⟩ := DataW.trod_string Try.underlying9 h0
      obtain ⟨x1, e1, _, _⟩ := DataW.trod_int Try.underlying3 h1
      obtain ⟨x2, e2, _, _⟩ := DataW.trod_int Try.underlying3 h2
      simp at e0 e1 e2
      subst e0 e1 e2
      exact ⟨⟨x0, x1, x2⟩, rfl⟩
set_option maxRecDepth 100000 in
/-- A parameter that is a place, opened. -/
theorem open_place {H : Type} {enc : TypeId × Value → H} {w : World} {base b0 : Nat} {r : Reach} {spare : Nat → Bool} {held : Bool} {v : Value} {d : DataW H} {p : List MemPlace}
    (hv : Value.okWide Try.prog w r b0 40 v) (h : DataW.Trod enc Try.prog w base spare held 40 v d p) :
    ∃ (s : ByteArray) (x y : Int), v = .agg #[.string s, .int .i64 x, .int .i64 y] := by
  obtain ⟨cs, rfl, hsz⟩ := okWide_struct Try.underlying40 hv
  obtain ⟨l⟩ := cs
  obtain ⟨fuel, hf⟩ := h
  obtain ⟨a, ha⟩ := pc_enc fuel l _ (hsz.trans cells_pc) hf
  exact ⟨a.s, a.a, a.b, by rw [ha]; rfl⟩
set_option maxRecDepth 100000 in
/-- A parameter that is a fairway, opened. -/
theorem open_fairway {H : Type} {enc : TypeId × Value → H} {w : World} {base b0 : Nat} {r : Reach} {spare : Nat → Bool} {held : Bool} {v : Value} {d : DataW H} {p : List MemPlace}
    (hv : Value.okWide Try.prog w r b0 38 v) (h : DataW.Trod enc Try.prog w base spare held 38 v d p) :
    ∃ (gs : List Ga) (rs : List Re) (ts : List Tk) (Ag Ar At : Option Addr) (cg cr ct : Nat), v = .agg #[.slice Ag gs.length cg, .slice Ar rs.length cr, .slice At ts.length ct] ∧ FairAny w gs rs ts Ag Ar At cg cr ct := by
  obtain ⟨cs, rfl, hsz⟩ := okWide_struct Try.underlying38 hv
  obtain ⟨l⟩ := cs
  match l, hsz.trans cells_fw with
  | [c0, c1, c2], _ =>
    obtain ⟨fuel, hf⟩ := h
    obtain ⟨xs, m, _, _, _, hlen, hg⟩ := DataW.trod_struct Try.underlying38 hf
    have h0 := hg 0 _ rfl
    have h1 := hg 1 _ rfl
    have h2 := hg 2 _ rfl
    match xs, hlen with
    | [(y0, z0), (y1, z1), (y2, z2)], _ =>
      have h0 : DataW.trod enc Try.prog w base spare held m 34 (([c0, c1, c2].drop 0).take (Try.prog.cellsOf 34)) = some (y0, z0) := h0
      have h1 : DataW.trod enc Try.prog w base spare held m 35 (([c0, c1, c2].drop 1).take (Try.prog.cellsOf 35)) = some (y1, z1) := h1
      have h2 : DataW.trod enc Try.prog w base spare held m 36 (([c0, c1, c2].drop 2).take (Try.prog.cellsOf 36)) = some (y2, z2) := h2
      rw [cells_gss] at h0
      rw [cells_rss] at h1
      rw [cells_tss] at h2
      obtain ⟨gs, Ag, cg, e0, a1, a2, a3, a4⟩ := open_rowsQ (enc := enc) (base := base) (spare := spare) (held := held) (d := y0) (p := z0) (v := c0) (fun a => a.l.length ≤ maxLen ∧ Row 2 encP w a.A a.l) encG_len (by omega) Try.underlying34 cells_g gauge_enc ⟨_, h0⟩
      obtain ⟨rs, Ar, cr, e1, b1, b2, b3⟩ := open_rows (enc := enc) (base := base) (spare := spare) (held := held) (d := y1) (p := z1) (v := c1) encRe_len (by omega) Try.underlying35 cells_re re_enc ⟨_, h1⟩
      obtain ⟨ts, At, ct, e2, d1, d2, d3⟩ := open_rows (enc := enc) (base := base) (spare := spare) (held := held) (d := y2) (p := z2) (v := c2) encTk_len (by omega) Try.underlying36 cells_tk tk_enc ⟨_, h2⟩
      subst e0 e1 e2
      exact ⟨gs, rs, ts, Ag, Ar, At, cg, cr, ct, rfl, a1, a3, fun k hk => (a4 k hk).2, b1, b3, d3⟩
end Go.Proofs.Ytmhmfjgahhgbpaa

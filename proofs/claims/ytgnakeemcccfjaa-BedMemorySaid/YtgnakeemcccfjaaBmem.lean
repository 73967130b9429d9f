/- What BedMemory needs: the results of Latest, Shoalest, Blank and Clear, whatever their error, and rows that may be overwritten. -/
import Derived.Test.YtgnakeemcccfjaaBmepure
import Derived.Test.YtgnakeemcccfjaaBclear
namespace Go.Proofs.Ytgnakeemcccfjaa
open Go Go.RowKit Go.IntWalk

/-- A grid that a call has made, and an error. -/
def OutGA (base : Nat) (e : Ending) (w' : World) : Prop := ∃ (g : Gr) (A : Option Addr) (c : Nat) (E : Int), e = .returned (.tuple #[.agg #[.int .i64 g.X, .int .i64 g.Y, .int .i64 g.S, .int .i64 g.C, .int .i64 g.R, .slice A g.L.length c], .int .i64 E]) ∧ NewZ base w' A c g.L ∧ g.L.length ≤ 1100
theorem newZ_nil (base : Nat) (w : World) : NewZ base w none 0 ([] : List Int) := ⟨Nat.le_refl _, by unfold maxLen; omega, .inl ⟨rfl, rfl, rfl⟩⟩
theorem OutGE.any {base : Nat} {g : Gr} {e : Ending} {w' : World} (h : OutGE base g e w') (hl : g.L.length ≤ 1100) : OutGA base e w' := by
  obtain ⟨A, c, he, hN⟩ := h
  exact ⟨g, A, c, 0, he, hN, hl⟩
theorem reL_len (g : Gr) (f : Nat → Int) : (reL g f).L.length = g.L.length := mkL_len _ _
theorem latest_any_c (g h : Gr) (w : World) (A B : Option Addr) (c d : Nat) (hl : g.L.length ≤ 1100) (hm : h.L.length ≤ 1100) (hA : Row 1 encZ w A g.L) (hB : Row 1 encZ w B h.L) :
    Calls Try.prog 36 #[.agg #[.int .i64 g.X, .int .i64 g.Y, .int .i64 g.S, .int .i64 g.C, .int .i64 g.R, .slice A g.L.length c], .agg #[.int .i64 h.X, .int .i64 h.Y, .int .i64 h.S, .int .i64 h.C, .int .i64 h.R, .slice B h.L.length d]] w fun e w' => OutGA w.heap.size e w' ∧ Ext w w' := by
  by_cases h0 : twoE g h = 0
  · exact (latest_ok_c g h w A B c d hA hB h0).mono fun e w' k => ⟨k.1.any (by rw [reL_len]; exact hl), k.2⟩
  · exact (latest_err_c g h w A B c d (by unfold maxLen; omega) (by unfold maxLen; omega) hA hB h0).mono fun e w' k => ⟨⟨grZ, none, 0, _, k.1, newZ_nil _ _, by decide⟩, k.2⟩
theorem shoalest_any_c (g h : Gr) (w : World) (A B : Option Addr) (c d : Nat) (hl : g.L.length ≤ 1100) (hm : h.L.length ≤ 1100) (hA : Row 1 encZ w A g.L) (hB : Row 1 encZ w B h.L) :
    Calls Try.prog 37 #[.agg #[.int .i64 g.X, .int .i64 g.Y, .int .i64 g.S, .int .i64 g.C, .int .i64 g.R, .slice A g.L.length c], .agg #[.int .i64 h.X, .int .i64 h.Y, .int .i64 h.S, .int .i64 h.C, .int .i64 h.R, .slice B h.L.length d]] w fun e w' => OutGA w.heap.size e w' ∧ Ext w w' := by
  by_cases h0 : twoE g h = 0
  · exact (shoalest_ok_c g h w A B c d hA hB h0).mono fun e w' k => ⟨k.1.any (by rw [reL_len]; exact hl), k.2⟩
  · exact (shoalest_err_c g h w A B c d (by unfold maxLen; omega) (by unfold maxLen; omega) hA hB h0).mono fun e w' k => ⟨⟨grZ, none, 0, _, k.1, newZ_nil _ _, by decide⟩, k.2⟩
theorem blank_any_c (g : Gr) (w : World) (A : Option Addr) (c : Nat) (hl : g.L.length ≤ 1100) (hA : Row 1 encZ w A g.L) :
    Calls Try.prog 18 #[.agg #[.int .i64 g.X, .int .i64 g.Y, .int .i64 g.S, .int .i64 g.C, .int .i64 g.R, .slice A g.L.length c]] w fun e w' => OutGA w.heap.size e w' ∧ Ext w w' := by
  by_cases h0 : chkG g = 0
  · exact (blank_ok_c g w A c hA h0).mono fun e w' k => ⟨k.1.any (by rw [reL_len]; exact hl), k.2⟩
  · exact (blank_err_c g w A c (by unfold maxLen; omega) hA h0).mono fun e w' k => ⟨⟨grZ, none, 0, _, k.1, newZ_nil _ _, by decide⟩, k.2⟩
/-- A route that a call has made, and an error. -/
def OutCA (base : Nat) (e : Ending) (w' : World) : Prop :=
  ∃ (lev : Int) (P Q : List Int) (Ap Aq : Option Addr) (cp cq : Nat) (E : Int), e = .returned (.tuple #[.agg #[.int .i64 lev, .slice Ap P.length cp, .slice Aq Q.length cq], .int .i64 E]) ∧ NewZ base w' Ap cp P ∧ NewZ base w' Aq cq Q ∧ P.length ≤ 50000 ∧ Q.length ≤ 50000
theorem clear_any_c (g : Gr) (w : World) (A B : Option Addr) (c cB : Nat) (hl : g.L.length ≤ 1100) (hA : Row 1 encZ w A g.L) (hB : Row 1 encZ w B [0, 1]) :
    Calls Try.prog 56 #[.agg #[.int .i64 g.X, .int .i64 g.Y, .int .i64 g.S, .int .i64 g.C, .int .i64 g.R, .slice A g.L.length c], .slice B 2 cB, .slice B 2 cB] w fun e w' => OutCA w.heap.size e w' ∧ Ext w w' := by
  by_cases h0 : endsE g [0, 1] [0, 1] = 0
  · obtain ⟨cn, rn, F, T, E, hF, hT, v, _, _⟩ := ends_ok h0 (by decide) (by decide)
    have hFl : F.length = 2 := by have := congrArg List.length hF; rw [zl_len] at this; exact this.symm
    have hTl : T.length = 2 := by have := congrArg List.length hT; rw [zl_len] at this; exact this.symm
    rw [hF] at h0 hB
    have h0' : endsE g (zl F) (zl T) = 0 := by rw [← hT, hF]; exact h0
    have hB' : Row 1 encZ w B (zl T) := by rw [← hT, hF]; exact hB
    have h9 := clear_ok_c E w A B B c cB cB hA hB hB' h0'
    rw [hFl, hTl] at h9
    refine h9.mono fun e w' k => ⟨?_, k.2⟩
    rcases k.1 with ⟨he, _⟩ | ⟨lev, p, Ap, cp, Ab, cb, he, _, _, hpl, _, hNp, hNb⟩
    · exact ⟨0, [], [], none, none, 0, 0, 11, he, newZ_nil _ _, newZ_nil _ _, by decide, by decide⟩
    · refine ⟨lev, zl p, zl (chs (nbP g lev) g.L.length), Ap, Ab, cp, cb, 0, ?_, hNp, hNb, ?_, ?_⟩
      · rw [he, zl_len, zl_len]
      · have := E.n1; rw [zl_len]; omega
      · have h1 : (chs (nbP g lev) g.L.length).length ≤ g.L.length := by unfold chs; simpa using List.length_filter_le (nbP g lev) (List.range g.L.length)
        rw [zl_len]; omega
  · exact (clear_err_c g [0, 1] [0, 1] w A B B c cB cB (by omega) (by decide) (by decide) hA hB hB h0).mono fun e w' k => ⟨⟨0, [], [], none, none, 0, 0, _, k.1, newZ_nil _ _, newZ_nil _ _, by decide, by decide⟩, k.2⟩
/-- A row of numbers that may be overwritten: it lies at base or behind, and is neither the block be nor br. -/
def WrZ (base be br : Nat) (w : World) (A : Option Addr) (n : Nat) : Prop :=
  n = 0 ∨ ∃ q m f, A = some ⟨q, 0, none⟩ ∧ base ≤ q ∧ q ≠ be ∧ q ≠ br ∧ w.rowIs q 3 m f ∧ n ≤ m
theorem WrZ.of {base base' be br : Nat} {w : World} {A : Option Addr} {c : Nat} {l : List Int} (h : NewZ base' w A c l) (hb : base ≤ base') (hne : ∀ q, base' ≤ q → q < w.heap.size → q ≠ be ∧ q ≠ br) : WrZ base be br w A l.length := by
  rcases h.2.2 with ⟨h1, _⟩ | ⟨q, h1, h2, h3⟩
  · left; rw [h1]; rfl
  · have hlt := h3.lt
    obtain ⟨cur, k1, k2, k3, _⟩ := h3
    obtain ⟨n1, n2⟩ := hne q h2 hlt
    exact .inr ⟨q, c, fun i => cur.toList.getD i (.bool false), h1, by omega, n1, n2, ⟨cur, k1, by omega, fun i hi => by simp [List.getD_eq_getElem?_getD, show i < cur.size by omega]⟩, k3⟩
theorem WrZ.ext {base be br : Nat} {w w' : World} {A : Option Addr} {n : Nat} (h : WrZ base be br w A n) (hw : Ext w w') : WrZ base be br w' A n := by
  rcases h with h | ⟨q, m, f, h1, h2, h3, h4, h5, h6⟩
  · exact .inl h
  · exact .inr ⟨q, m, f, h1, h2, h3, h4, h5.of_block (hw.block q h5.lt), h6⟩
theorem WrZ.st {base be br : Nat} {w : World} {A : Option Addr} {n : Nat} (h : WrZ base be br w A n) (q i : Nat) (v : Value) : WrZ base be br (w.setCell ⟨q, i, none⟩ v) A n := by
  rcases h with h | ⟨p, m, f, h1, h2, h3, h4, h5, h6⟩
  · exact .inl h
  · by_cases hpq : p = q
    · subst hpq
      exact .inr ⟨p, m, _, h1, h2, h3, h4, h5.set i v, h6⟩
    · exact .inr ⟨p, m, _, h1, h2, h3, h4, h5.setOther (by simpa using hpq) v, h6⟩
theorem WrZ.ne0 {base be br : Nat} {w : World} {A : Option Addr} {n : Nat} (h : WrZ base be br w A n) {j : Nat} (hj : j < n) :
    ∃ q v, A = some ⟨q, 0, none⟩ ∧ base ≤ q ∧ q ≠ be ∧ q ≠ br ∧ q < w.heap.size ∧ w.cell? ⟨q, j, none⟩ = some v ∧ ∀ o, w.frozen? ⟨q, o, none⟩ = false := by
  rcases h with h | ⟨p, m, f, h1, h2, h3, h4, h5, h6⟩
  · omega
  · exact ⟨p, _, h1, h2, h3, h4, h5.lt, h5.cell (by omega), h5.frozen⟩
/-- The world of the loops that overwrite: the two ends in be, the route in br, five rows. -/
structure MemW (wc wr : World) (base be br : Nat) (kv : List Value) (G : Nat → Gr) (AA : Nat → Option Addr) (Ap Aq : Option Addr) (np nq : Nat) : Prop where
  ext : Ext wc wr
  ke : CellsAt wr be 0 [.int .i64 0, .int .i64 1]
  kr : CellsAt wr br 0 kv
  ze : be < wr.heap.size
  zr : br < wr.heap.size
  rows : ∀ k, k < 3 → WrZ base be br wr (AA k) (G k).L.length
  rp : WrZ base be br wr Ap np
  rq : WrZ base be br wr Aq nq
theorem MemW.next {wc wr w' : World} {base be br : Nat} {kv : List Value} {G : Nat → Gr} {AA : Nat → Option Addr} {Ap Aq : Option Addr} {np nq : Nat} (h : MemW wc wr base be br kv G AA Ap Aq np nq) (hE : Ext wr w') : MemW wc w' base be br kv G AA Ap Aq np nq :=
  ⟨h.ext.tr hE, h.ke.ext hE h.ze, h.kr.ext hE h.zr, hE.sz _ h.ze, hE.sz _ h.zr, fun k hk => (h.rows k hk).ext hE, h.rp.ext hE, h.rq.ext hE⟩
theorem MemW.put {wc wr : World} {base be br : Nat} {kv : List Value} {G : Nat → Gr} {AA : Nat → Option Addr} {Ap Aq : Option Addr} {np nq : Nat} (h : MemW wc wr base be br kv G AA Ap Aq np nq) (hb : wc.heap.size ≤ base) {q : Nat} (h1 : base ≤ q) (h2 : q ≠ be) (h3 : q ≠ br) (i : Nat) (v : Value) :
    MemW wc (wr.setCell ⟨q, i, none⟩ v) base be br kv G AA Ap Aq np nq :=
  ⟨Ext.st h.ext (by show wc.heap.size ≤ q; omega) _, h.ke.st (by simpa using h2) _, h.kr.st (by simpa using h3) _, by simpa using h.ze, by simpa using h.zr, fun k hk => (h.rows k hk).st _ _ _, h.rp.st _ _ _, h.rq.st _ _ _⟩
theorem index3l (g0 g1 g2 : Gr) (a0 a1 a2 : Option Addr) (c0 c1 c2 : Nat) (w : World) :
    (Instr.index 114 (.agg #[.int .i64 g0.X, .int .i64 g0.Y, .int .i64 g0.S, .int .i64 g0.C, .int .i64 g0.R, .slice a0 g0.L.length c0, .int .i64 g1.X, .int .i64 g1.Y, .int .i64 g1.S, .int .i64 g1.C, .int .i64 g1.R, .slice a1 g1.L.length c1, .int .i64 g2.X, .int .i64 g2.Y, .int .i64 g2.S, .int .i64 g2.C, .int .i64 g2.R, .slice a2 g2.L.length c2]) (.int .i64 0)).run Try.prog w = .ok (.agg #[.int .i64 g0.X, .int .i64 g0.Y, .int .i64 g0.S, .int .i64 g0.C, .int .i64 g0.R, .slice a0 g0.L.length c0]) w ∧
    (Instr.index 114 (.agg #[.int .i64 g0.X, .int .i64 g0.Y, .int .i64 g0.S, .int .i64 g0.C, .int .i64 g0.R, .slice a0 g0.L.length c0, .int .i64 g1.X, .int .i64 g1.Y, .int .i64 g1.S, .int .i64 g1.C, .int .i64 g1.R, .slice a1 g1.L.length c1, .int .i64 g2.X, .int .i64 g2.Y, .int .i64 g2.S, .int .i64 g2.C, .int .i64 g2.R, .slice a2 g2.L.length c2]) (.int .i64 1)).run Try.prog w = .ok (.agg #[.int .i64 g1.X, .int .i64 g1.Y, .int .i64 g1.S, .int .i64 g1.C, .int .i64 g1.R, .slice a1 g1.L.length c1]) w ∧
    (Instr.index 114 (.agg #[.int .i64 g0.X, .int .i64 g0.Y, .int .i64 g0.S, .int .i64 g0.C, .int .i64 g0.R, .slice a0 g0.L.length c0, .int .i64 g1.X, .int .i64 g1.Y, .int .i64 g1.S, .int .i64 g1.C, .int .i64 g1.R, .slice a1 g1.L.length c1, .int .i64 g2.X, .int .i64 g2.Y, .int .i64 g2.S, .int .i64 g2.C, .int .i64 g2.R, .slice a2 g2.L.length c2]) (.int .i64 2)).run Try.prog w = .ok (.agg #[.int .i64 g2.X, .int .i64 g2.Y, .int .i64 g2.S, .int .i64 g2.C, .int .i64 g2.R, .slice a2 g2.L.length c2]) w := ⟨by kernel_rfl, by kernel_rfl, by kernel_rfl⟩
theorem index3g (G : Nat → Gr) (AA : Nat → Option Addr) (cc : Nat → Nat) (k : Nat) (hk : k < 3) (w : World) :
    (Instr.index 114 (.agg #[.int .i64 (G 0).X, .int .i64 (G 0).Y, .int .i64 (G 0).S, .int .i64 (G 0).C, .int .i64 (G 0).R, .slice (AA 0) (G 0).L.length (cc 0), .int .i64 (G 1).X, .int .i64 (G 1).Y, .int .i64 (G 1).S, .int .i64 (G 1).C, .int .i64 (G 1).R, .slice (AA 1) (G 1).L.length (cc 1), .int .i64 (G 2).X, .int .i64 (G 2).Y, .int .i64 (G 2).S, .int .i64 (G 2).C, .int .i64 (G 2).R, .slice (AA 2) (G 2).L.length (cc 2)]) (.int .i64 (k : Int))).run Try.prog w = .ok (.agg #[.int .i64 (G k).X, .int .i64 (G k).Y, .int .i64 (G k).S, .int .i64 (G k).C, .int .i64 (G k).R, .slice (AA k) (G k).L.length (cc k)]) w := by
  have h := index3l (G 0) (G 1) (G 2) (AA 0) (AA 1) (AA 2) (cc 0) (cc 1) (cc 2) w
  rcases (by omega : k = 0 ∨ k = 1 ∨ k = 2) with e | e | e
  · rw [e]; exact h.1
  · rw [e]; exact h.2.1
  · rw [e]; exact h.2.2
theorem row_ends {w : World} {b : Nat} (hb : b < w.heap.size) (h0 : w.cell? ⟨b, 0, none⟩ = some (.int .i64 0)) (h1 : w.cell? ⟨b, 1, none⟩ = some (.int .i64 1)) : Row 1 encZ w (some ⟨b, 0, none⟩) [0, 1] := by
  refine .inr ⟨b, 0, rfl, hb, fun i hi j v hv => ?_⟩
  have hj : j = 0 := by
    have := (List.getElem?_eq_some_iff.1 hv).1
    simpa [encZ] using this
  subst hj
  rcases (by simp at hi; omega : i = 0 ∨ i = 1) with rfl | rfl
  · have e : v = .int .i64 0 := by simpa [encZ] using hv.symm
    rw [e]; exact h0
  · have e : v = .int .i64 1 := by simpa [encZ] using hv.symm
    rw [e]; exact h1
theorem st6_at {w : World} {b : Nat} {v0 v1 v2 v3 v4 v5 : Value} (h : CellsAt w b 0 [.int .i64 0, .int .i64 0, .int .i64 0, .int .i64 0, .int .i64 0, .slice none 0 0]) :
    CellsAt ((((((w.setCell ⟨b, 0, none⟩ v0).setCell ⟨b, 1, none⟩ v1).setCell ⟨b, 2, none⟩ v2).setCell ⟨b, 3, none⟩ v3).setCell ⟨b, 4, none⟩ v4).setCell ⟨b, 5, none⟩ v5) b 0 [v0, v1, v2, v3, v4, v5] :=
  stL_at b [v0, v1, v2, v3, v4, v5] _ 0 w h rfl
theorem st6_far {w : World} {b c : Nat} {v0 v1 v2 v3 v4 v5 : Value} {us : List Value} (hne : c ≠ b) (h : CellsAt w b 0 us) :
    CellsAt ((((((w.setCell ⟨c, 0, none⟩ v0).setCell ⟨c, 1, none⟩ v1).setCell ⟨c, 2, none⟩ v2).setCell ⟨c, 3, none⟩ v3).setCell ⟨c, 4, none⟩ v4).setCell ⟨c, 5, none⟩ v5) b 0 us :=
  (((((h.st (by simpa using hne) _).st (by simpa using hne) _).st (by simpa using hne) _).st (by simpa using hne) _).st (by simpa using hne) _).st (by simpa using hne) _
/-- What BedMemory's arguments and their copies are: the boxes of both, the copies' boxes and rows. -/
structure MB (w w' : World) (g h : Gr) (A B A2 A3 : Option Addr) (c d c2 c3 nh b5 b6 : Nat) : Prop where
  ext : Ext w w'
  kg : CellsAt w' w.heap.size 0 [.int .i64 g.X, .int .i64 g.Y, .int .i64 g.S, .int .i64 g.C, .int .i64 g.R, .slice A g.L.length c]
  kh : CellsAt w' nh 0 [.int .i64 h.X, .int .i64 h.Y, .int .i64 h.S, .int .i64 h.C, .int .i64 h.R, .slice B h.L.length d]
  k5 : CellsAt w' b5 0 [.int .i64 g.X, .int .i64 g.Y, .int .i64 g.S, .int .i64 g.C, .int .i64 g.R, .slice A2 g.L.length c2]
  k6 : CellsAt w' b6 0 [.int .i64 h.X, .int .i64 h.Y, .int .i64 h.S, .int .i64 h.C, .int .i64 h.R, .slice A3 h.L.length c3]
  zg : w.heap.size < w'.heap.size
  zh : nh < w'.heap.size
  z5 : b5 < w'.heap.size
  z6 : b6 < w'.heap.size
  r2 : Row 1 encZ w' A2 g.L
  r3 : Row 1 encZ w' A3 h.L
theorem MB.next {w w' w'' : World} {g h : Gr} {A B A2 A3 : Option Addr} {c d c2 c3 nh b5 b6 : Nat} (m : MB w w' g h A B A2 A3 c d c2 c3 nh b5 b6) (hE : Ext w' w'') : MB w w'' g h A B A2 A3 c d c2 c3 nh b5 b6 :=
  ⟨m.ext.tr hE, m.kg.ext hE m.zg, m.kh.ext hE m.zh, m.k5.ext hE m.z5, m.k6.ext hE m.z6, hE.sz _ m.zg, hE.sz _ m.zh, hE.sz _ m.z5, hE.sz _ m.z6, m.r2.ext hE, m.r3.ext hE⟩
theorem cells_two {w : World} {b : Nat} {v0 v1 : Value} (h0 : w.cell? ⟨b, 0, none⟩ = some v0) (h1 : w.cell? ⟨b, 1, none⟩ = some v1) : CellsAt w b 0 [v0, v1] := by
  intro j v hv
  match j with
  | 0 => simp at hv; subst hv; exact h0
  | 1 => simp at hv; subst hv; exact h1
  | j + 2 => simp at hv
theorem CellsAt.two {w : World} {b : Nat} {v0 v1 : Value} (h : CellsAt w b 0 [v0, v1]) : w.cell? ⟨b, 0, none⟩ = some v0 ∧ w.cell? ⟨b, 1, none⟩ = some v1 := ⟨h 0 v0 rfl, h 1 v1 rfl⟩
theorem nb6 {lo hi : Nat} {w : World} {b : Nat} {v0 v1 v2 v3 v4 v5 : Value} {A : Option Addr} {l : List Int} (h : NbZ lo hi w A l) (hb : b < lo ∨ hi ≤ b) : NbZ lo hi ((((((w.setCell ⟨b, 0, none⟩ v0).setCell ⟨b, 1, none⟩ v1).setCell ⟨b, 2, none⟩ v2).setCell ⟨b, 3, none⟩ v3).setCell ⟨b, 4, none⟩ v4).setCell ⟨b, 5, none⟩ v5) A l :=
  (((((h.st hb _).st hb _).st hb _).st hb _).st hb _).st hb _
theorem box_cells' (w : World) (l : List Value) (t : TypeId) (n : Nat) (hn : n = w.heap.size) : CellsAt (w.alloc (.cells l.toArray t)) n 0 l := by
  subst hn
  intro j v hv
  rw [Nat.zero_add, World.cell?_alloc_at _ _ _ _ rfl]
  simpa using hv
theorem CellsAt.al {w : World} {b : Nat} {us : List Value} {o : Obj} (h : CellsAt w b 0 us) (hb : b < w.heap.size) : CellsAt (w.alloc o) b 0 us := h.ext (Ext.al (Ext.rfl' w) o) hb
theorem CellsAt.dr {w : World} {b : Nat} {us : List Value} (h : CellsAt w b 0 us) (hb : b < w.heap.size) : CellsAt w.drew b 0 us := h.ext (Ext.dr (Ext.rfl' w)) hb
theorem NbZ.like {lo hi : Nat} {w0 w : World} {A : Option Addr} {l : List Int} (_ : NbZ lo hi w0 A l) (h : NbZ lo hi w A l) : Row 1 encZ w A l := h.row
theorem NbZ.al {lo hi : Nat} {w : World} {A : Option Addr} {l : List Int} {o : Obj} (h : NbZ lo hi w A l) : NbZ lo hi (w.alloc o) A l := h.ext (Ext.al (Ext.rfl' w) o)
theorem NbZ.dr {lo hi : Nat} {w : World} {A : Option Addr} {l : List Int} (h : NbZ lo hi w A l) : NbZ lo hi w.drew A l := h.ext (Ext.dr (Ext.rfl' w))
end Go.Proofs.Ytgnakeemcccfjaa

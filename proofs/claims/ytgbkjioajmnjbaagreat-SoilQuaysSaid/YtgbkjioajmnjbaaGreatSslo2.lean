/- The contracts of Clone of numbers, withLevels, slopesOf. The contract of slopesOf. -/
import Derived.Test.YtgbkjioajmnjbaaGreatSsoft
import Derived.Deep.RegionHeld3

namespace Go.Proofs.YtgbkjioajmnjbaaGreat
open Go Go.RowKit Go.IntWalk

/-! ### Worlds in which one old block may have been written -/
theorem tch_refl (W : World) (b : Nat) : W.grownBy W (some b) := World.grownBy.refl W _
theorem tch_ext {W w1 w2 : World} {b : Nat} (h : W.grownBy w1 (some b)) (hE : Ext w1 w2) : W.grownBy w2 (some b) :=
  ⟨hE.os.trans h.os, hE.tape.trans h.tape, hE.output.trans h.output, Nat.le_trans h.size hE.size, fun k hk hne => (hE.block k (Nat.lt_of_lt_of_le hk h.size)).trans (h.block k hk hne)⟩
theorem tch_app {W w1 w2 : World} {b base e size n : Nat} {v : Value} {xs : List Value} (h : W.grownBy w1 (some b)) (hown : w1.ownsRow base e size v n xs) (hb : W.heap.size ≤ base) (hg : w1.grownBy w2 v.ownBlock) : W.grownBy w2 (some b) :=
  ⟨hg.os.trans h.os, hg.tape.trans h.tape, hg.output.trans h.output, Nat.le_trans h.size hg.size, fun k hk hne =>
    (hg.block k (Nat.lt_of_lt_of_le hk h.size) (by intro e; have := (World.ownsRow.lt hown k e.symm).1; omega)).trans (h.block k hk hne)⟩
theorem tch_set {W w1 : World} {b : Nat} (h : W.grownBy w1 (some b)) (o : Nat) (v : Value) : W.grownBy (w1.setCell ⟨b, o, none⟩ v) (some b) := by
  have hb : Below 0 w1 (w1.setCell ⟨b, o, none⟩ v) := Below.setCell (Below.refl 0 w1) (Nat.zero_le _) v
  refine ⟨hb.os.trans h.os, hb.tape.trans h.tape, hb.output.trans h.output, Nat.le_trans h.size hb.size, fun k hk hne => ?_⟩
  · rw [Below.heap_setCell w1 ⟨b, o, none⟩ v k (by intro e; exact hne (by rw [e]))]; exact h.block k hk hne
theorem tch_row {α : Type} {k : Nat} {enc : α → List Value} {W w1 : World} {b q off : Nat} {l : List α} (h : W.grownBy w1 (some b)) (hR : Row k enc W (some ⟨q, off, none⟩) l) (hne : q ≠ b) : Row k enc w1 (some ⟨q, off, none⟩) l := by
  rcases hR with hR | ⟨b', off', h1, h2, h3⟩
  · exact .inl hR
  · injection h1 with h1
    injection h1 with e1 e2
    subst e1 e2
    refine .inr ⟨_, _, rfl, Nat.lt_of_lt_of_le h2 h.size, fun i hi j v hv => ?_⟩
    rw [grown_cellS h h2 (by intro e; injection e with e; exact hne e)]
    exact h3 i hi j v hv
theorem tch_to_ext {w W w1 : World} {b : Nat} (h : W.grownBy w1 (some b)) (h0 : Ext w W) (hb : w.heap.size ≤ b) : Ext w w1 := Below.grown h0 h h0.size (fun k hk => by injection hk with hk; omega)

set_option maxHeartbeats 2000000 in
theorem cloneZ_c (l : List Int) (w : World) (A : Option Addr) (c : Nat) (hl : l.length ≤ 100000) (hA : Row 1 encZ w A l) :
    Calls Tryz.prog 57 #[.slice A l.length c] w fun e w' => OutZ w.heap.size l e w' ∧ Ext w w' := by
  have hq := fun (w : World) (a : Option Addr) (n c n' c' : Nat) => Lib.run_eql_slice_nil (P := Tryz.prog) w _ _ a n c n' c' Tryz.underlying26
  cases A with
  | none =>
    rcases hA with rfl | ⟨b, off, h, _⟩
    · go_enter Tryz.func57, Tryz.ntmps57
      go_wp2
      go_ret
      exact ⟨⟨none, 0, rfl, Nat.le_refl _, Nat.zero_le _, .inl ⟨rfl, rfl, rfl⟩⟩, Ext.rfl' _⟩
    · cases h
  | some a =>
    obtain ⟨i0, hi, hz0, hz1, hz2⟩ := info_parts infoZ
    go_enter Tryz.func57, Tryz.ntmps57
    go_wp2_with (first | (at_builtin; refine wpList_append_in rfl _ _ 26 rfl w.heap.size 3 i0 _ 1 8 Tryz.underlying26 hi hz0 hz1 hz2 rfl (by decide) encZ encZ_len encZ_one _ 0 [] rfl (World.ownsRow_lit _ #[] 0 ?_ (by decide) rfl) l (some a) c rfl (hA.ext ?_) ?_ ?_ ?_ ?_))
    · exact Nat.le_refl _
    · exact Ext.al (Ext.rfl' _) _
    · unfold maxLen; omega
    · omega
    · simp
    clear hi hz0 hz1 hz2
    intro v' w1 h1 h2
    obtain ⟨A', c', hv, hN⟩ := NewZ.of (l := l) (by simp) (by simp) h1
    subst hv
    have hE : Ext w w1 := Below.grown (Ext.al (Ext.rfl' _) _) h2 (by simp) (by intro q hq; simp [Value.ownBlock] at hq; omega)
    have HN := Lib.hid hN
    clear h1 h2 hN
    go_wp2
    go_ret
    exact ⟨⟨A', c', rfl, HN.out⟩, hE⟩
set_option maxHeartbeats 4000000 in
theorem withLevels_c (g : Gr) (M : List Int) (w : World) (A B : Option Addr) (c d : Nat) :
    Calls Tryz.prog 21 #[.agg #[.int .i64 g.X, .int .i64 g.Y, .int .i64 g.S, .int .i64 g.C, .int .i64 g.R, .slice A g.L.length c], .slice B M.length d] w fun e w' => e = .returned (.agg #[.int .i64 g.X, .int .i64 g.Y, .int .i64 g.S, .int .i64 g.C, .int .i64 g.R, .slice B M.length d]) ∧ Ext w w' := by
  go_enter Tryz.func21, Tryz.ntmps21
  go_wp2
  refine bodyPost_ret (v := .agg #[.int .i64 g.X, .int .i64 g.Y, .int .i64 g.S, .int .i64 g.C, .int .i64 g.R, .slice B M.length d]) (by simp [results, Tryz.results21, go_sem]) rfl ⟨rfl, ?_⟩
  (repeat (first | with_reducible exact Ext.rfl' _ | with_reducible assumption | with_reducible refine Ext.al ?_ _ | with_reducible refine Ext.dr ?_ | with_reducible refine Ext.st ?_ (by simp) _ | with_reducible refine Ext.tr ?_ (by assumption)))
end Go.Proofs.YtgbkjioajmnjbaaGreat

namespace Go.Proofs.YtgbkjioajmnjbaaGreat
open Go Go.RowKit Go.IntWalk

theorem bstep_append {P : Program} {ops : Array Oper} {o : Oper} {a : Act} {w : World} {K : Act → World → Prop} {Q : Exit → Act → World → Prop} {E : Prop}
    (hg : o.guard = none) (s x : Operand) (t : TypeId) (hop : o.op = Op.call { callee := Callee.builtin Builtin.append, args := #[s, x], argTypes := #[t, t] })
    (base : Nat) (e : TypeId) (i : TypeInfo) (z : Value) (size bytes : Nat) (h1 : P.underlying t = some (.slice e)) (h2 : P.info? e = some i) (h3 : i.zero = some z) (h4 : i.size = size) (h5 : i.bytes = bytes) (h6 : z.cells.size = size) (h7 : 0 < size)
    (v : Value) (n : Nat) (xs : List Value) (hs : a.eval s = v) (hown : w.ownsRow base e size v n xs)
    (ad : Addr) (m c : Nat) (news : List Value) (hx : a.eval x = .slice (some ad) m c) (hn : news.length = m * size) (hc : ∀ j u, news[j]? = some u → w.cell? (ad.add j) = some u) (h1c : ∀ u ∈ news, u.oneCell' = true)
    (b1 : n + m ≤ maxLen) (b2 : (n + m) * bytes ≤ 140737488355328) (b3 : base ≤ w.heap.size)
    (hK : ∀ v' w', w'.ownsRow base e size v' (n + m) (xs ++ news) → w.grownBy w' v.ownBlock → K (a.put o.dst v') w') :
    if Region.wanted o (yielded ops a.tmps) = true then Oper.wp P o a w K Q else E := by
  have hw : Region.wanted o (yielded ops a.tmps) = true := by simp [Region.wanted, hg]
  rw [if_pos hw]
  obtain ⟨v', w', hrun, r1, r2, _⟩ := run_append_own (P := P) w base t o.type e i z size bytes h1 h2 h3 h4 h5 h6 h7 v n xs hown ad m c news hn hc h1c b1 b2 b3
  unfold Oper.wp
  simp [execOp, hop, resolve, invoke, builtin, hs, hx, hrun, Result.andThen]
  exact hK v' w' r1 r2
def mkI (F : Nat → Int) (n : Nat) : List Int := (List.range n).map F
theorem mkI_len (F : Nat → Int) (n : Nat) : (mkI F n).length = n := by simp [mkI]
theorem mkI_gi (F : Nat → Int) (n k : Nat) (h : k < n) : gi (mkI F n) k = F k := by rw [gi_lt _ _ (by rw [mkI_len]; exact h)]; simp [mkI]
theorem mkI_flat (F : Nat → Int) (n : Nat) : (mkI F (n + 1)).flatMap encZ = (mkI F n).flatMap encZ ++ [.int .i64 (F n)] := by
  unfold mkI
  rw [List.range_succ, List.map_append, List.flatMap_append]
  rfl
/-- The runs of the cells. -/
def rF (soils : List So) (bos : List Bo) (g : Gr) (cn i : Nat) : Int := runB soils bos (ctX g cn i) (ctY g cn i)
def rL (soils : List So) (bos : List Bo) (g : Gr) (cn : Nat) : List Int := mkI (rF soils bos g cn) g.L.length
def OutSl (base : Nat) (g : Gr) (A : Option Addr) (c : Nat) (r : List Int) (e : Ending) (w' : World) : Prop := ∃ B d, e = .returned (.agg #[.int .i64 g.X, .int .i64 g.Y, .int .i64 g.S, .int .i64 g.C, .int .i64 g.R, .slice A g.L.length c, .slice B r.length d]) ∧ NewZ base w' B d r
theorem grown_frzS {w w' : World} {row : Option Nat} (h : w.grownBy w' row) {b : Nat} (hb : b < w.heap.size) (hne : some b ≠ row) (o : Nat) : w'.frozen? ⟨b, o, none⟩ = w.frozen? ⟨b, o, none⟩ := by
  have := h.block b hb hne
  unfold World.frozen?
  simp only [this]
/-- Two boxes are as they were. -/
def Kp (gb pb : Nat) (W w' : World) : Prop := (∀ j : Nat, w'.cell? ⟨gb, j, none⟩ = W.cell? ⟨gb, j, none⟩) ∧ (∀ j : Nat, w'.cell? ⟨pb, j, none⟩ = W.cell? ⟨pb, j, none⟩)
theorem keep3 {gb pb : Nat} {W w' : World} {ad : Addr} {v : Value} (h : Ext W w') (h1 : gb < W.heap.size) (h2 : pb < W.heap.size) (h3 : ∀ w', Ext W w' → w'.cell? ad = some v) :
    (∀ j : Nat, w'.cell? ⟨gb, j, none⟩ = W.cell? ⟨gb, j, none⟩) ∧ (∀ j : Nat, w'.cell? ⟨pb, j, none⟩ = W.cell? ⟨pb, j, none⟩) ∧ w'.cell? ad = some v := ⟨fun _ => h.ccell _ _ h1, fun _ => h.ccell _ _ h2, h3 _ h⟩
theorem Kp.of {gb pb : Nat} {W w' : World} (h : Ext W w') (h1 : gb < W.heap.size) (h2 : pb < W.heap.size) : Kp gb pb W w' := ⟨fun _ => h.ccell _ _ h1, fun _ => h.ccell _ _ h2⟩
theorem Kp.app {gb pb : Nat} {W a b : World} {row : Option Nat} (h : Kp gb pb W a) (hg : a.grownBy b row) (h1 : gb < a.heap.size) (h2 : pb < a.heap.size) (n1 : some gb ≠ row) (n2 : some pb ≠ row) : Kp gb pb W b :=
  ⟨fun j => (grown_cellS hg h1 n1 j).trans (h.1 j), fun j => (grown_cellS hg h2 n2 j).trans (h.2 j)⟩
theorem Kp.set {gb pb nb : Nat} {W a : World} (h : Kp gb pb W a) (n1 : gb ≠ nb) (n2 : pb ≠ nb) (o : Nat) (v : Value) : Kp gb pb W (a.setCell ⟨nb, o, none⟩ v) :=
  ⟨fun j => (World.cell?_setCell_other _ _ _ _ (by intro e; injection e with e; exact n1 e.symm)).trans (h.1 j), fun j => (World.cell?_setCell_other _ _ _ _ (by intro e; injection e with e; exact n2 e.symm)).trans (h.2 j)⟩
theorem cells_seven {w : World} {b : Nat} {v0 v1 v2 v3 v4 v5 v6 : Value} (h : w.cell? ⟨b, 0, none⟩ = some v0 ∧ w.cell? ⟨b, 1, none⟩ = some v1 ∧ w.cell? ⟨b, 2, none⟩ = some v2 ∧ w.cell? ⟨b, 3, none⟩ = some v3 ∧ w.cell? ⟨b, 4, none⟩ = some v4 ∧ w.cell? ⟨b, 5, none⟩ = some v5 ∧ w.cell? ⟨b, 6, none⟩ = some v6) : CellsAt w b 0 [v0, v1, v2, v3, v4, v5, v6] := by
  obtain ⟨h0, h1, h2, h3, h4, h5, h6⟩ := h
  intro j v hj
  match j with
  | 0 => simp at hj; subst hj; simpa using h0
  | 1 => simp at hj; subst hj; simpa using h1
  | 2 => simp at hj; subst hj; simpa using h2
  | 3 => simp at hj; subst hj; simpa using h3
  | 4 => simp at hj; subst hj; simpa using h4
  | 5 => simp at hj; subst hj; simpa using h5
  | 6 => simp at hj; subst hj; simpa using h6
  | j + 7 => simp at hj
theorem CellsAt.seven {w : World} {b : Nat} {v0 v1 v2 v3 v4 v5 v6 : Value} (h : CellsAt w b 0 [v0, v1, v2, v3, v4, v5, v6]) :
    w.cell? ⟨b, 0, none⟩ = some v0 ∧ w.cell? ⟨b, 1, none⟩ = some v1 ∧ w.cell? ⟨b, 2, none⟩ = some v2 ∧ w.cell? ⟨b, 3, none⟩ = some v3 ∧ w.cell? ⟨b, 4, none⟩ = some v4 ∧ w.cell? ⟨b, 5, none⟩ = some v5 ∧ w.cell? ⟨b, 6, none⟩ = some v6 := by
  refine ⟨?_, ?_, ?_, ?_, ?_, ?_, ?_⟩
  · simpa using h 0 _ rfl
  · simpa using h 1 _ rfl
  · simpa using h 2 _ rfl
  · simpa using h 3 _ rfl
  · simpa using h 4 _ rfl
  · simpa using h 5 _ rfl
  · simpa using h 6 _ rfl

theorem ct_in {g : Gr} (vg : VG g) {cn i : Nat} (hC : g.C = cn) (hi : i < g.L.length) : plB (ctX g cn i) (ctY g cn i) = true := by
  obtain ⟨cn', rn, e1, e2, e3, e4, e5, e6, e7, e8⟩ := vg.nat
  have hcc : cn' = cn := by omega
  subst hcc
  have hx := vg.hx
  have hy := vg.hy
  have hs := vg.hs
  have hxe := vg.hxe
  have hye := vg.hye
  have q1 : i / cn' < rn := by rw [Nat.div_lt_iff_lt_mul e3, Nat.mul_comm]; omega
  have q2 := Nat.mod_lt i e3
  rw [e1] at hxe
  rw [e2] at hye
  unfold plB withinB ctX ctY
  generalize i % cn' = md at *
  generalize i / cn' = dv at *
  have m1 : ((md : Int) + 1) * g.S ≤ (cn' : Int) * g.S := Int.mul_le_mul_of_nonneg_right (by omega) (by omega)
  have m2 : ((dv : Int) + 1) * g.S ≤ (rn : Int) * g.S := Int.mul_le_mul_of_nonneg_right (by omega) (by omega)
  have m3 : 0 ≤ (md : Int) * g.S := Int.mul_nonneg (by omega) (by omega)
  have m4 : 0 ≤ (dv : Int) * g.S := Int.mul_nonneg (by omega) (by omega)
  rw [Int.add_mul] at m1 m2
  simp only [Bool.and_eq_true, decide_eq_true_eq]
  omega
theorem CellsAt.grown {w w' : World} {b o : Nat} {vs : List Value} {row : Option Nat} (h : CellsAt w b o vs) (hg : w.grownBy w' row) (hb : b < w.heap.size) (hne : some b ≠ row) : CellsAt w' b o vs := fun j u hj => by
  rw [grown_cellS hg hb hne]
  exact h j u hj
theorem CellsAt.set7 {w : World} {b : Nat} {v0 v1 v2 v3 v4 v5 v6 : Value} (h : CellsAt w b 0 [v0, v1, v2, v3, v4, v5, v6]) (v : Value) : CellsAt (w.setCell ⟨b, 6, none⟩ v) b 0 [v0, v1, v2, v3, v4, v5, v] := by
  obtain ⟨h0, h1, h2, h3, h4, h5, h6⟩ := h.seven
  refine cells_seven ⟨?_, ?_, ?_, ?_, ?_, ?_, ?_⟩
  · rw [World.cell?_setCell_other _ _ _ _ (by intro e; injection e with _ e; omega)]; exact h0
  · rw [World.cell?_setCell_other _ _ _ _ (by intro e; injection e with _ e; omega)]; exact h1
  · rw [World.cell?_setCell_other _ _ _ _ (by intro e; injection e with _ e; omega)]; exact h2
  · rw [World.cell?_setCell_other _ _ _ _ (by intro e; injection e with _ e; omega)]; exact h3
  · rw [World.cell?_setCell_other _ _ _ _ (by intro e; injection e with _ e; omega)]; exact h4
  · rw [World.cell?_setCell_other _ _ _ _ (by intro e; injection e with _ e; omega)]; exact h5
  · exact World.cell?_setCell_same w ⟨b, 6, none⟩ v h6
set_option maxHeartbeats 16000000 in
set_option maxRecDepth 100000 in
theorem slopesOf_c (soils : List So) (bos : List Bo) (g : Gr) (cn : Nat) (w : World) (AS AB A : Option Addr) (cS cB c : Nat) (gw : GrW w soils AS bos AB) (v : VGd soils bos) (h0 : chkG g = 0) (hC : g.C = cn) (hA : Row 1 encZ w A g.L) :
    Calls Tryz.prog 56 #[.agg #[.slice AS soils.length cS, .slice AB bos.length cB], .agg #[.int .i64 g.X, .int .i64 g.Y, .int .i64 g.S, .int .i64 g.C, .int .i64 g.R, .slice A g.L.length c]] w fun e w' => OutSl w.heap.size g A c (rL soils bos g cn) e w' ∧ Ext w w' := by
  have HSO := Lib.hid (fun k (hk : k < bos.length) w' (hw : Ext w w') => softest_c soils (el bos k).l w' AS (el bos k).A cS (el bos k).c gw.ls ((gw.la k hk).2.1) (gw.so.ext hw) ((gw.la k hk).1.ext hw))
  have HCE := Lib.hid (fun w' (hw : Ext w w') => centres_c g cn w' A c h0 hC (hA.ext hw))
  have vg := chkG_ok h0
  obtain ⟨cn', rn, e1, e2, e3, e4, e5, e6, e7, e8⟩ := vg.nat
  have hn : g.L.length ≤ 1024 := by omega
  have hpl : ∀ i, i < g.L.length → plB (ctX g cn i) (ctY g cn i) = true := by
    exact fun i hi => ct_in vg hC hi
  have HNE := Lib.hid (fun i (hi : i < g.L.length) w' (hw : Ext w w') => nearest_c soils bos (ctX g cn i) (ctY g cn i) w' AS AB cS cB (gw.ext hw) v (hpl i hi))
  have HNB := Lib.hid (fun x y => nearB_lt v x y)
  have hbl : bos.length ≤ 1000 := gw.lb
  have hBO := Lib.hid gw.bo
  obtain ⟨F, hF⟩ : ∃ F : Nat → Int, F = fun k => softN soils (el bos k).l soils.length := ⟨_, rfl⟩
  have HF := Lib.hid (fun k => congrFun hF k)
  have HRF : Hid (∀ i, rF soils bos g cn i = F (nearB bos (ctX g cn i) (ctY g cn i))) := Lib.hid (fun i => by rw [hF]; rfl)
  unfold rL
  generalize rF soils bos g cn = R at *
  obtain ⟨i0, hi, hzi0, hzi1, hzi2⟩ := info_parts infoZ
  have HI := Lib.hid (And.intro hi (And.intro hzi0 (And.intro hzi1 hzi2)))
  clear hi hzi0 hzi1 hzi2 hF v gw hA hpl h0 vg e1 e2 e3 e4 e5 e6 e7 e8 hC
  go_enter Tryz.func56, Tryz.ntmps56
  go_upto_region 2 with fail
  refine wp_name (fun W hW => ?_)
  have hEW : Ext w W := by rw [hW]; (repeat (first | with_reducible exact Ext.rfl' _ | with_reducible assumption | with_reducible refine Ext.al ?_ _ | with_reducible refine Ext.dr ?_ | with_reducible refine Ext.st ?_ (by simp) _ | with_reducible refine Ext.tr ?_ (by assumption)))
  have a0 : W.cell? ⟨w.heap.size, 0, none⟩ = some (.slice AS soils.length cS) := by rw [hW]; simp [go_sem]
  have a1 : W.cell? ⟨w.heap.size, 1, none⟩ = some (.slice AB bos.length cB) := by rw [hW]; simp [go_sem]
  have km : CellsAt W (w.heap.size + 1) 0 [.int .i64 g.X, .int .i64 g.Y, .int .i64 g.S, .int .i64 g.C, .int .i64 g.R, .slice A g.L.length c] := by rw [hW]; refine cells_six ⟨?_, ?_, ?_, ?_, ?_, ?_⟩ <;> simp [go_sem]
  have kz : CellsAt W (w.heap.size + 1 + 1) 0 [.int .i64 0, .int .i64 0, .int .i64 0, .int .i64 0, .int .i64 0, .slice none 0 0, .slice none 0 0] := by rw [hW]; refine cells_seven ⟨?_, ?_, ?_, ?_, ?_, ?_, ?_⟩ <;> simp [go_sem]
  have fz : ∀ o, W.frozen? ⟨w.heap.size + 1 + 1, o, none⟩ = false := by intro o; rw [hW]; simp [go_sem]
  have z2 : w.heap.size + 1 + 1 < W.heap.size := by rw [hW]; simp
  have z1 : w.heap.size + 1 < W.heap.size := by omega
  have z0 : w.heap.size < W.heap.size := by omega
  clear hW
  go_wp2
  go_loopw [5, 14] (fun s i wr => Ext W wr ∧ ∃ k : Nat, k ≤ bos.length ∧ i = .int .i64 k ∧ Hid (wr.ownsRow W.heap.size 3 1 s k ((mkI F k).flatMap encZ))) (fun _ i _ => bos.length - (intOf i).toNat)
  case atStart => exact ⟨Ext.rfl' _, 0, Nat.zero_le _, rfl, Lib.hid (World.ownsRow_nil _ _ _ _)⟩
  case round =>
    obtain ⟨hE, k, hk, rfl, hO⟩ := hrel
    have hEr := hEW.tr hE
    have b0 := (hE.ccell _ 0 z0).trans a0
    have b1 := (hE.ccell _ 1 z0).trans a1
    have y0 := hE.sz _ z0
    by_cases hlt : k < bos.length
    · obtain ⟨b, off, rfl, hb0, hcell⟩ := hBO.out.bo hlt
      obtain ⟨c0, c1, c2, c3⟩ := hcell _ hEr
      have hzb := hEr.sz _ hb0
      have HK := Lib.hid (fun w' (hw : Ext wr w') => HSO.out k hlt w' (hEr.tr hw))
      have HFk := Lib.hid (HF.out k)
      obtain ⟨hi, hzi0, hzi1, hzi2⟩ := HI.out
      clear hcell a0 a1
      rw [← HFk.out] at HK
      generalize el bos k = u at *
      have HEr := hE.size
      go_wp2_with (first | (go_at_call 79; with_reducible refine Calls.mono (HK.out _ (by (repeat (first | with_reducible exact Ext.rfl' _ | with_reducible assumption | with_reducible refine Ext.al ?_ _ | with_reducible refine Ext.dr ?_ | with_reducible refine Ext.st ?_ (by simp) _ | with_reducible refine Ext.tr ?_ (by assumption))))) ?_; rintro e w3 ⟨rfl, hb⟩; have hc := hb.ccell; have hf := hb.frz; have hs := hb.sz; (try simp at hs); (try have t0 := hs (w.heap.size) (by first | assumption | omega)); (try have t1 := hs (w.heap.size) (by first | assumption | omega)); (try have t2 := hs (w.heap.size) (by first | assumption | omega)); (try have t3 := hs (w.heap.size) (by first | assumption | omega)); (try have t4 := hs (w.heap.size) (by first | assumption | omega)); (try have t5 := hs (w.heap.size) (by first | assumption | omega))) | (at_builtin; refine wpList_append_own _ rfl _ _ 26 rfl W.heap.size 3 i0 _ 1 8 Tryz.underlying26 hi hzi0 hzi1 hzi2 rfl (by decide) _ _ _ rfl (World.ownsRow.alloc (ownsRow_ext hO.out (show Ext wr w3 by (repeat (first | with_reducible exact Ext.rfl' _ | with_reducible assumption | with_reducible refine Ext.al ?_ _ | with_reducible refine Ext.dr ?_ | with_reducible refine Ext.st ?_ (by simp) _ | with_reducible refine Ext.tr ?_ (by assumption))))) _) ⟨_, 0, none⟩ 1 1 [.int .i64 (F k)] rfl rfl ?_ ?_ ?_ ?_ ?_ ?_))
      · exact one_newZ _ _ _
      · intro u hu; simp at hu; subst hu; rfl
      · unfold maxLen; omega
      · omega
      · have hE3 : Ext wr w3 := by (repeat (first | with_reducible exact Ext.rfl' _ | with_reducible assumption | with_reducible refine Ext.al ?_ _ | with_reducible refine Ext.dr ?_ | with_reducible refine Ext.st ?_ (by simp) _ | with_reducible refine Ext.tr ?_ (by assumption)))
        have := hE3.size
        simp; omega
      intro v' w4 hown hgrow _
      have hE3 : Ext wr w3 := by (repeat (first | with_reducible exact Ext.rfl' _ | with_reducible assumption | with_reducible refine Ext.al ?_ _ | with_reducible refine Ext.dr ?_ | with_reducible refine Ext.st ?_ (by simp) _ | with_reducible refine Ext.tr ?_ (by assumption)))
      have hE4 : Ext W w4 := grown_ext (Ext.al (hE.tr hE3) _) (World.ownsRow.alloc (ownsRow_ext hO.out hE3) _) (Nat.le_refl _) hgrow
      have hown2 : Hid (w4.ownsRow W.heap.size 3 1 v' (k + 1) ((mkI F (k + 1)).flatMap encZ)) := Lib.hid (by rw [mkI_flat]; exact hown)
      clear hown hgrow hi hzi0 hzi1 hzi2
      go_wp2
      exact ⟨⟨hE4, k + 1, by omega, by go_num, hown2⟩, by simp [intOf]; omega⟩
    · have hks : k = bos.length := by omega
      subst hks
      obtain ⟨A5, c5, hv5, hN5⟩ := NewZ.of (l := mkI F bos.length) rfl (mkI_len _ _).symm hO.out
      subst hv5
      rw [mkI_len]
      have d0 := (km.ext hE z1)
      have f0 := (kz.ext hE z2)
      have fz1 : ∀ o, wr.frozen? ⟨w.heap.size + 1 + 1, o, none⟩ = false := fun o => (hE.frz _ o z2).trans (fz o)
      have y1 := hE.sz _ z1
      have y2 := hE.sz _ z2
      obtain ⟨m0, m1, m2, m3, m4, m5⟩ := d0.six
      clear a0 a1 km kz fz z0 z1 z2 hO
      go_upto_region 9 with (first | (go_at_call 43; (with_reducible refine Calls.mono (HCE.out _ (hEr.tr (by (repeat (first | with_reducible exact Ext.rfl' _ | with_reducible assumption | with_reducible refine Ext.al ?_ _ | with_reducible refine Ext.dr ?_ | with_reducible refine Ext.st ?_ (by simp) _ | with_reducible refine Ext.tr ?_ (by assumption)))))) ?_); rintro e w3 ⟨⟨q, cq, rfl, hq, hRq⟩, hb⟩; have hc := hb.ccell; have hf := hb.frz; have hs := hb.sz; (try simp at hs); (try have t0 := hs (w.heap.size) (by first | assumption | omega)); (try have t1 := hs (wr.heap.size) (by first | assumption | omega)); (try have t2 := hs (wr.heap.size) (by first | assumption | omega)); (try have t3 := hs (wr.heap.size) (by first | assumption | omega)); (try have t4 := hs (wr.heap.size) (by first | assumption | omega)); (try have t5 := hs (wr.heap.size) (by first | assumption | omega))))
      have hE3 : Ext wr w3 := by (repeat (first | with_reducible exact Ext.rfl' _ | with_reducible assumption | with_reducible refine Ext.al ?_ _ | with_reducible refine Ext.dr ?_ | with_reducible refine Ext.st ?_ (by simp) _ | with_reducible refine Ext.tr ?_ (by assumption)))
      have hEw3 := hEr.tr hE3
      have kn : CellsAt w3 wr.heap.size 0 [.int .i64 g.X, .int .i64 g.Y, .int .i64 g.S, .int .i64 g.C, .int .i64 g.R, .slice A g.L.length c, .slice none 0 0] := by refine cells_seven ⟨?_, ?_, ?_, ?_, ?_, ?_, ?_⟩ <;> simp [*, go_sem]
      have fn : ∀ o, w3.frozen? ⟨wr.heap.size, o, none⟩ = false := by intro o; rw [hf _ _ (by simp)]; simp [go_sem]
      have zn : wr.heap.size < w3.heap.size := by assumption
      have hqn : q ≠ wr.heap.size := by simp at hq; omega
      have hN3 := hN5.row.ext hE3
      have hA5 : ∀ x off, A5 = some ⟨x, off, none⟩ → x ≠ wr.heap.size := by
        intro x off hx
        rcases hN5.2.2 with ⟨_, h, _⟩ | ⟨g5, h, _, h3⟩
        · rw [h] at hx; cases hx
        · rw [h] at hx
          injection hx with hx
          injection hx with hx _
          have := h3.lt
          omega
      have b0' := (hE3.ccell _ 0 y0).trans b0
      have b1' := (hE3.ccell _ 1 y0).trans b1
      have f0' := f0.ext hE3 y2
      have fz' : ∀ o, w3.frozen? ⟨w.heap.size + 1 + 1, o, none⟩ = false := fun o => (hE3.frz _ o y2).trans (fz1 o)
      have x0 := hE3.sz _ y0
      have x2 := hE3.sz _ y2
      have ywr := hEr.size
      have hw01 : w.heap.size ≠ wr.heap.size := by omega
      have hw02 : w.heap.size + 1 + 1 ≠ wr.heap.size := by omega
      have hwn : w.heap.size ≤ wr.heap.size := by omega
      clear hc hf hs hb t0 t1 t2 t3 t4 t5 b0 b1 f0 fz1 y0 y1 y2 m0 m1 m2 m3 m4 m5 d0 hN5 hE3 hE hq hEr hEW hBO HSO HCE
      generalize wr.heap.size = nb at *
      have hO0 : Hid (w3.ownsRow w3.heap.size 3 1 (.slice none 0 0) 0 ((mkI R 0).flatMap encZ)) := Lib.hid (World.ownsRow_nil _ _ _ _)
      have hRq' : ∃ l, l = mkP (ctP g cn) g.L.length ∧ Row 2 encP w3 (some ⟨q, 0, none⟩) l := ⟨_, rfl, hRq⟩
      obtain ⟨lp, hlp, hRp⟩ := hRq'
      have HLP := Lib.hid hlp
      have hlpl : lp.length = g.L.length := by rw [hlp, mkP_len]
      have HLL := Lib.hid hlpl
      rw [mkP_len]
      clear hlp hRq hlpl
      go_wp2
      go_loopw [32] (fun i wr' => w3.grownBy wr' (some nb) ∧ ∃ (k : Nat) (u : Value), k ≤ g.L.length ∧ i = .int .i64 k ∧ CellsAt wr' nb 0 [.int .i64 g.X, .int .i64 g.Y, .int .i64 g.S, .int .i64 g.C, .int .i64 g.R, .slice A g.L.length c, u] ∧ (∀ o, wr'.frozen? ⟨nb, o, none⟩ = false) ∧ Hid (wr'.ownsRow w3.heap.size 3 1 u k ((mkI R k).flatMap encZ))) (fun i _ => g.L.length - (intOf i).toNat)
      case atStart => exact ⟨tch_refl _ _, 0, _, Nat.zero_le _, rfl, kn, fn, hO0⟩
      case round =>
        clear kn fn hO0
        obtain ⟨hT, k, u, hk, rfl, kn, fn, hO⟩ := hrel
        obtain ⟨n0, n1, n2, n3, n4, n5, n6⟩ := kn.seven
        have g0 := (grown_cellS hT x0 (by intro e; injection e with e; exact hw01 e) 0).trans b0'
        have g1 := (grown_cellS hT x0 (by intro e; injection e with e; exact hw01 e) 1).trans b1'
        have hsz := hT.size
        have zgr : w.heap.size < wr.heap.size := by omega
        have znr : nb < wr.heap.size := by omega
        have hEw' : Ext w wr := tch_to_ext hT hEw3 hwn
        by_cases hlt : k < g.L.length
        · obtain ⟨qq, off, hqq, hb0, hcell⟩ := (tch_row hT hRp hqn).p2 (k := k) (by rw [HLL.out]; exact hlt)
          injection hqq with hqq
          injection hqq with hq1 hq2
          subst hq1 hq2
          obtain ⟨px, py⟩ := hcell _ (Ext.rfl' _)
          have hpk : lp[k]'(by rw [HLL.out]; exact hlt) = ⟨ctX g cn k, ctY g cn k⟩ := by simp only [HLP.out]; rw [mkP_get]; rfl
          rw [hpk] at px py
          simp only [Nat.zero_add] at px py
          clear hcell hpk
          go_upto_region 11 with fail
          refine wp_name (fun W hW => ?_)
          have hEW : Ext wr W := by rw [hW]; (repeat (first | with_reducible exact Ext.rfl' _ | with_reducible assumption | with_reducible refine Ext.al ?_ _ | with_reducible refine Ext.dr ?_ | with_reducible refine Ext.st ?_ (by simp) _ | with_reducible refine Ext.tr ?_ (by assumption)))
          have p0 : W.cell? ⟨wr.heap.size, 0, none⟩ = some (.int .i64 (ctX g cn k)) := by rw [hW]; simp [go_sem]
          have p1 : W.cell? ⟨wr.heap.size, 1, none⟩ = some (.int .i64 (ctY g cn k)) := by rw [hW]; simp [go_sem]
          have zp : wr.heap.size < W.heap.size := by rw [hW]; simp
          clear hW px py hb0
          have g0 := (hEW.ccell _ 0 zgr).trans g0
          have g1 := (hEW.ccell _ 1 zgr).trans g1
          have n6 := (hEW.ccell _ 6 znr).trans n6
          have fn6 := (hEW.frz _ 6 znr).trans (fn 6)
          have zgW := hEW.sz _ zgr
          have znW := hEW.sz _ znr
          have hOW := Lib.hid (ownsRow_ext hO.out hEW)
          have HK := Lib.hid (fun w' (hw : Ext W w') => HNE.out k hlt w' ((hEw'.tr hEW).tr hw))
          have HRk : Hid (R k = F (nearB bos (ctX g cn k) (ctY g cn k))) := Lib.hid (HRF.out k)
          have hm := HNB.out (ctX g cn k) (ctY g cn k)
          generalize nearB bos (ctX g cn k) (ctY g cn k) = m at *
          obtain ⟨b5, off5, hA5e, _, _⟩ := hN3.p1 (k := m) (by rw [mkI_len]; exact hm)
          have hb5n := hA5 _ _ hA5e
          subst hA5e
          obtain ⟨b5', off5', h5e, hb5, hc5⟩ := (tch_row hT hN3 hb5n).p1 (k := m) (by rw [mkI_len]; exact hm)
          injection h5e with h5e
          injection h5e with h51 h52
          subst h51 h52
          have hc5W : Hid (∀ w', Ext W w' → w'.cell? ⟨b5, off5 + m, none⟩ = some (.int .i64 (R k))) := Lib.hid (fun w' hw => by
            have := hc5 w' (hEW.tr hw)
            rw [← gi_lt, mkI_gi F _ _ hm, ← HRk.out] at this
            exact this)
          have hb5W := hEW.sz _ hb5
          have hm0 : (0 : Int) ≤ m := by omega
          have hmb : (m : Int) < bos.length := by omega
          have hng : w.heap.size ≠ wr.heap.size := by omega
          have hnp : wr.heap.size ≠ nb := by omega
          clear hc5 hN3
          have knW := kn.ext hEW znr
          have fnW : ∀ o, W.frozen? ⟨nb, o, none⟩ = false := fun o => (hEW.frz _ o znr).trans (fn o)
          have HOB := Lib.hid (fun q hq => World.ownsRow.lt hO.out q hq)
          generalize wr.heap.size = pb at *
          obtain ⟨hi, hzi0, hzi1, hzi2⟩ := HI.out
          refine wp_region_held_drew (S := (fun w' => (∀ j : Nat, w'.cell? ⟨w.heap.size, j, none⟩ = W.cell? ⟨w.heap.size, j, none⟩) ∧ (∀ j : Nat, w'.cell? ⟨pb, j, none⟩ = W.cell? ⟨pb, j, none⟩) ∧ w'.cell? ⟨b5, off5 + m, none⟩ = some (.int .i64 (R k)))) (by kernel_rfl) ?_ (fun hHeld => ?_)
          · (try dsimp only); (refine keep3 ?_ zgW zp hc5W.out; (repeat (first | with_reducible exact Ext.rfl' _ | with_reducible assumption | with_reducible refine Ext.al ?_ _ | with_reducible refine Ext.dr ?_ | with_reducible refine Ext.st ?_ (by first | (simp; done) | ((try have s2 := Below.size hb2); (try have s3 := Below.size hb3); (try have s4 := Below.size hb4); (try simp at s2); (try simp at s3); (try simp at s4); (try simp); omega)) _ | with_reducible refine Ext.tr ?_ (by with_reducible assumption))))
          refine wpAnyH_take (i := 0) (v := _) rfl (by kernel_rfl) (by kernel_rfl) (by kernel_rfl) (fun _ _ _ h => h) (Or.inl ⟨by kernel_rfl, by intro w hSw; (try dsimp only at hSw); go_simp; (try with_reducible rfl)⟩) (by assumption) ?_
          (try simp only [Act.put, List.getElem_toArray, List.getElem_cons_zero, List.getElem_cons_succ, List.setIfInBounds_toArray, List.set_cons_zero, List.set_cons_succ])
          refine wpAnyH_take (i := 2) (v := _) rfl (by kernel_rfl) (by kernel_rfl) (by kernel_rfl) (fun _ _ _ h => h) (Or.inl ⟨by kernel_rfl, by intro w hSw; (try dsimp only at hSw); go_simp; (try with_reducible rfl)⟩) (by assumption) ?_
          (try simp only [Act.put, List.getElem_toArray, List.getElem_cons_zero, List.getElem_cons_succ, List.setIfInBounds_toArray, List.set_cons_zero, List.set_cons_succ])
          refine wpAnyH_take (i := 3) (v := _) rfl (by kernel_rfl) (by kernel_rfl) (by kernel_rfl) (fun _ _ _ h => h) (Or.inl ⟨by kernel_rfl, by intro w hSw; (try dsimp only at hSw); go_simp; (try with_reducible rfl)⟩) (by assumption) ?_
          (try simp only [Act.put, List.getElem_toArray, List.getElem_cons_zero, List.getElem_cons_succ, List.setIfInBounds_toArray, List.set_cons_zero, List.set_cons_succ])
          refine wpAnyH_take (i := 4) (v := _) rfl (by kernel_rfl) (by kernel_rfl) (by kernel_rfl) (fun _ _ _ h => h) (Or.inl ⟨by kernel_rfl, by intro w hSw; (try dsimp only at hSw); go_simp; (try with_reducible rfl)⟩) (by assumption) ?_
          (try simp only [Act.put, List.getElem_toArray, List.getElem_cons_zero, List.getElem_cons_succ, List.setIfInBounds_toArray, List.set_cons_zero, List.set_cons_succ])
          refine wpAnyH_ready (rs := [1, 5]) (by kernel_rfl) (by simp) ?_
          refine AllReadyH.cons (o := _) rfl (fun K hK => ?_) (AllReadyH.cons (o := _) rfl (fun K hK => ?_) AllReadyH.nil)
          · go_simp
            refine hK.out _ _ ?_ (fun hHeld => ?_)
            · (try dsimp only); first | exact ⟨hKa.1, hKa.2, ka3⟩ | exact ⟨(Kp.set hKa (by omega) (by omega) _ _).1, (Kp.set hKa (by omega) (by omega) _ _).2, (World.cell?_setCell_other _ _ _ _ (by intro e; injection e with e; exact hb5n e.symm)).trans ka3⟩ | (refine keep3 ?_ zgW zp hc5W.out; (repeat (first | with_reducible exact Ext.rfl' _ | with_reducible assumption | with_reducible refine Ext.al ?_ _ | with_reducible refine Ext.dr ?_ | with_reducible refine Ext.st ?_ (by first | (simp; done) | ((try have s2 := Below.size hb2); (try have s3 := Below.size hb3); (try have s4 := Below.size hb4); (try simp at s2); (try simp at s3); (try simp at s4); (try simp); omega)) _ | with_reducible refine Ext.tr ?_ (by with_reducible assumption))))
            clear hK K
            (try simp only [Act.put, List.getElem_toArray, List.getElem_cons_zero, List.getElem_cons_succ, List.setIfInBounds_toArray, List.set_cons_zero, List.set_cons_succ])
            refine wpAnyH_ready (rs := [5]) (by kernel_rfl) (by simp) ?_
            refine AllReadyH.cons (o := _) rfl (fun K hK => ?_) AllReadyH.nil
            go_simp
            (go_at_call 55; (with_reducible refine Calls.mono (HK.out _ (by (repeat (first | with_reducible exact Ext.rfl' _ | with_reducible assumption | with_reducible refine Ext.al ?_ _ | with_reducible refine Ext.dr ?_ | with_reducible refine Ext.st ?_ (by simp) _ | with_reducible refine Ext.tr ?_ (by assumption))))) ?_); rintro e w4 ⟨rfl, hb4⟩; have hc4 := hb4.ccell; have hf4 := hb4.frz; have hs4 := hb4.sz; have hx4 : Ext W w4 := (Ext.dr (Ext.rfl' W)).tr hb4; have c5 := hc5W.out w4 hx4; have z5 := hx4.sz _ hb5W; have n64 := (hx4.ccell _ 6 znW).trans n6; have zn4 := hx4.sz _ znW)
            refine hK.out _ _ ?_ (fun hHeld => ?_)
            · (try dsimp only); first | exact ⟨hKa.1, hKa.2, ka3⟩ | exact ⟨(Kp.set hKa (by omega) (by omega) _ _).1, (Kp.set hKa (by omega) (by omega) _ _).2, (World.cell?_setCell_other _ _ _ _ (by intro e; injection e with e; exact hb5n e.symm)).trans ka3⟩ | (refine keep3 ?_ zgW zp hc5W.out; (repeat (first | with_reducible exact Ext.rfl' _ | with_reducible assumption | with_reducible refine Ext.al ?_ _ | with_reducible refine Ext.dr ?_ | with_reducible refine Ext.st ?_ (by first | (simp; done) | ((try have s2 := Below.size hb2); (try have s3 := Below.size hb3); (try have s4 := Below.size hb4); (try simp at s2); (try simp at s3); (try simp at s4); (try simp); omega)) _ | with_reducible refine Ext.tr ?_ (by with_reducible assumption))))
            clear hK K
            (try simp only [Act.put, List.getElem_toArray, List.getElem_cons_zero, List.getElem_cons_succ, List.setIfInBounds_toArray, List.set_cons_zero, List.set_cons_succ])
            refine wpAnyH_take (i := 6) (v := _) rfl (by kernel_rfl) (by kernel_rfl) (by kernel_rfl) (fun _ _ _ h => h) (Or.inl ⟨by kernel_rfl, by intro w hSw; (try dsimp only at hSw); go_simp; (try with_reducible rfl)⟩) (by assumption) ?_
            (try simp only [Act.put, List.getElem_toArray, List.getElem_cons_zero, List.getElem_cons_succ, List.setIfInBounds_toArray, List.set_cons_zero, List.set_cons_succ])
            refine wpAnyH_take (i := 7) (v := _) rfl (by kernel_rfl) (by kernel_rfl) (by kernel_rfl) (fun _ _ _ h => h) (Or.inl ⟨by kernel_rfl, by intro w hSw; (try dsimp only at hSw); go_simp; (try with_reducible rfl)⟩) (by assumption) ?_
            (try simp only [Act.put, List.getElem_toArray, List.getElem_cons_zero, List.getElem_cons_succ, List.setIfInBounds_toArray, List.set_cons_zero, List.set_cons_succ])
            refine wpAnyH_ready (rs := [8]) (by kernel_rfl) (by simp) ?_
            refine AllReadyH.cons (o := _) rfl (fun K hK => ?_) AllReadyH.nil
            go_simp
            skip
            refine hK.out _ _ ?_ (fun hHeld => ?_)
            · (try dsimp only); first | exact ⟨hKa.1, hKa.2, ka3⟩ | exact ⟨(Kp.set hKa (by omega) (by omega) _ _).1, (Kp.set hKa (by omega) (by omega) _ _).2, (World.cell?_setCell_other _ _ _ _ (by intro e; injection e with e; exact hb5n e.symm)).trans ka3⟩ | (refine keep3 ?_ zgW zp hc5W.out; (repeat (first | with_reducible exact Ext.rfl' _ | with_reducible assumption | with_reducible refine Ext.al ?_ _ | with_reducible refine Ext.dr ?_ | with_reducible refine Ext.st ?_ (by first | (simp; done) | ((try have s2 := Below.size hb2); (try have s3 := Below.size hb3); (try have s4 := Below.size hb4); (try simp at s2); (try simp at s3); (try simp at s4); (try simp); omega)) _ | with_reducible refine Ext.tr ?_ (by with_reducible assumption))))
            clear hK K
            (try simp only [Act.put, List.getElem_toArray, List.getElem_cons_zero, List.getElem_cons_succ, List.setIfInBounds_toArray, List.set_cons_zero, List.set_cons_succ])
            refine wpAnyH_ready (rs := [9]) (by kernel_rfl) (by simp) ?_
            refine AllReadyH.cons (o := _) rfl (fun K hK => ?_) AllReadyH.nil
            refine bstep_append rfl (.tmp 37) (.tmp 44) 26 rfl w3.heap.size 3 i0 _ 1 8 Tryz.underlying26 hi hzi0 hzi1 hzi2 rfl (by decide) u k _ rfl (World.ownsRow.alloc (ownsRow_ext hOW.out hx4) _) ⟨_, 0, none⟩ 1 1 [.int .i64 (R k)] rfl rfl (one_newZ _ _ _) (by intro u hu; simp at hu; subst hu; rfl) (by unfold maxLen; omega) (by omega) (by have := (tch_ext (tch_ext hT hEW) hx4).size; simp; omega) ?_; intro v' w5 hown hgrow; have hT5 := tch_app (tch_ext (tch_ext (tch_ext hT hEW) hx4) (Ext.al (Ext.rfl' _) _)) (World.ownsRow.alloc (ownsRow_ext hOW.out hx4) _) (Nat.le_refl _) hgrow; have hKa : Kp w.heap.size pb W w5 := (Kp.app (Kp.of (Ext.al hx4 _) zgW zp) hgrow (by have := hx4.size; simp; omega) (by have := hx4.size; simp; omega) (by intro e; have := HOB.out _ e.symm; omega) (by intro e; have := HOB.out _ e.symm; omega)); have ka3 : w5.cell? ⟨b5, off5 + m, none⟩ = some (.int .i64 (R k)) := (grown_cellS hgrow (show b5 < _ by have := hx4.size; simp; omega) (by intro e; have := HOB.out _ e.symm; omega) _).trans (hc5W.out _ (Ext.al hx4 _)); have n65 := (grown_cellS hgrow (show nb < _ by have := hx4.size; simp; omega) (by intro e; have := HOB.out _ e.symm; omega) 6).trans (((Ext.al hx4 _).ccell _ 6 znW).trans n6); have f65 := (grown_frzS hgrow (show nb < _ by have := hx4.size; simp; omega) (by intro e; have := HOB.out _ e.symm; omega) 6).trans (((Ext.al hx4 _).frz _ 6 znW).trans fn6); have hown2 : Hid (w5.ownsRow w3.heap.size 3 1 v' (k + 1) ((mkI R (k + 1)).flatMap encZ)) := Lib.hid (by rw [mkI_flat]; exact hown); obtain ⟨A6, c6, hv6, hN6⟩ := NewZ.of (l := mkI R (k + 1)) rfl (mkI_len _ _).symm hown2.out; rw [mkI_len] at hv6; subst hv6
            refine hK.out _ _ ?_ (fun hHeld => ?_)
            · (try dsimp only); first | exact ⟨hKa.1, hKa.2, ka3⟩ | exact ⟨(Kp.set hKa (by omega) (by omega) _ _).1, (Kp.set hKa (by omega) (by omega) _ _).2, (World.cell?_setCell_other _ _ _ _ (by intro e; injection e with e; exact hb5n e.symm)).trans ka3⟩ | (refine keep3 ?_ zgW zp hc5W.out; (repeat (first | with_reducible exact Ext.rfl' _ | with_reducible assumption | with_reducible refine Ext.al ?_ _ | with_reducible refine Ext.dr ?_ | with_reducible refine Ext.st ?_ (by first | (simp; done) | ((try have s2 := Below.size hb2); (try have s3 := Below.size hb3); (try have s4 := Below.size hb4); (try simp at s2); (try simp at s3); (try simp at s4); (try simp); omega)) _ | with_reducible refine Ext.tr ?_ (by with_reducible assumption))))
            clear hK K
            (try simp only [Act.put, List.getElem_toArray, List.getElem_cons_zero, List.getElem_cons_succ, List.setIfInBounds_toArray, List.set_cons_zero, List.set_cons_succ])
            refine wpAnyH_take (i := 10) (v := _) rfl (by kernel_rfl) (by kernel_rfl) (by kernel_rfl) (fun _ _ _ h => h) (Or.inl ⟨by kernel_rfl, by intro w hSw; (try dsimp only at hSw); go_simp; (try with_reducible rfl)⟩) (by assumption) ?_
            (try simp only [Act.put, List.getElem_toArray, List.getElem_cons_zero, List.getElem_cons_succ, List.setIfInBounds_toArray, List.set_cons_zero, List.set_cons_succ])
            refine wpAnyH_ready (rs := [11]) (by kernel_rfl) (by simp) ?_
            refine AllReadyH.cons (o := _) rfl (fun K hK => ?_) AllReadyH.nil
            go_simp
            skip
            refine hK.out _ _ ?_ (fun hHeld => ?_)
            · (try dsimp only); first | exact ⟨hKa.1, hKa.2, ka3⟩ | exact ⟨(Kp.set hKa (by omega) (by omega) _ _).1, (Kp.set hKa (by omega) (by omega) _ _).2, (World.cell?_setCell_other _ _ _ _ (by intro e; injection e with e; exact hb5n e.symm)).trans ka3⟩ | (refine keep3 ?_ zgW zp hc5W.out; (repeat (first | with_reducible exact Ext.rfl' _ | with_reducible assumption | with_reducible refine Ext.al ?_ _ | with_reducible refine Ext.dr ?_ | with_reducible refine Ext.st ?_ (by first | (simp; done) | ((try have s2 := Below.size hb2); (try have s3 := Below.size hb3); (try have s4 := Below.size hb4); (try simp at s2); (try simp at s3); (try simp at s4); (try simp); omega)) _ | with_reducible refine Ext.tr ?_ (by with_reducible assumption))))
            clear hK K
            (try simp only [Act.put, List.getElem_toArray, List.getElem_cons_zero, List.getElem_cons_succ, List.setIfInBounds_toArray, List.set_cons_zero, List.set_cons_succ])
            refine wpAnyH_done (by kernel_rfl) ?_ _
            have kn5 := CellsAt.grown (knW.ext (Ext.al hx4 _) znW) hgrow (show nb < _ by have := hx4.size; simp; omega) (by intro e; have := HOB.out _ e.symm; omega)
            have fn5 : ∀ o, w5.frozen? ⟨nb, o, none⟩ = false := fun o => (grown_frzS hgrow (show nb < _ by have := hx4.size; simp; omega) (by intro e; have := HOB.out _ e.symm; omega) o).trans (((Ext.al hx4 _).frz _ o znW).trans (fnW o))
            have hfin : w3.grownBy (w5.setCell ⟨nb, 6, none⟩ (.slice A6 (k + 1) c6)) (some nb) := tch_set hT5 6 _
            have hown3 : Hid ((w5.setCell ⟨nb, 6, none⟩ (.slice A6 (k + 1) c6)).ownsRow w3.heap.size 3 1 (.slice A6 (k + 1) c6) (k + 1) ((mkI R (k + 1)).flatMap encZ)) := Lib.hid (hown2.out.kept (tch_set (tch_refl w5 nb) 6 _) (by
              rcases ho : (Value.slice A6 (k + 1) c6).ownBlock with _ | qo
              · exact .inl rfl
              · refine .inr ?_
                have := (World.ownsRow.lt hown2.out qo ho).1
                intro e; injection e with e; omega))
            have kn6 := CellsAt.set7 kn5 (.slice A6 (k + 1) c6)
            have fn7 : ∀ o, (w5.setCell ⟨nb, 6, none⟩ (.slice A6 (k + 1) c6)).frozen? ⟨nb, o, none⟩ = false := fun o => by simp [go_sem, fn5]
            clear hgrow hown2 hT5 hKa n65 f65 n64 zn4 c5 z5 hc4 hf4 hs4 hb4 hi hzi0 hzi1 hzi2
            go_wp2
            exact ⟨⟨hfin, k + 1, _, by omega, by go_num, kn6, fn7, hown3⟩, by simp [intOf]; omega⟩
          · go_simp
            (go_at_call 55; (with_reducible refine Calls.mono (HK.out _ (by (repeat (first | with_reducible exact Ext.rfl' _ | with_reducible assumption | with_reducible refine Ext.al ?_ _ | with_reducible refine Ext.dr ?_ | with_reducible refine Ext.st ?_ (by simp) _ | with_reducible refine Ext.tr ?_ (by assumption))))) ?_); rintro e w4 ⟨rfl, hb4⟩; have hc4 := hb4.ccell; have hf4 := hb4.frz; have hs4 := hb4.sz; have hx4 : Ext W w4 := (Ext.dr (Ext.rfl' W)).tr hb4; have c5 := hc5W.out w4 hx4; have z5 := hx4.sz _ hb5W; have n64 := (hx4.ccell _ 6 znW).trans n6; have zn4 := hx4.sz _ znW)
            refine hK.out _ _ ?_ (fun hHeld => ?_)
            · (try dsimp only); first | exact ⟨hKa.1, hKa.2, ka3⟩ | exact ⟨(Kp.set hKa (by omega) (by omega) _ _).1, (Kp.set hKa (by omega) (by omega) _ _).2, (World.cell?_setCell_other _ _ _ _ (by intro e; injection e with e; exact hb5n e.symm)).trans ka3⟩ | (refine keep3 ?_ zgW zp hc5W.out; (repeat (first | with_reducible exact Ext.rfl' _ | with_reducible assumption | with_reducible refine Ext.al ?_ _ | with_reducible refine Ext.dr ?_ | with_reducible refine Ext.st ?_ (by first | (simp; done) | ((try have s2 := Below.size hb2); (try have s3 := Below.size hb3); (try have s4 := Below.size hb4); (try simp at s2); (try simp at s3); (try simp at s4); (try simp); omega)) _ | with_reducible refine Ext.tr ?_ (by with_reducible assumption))))
            clear hK K
            (try simp only [Act.put, List.getElem_toArray, List.getElem_cons_zero, List.getElem_cons_succ, List.setIfInBounds_toArray, List.set_cons_zero, List.set_cons_succ])
            refine wpAnyH_take (i := 6) (v := _) rfl (by kernel_rfl) (by kernel_rfl) (by kernel_rfl) (fun _ _ _ h => h) (Or.inl ⟨by kernel_rfl, by intro w hSw; (try dsimp only at hSw); go_simp; (try with_reducible rfl)⟩) (by assumption) ?_
            (try simp only [Act.put, List.getElem_toArray, List.getElem_cons_zero, List.getElem_cons_succ, List.setIfInBounds_toArray, List.set_cons_zero, List.set_cons_succ])
            refine wpAnyH_take (i := 7) (v := _) rfl (by kernel_rfl) (by kernel_rfl) (by kernel_rfl) (fun _ _ _ h => h) (Or.inl ⟨by kernel_rfl, by intro w hSw; (try dsimp only at hSw); go_simp; (try with_reducible rfl)⟩) (by assumption) ?_
            (try simp only [Act.put, List.getElem_toArray, List.getElem_cons_zero, List.getElem_cons_succ, List.setIfInBounds_toArray, List.set_cons_zero, List.set_cons_succ])
            refine wpAnyH_ready (rs := [1, 8]) (by kernel_rfl) (by simp) ?_
            refine AllReadyH.cons (o := _) rfl (fun K hK => ?_) (AllReadyH.cons (o := _) rfl (fun K hK => ?_) AllReadyH.nil)
            · go_simp
              refine hK.out _ _ ?_ (fun hHeld => ?_)
              · (try dsimp only); first | exact ⟨hKa.1, hKa.2, ka3⟩ | exact ⟨(Kp.set hKa (by omega) (by omega) _ _).1, (Kp.set hKa (by omega) (by omega) _ _).2, (World.cell?_setCell_other _ _ _ _ (by intro e; injection e with e; exact hb5n e.symm)).trans ka3⟩ | (refine keep3 ?_ zgW zp hc5W.out; (repeat (first | with_reducible exact Ext.rfl' _ | with_reducible assumption | with_reducible refine Ext.al ?_ _ | with_reducible refine Ext.dr ?_ | with_reducible refine Ext.st ?_ (by first | (simp; done) | ((try have s2 := Below.size hb2); (try have s3 := Below.size hb3); (try have s4 := Below.size hb4); (try simp at s2); (try simp at s3); (try simp at s4); (try simp); omega)) _ | with_reducible refine Ext.tr ?_ (by with_reducible assumption))))
              clear hK K
              (try simp only [Act.put, List.getElem_toArray, List.getElem_cons_zero, List.getElem_cons_succ, List.setIfInBounds_toArray, List.set_cons_zero, List.set_cons_succ])
              refine wpAnyH_ready (rs := [8]) (by kernel_rfl) (by simp) ?_
              refine AllReadyH.cons (o := _) rfl (fun K hK => ?_) AllReadyH.nil
              go_simp
              skip
              refine hK.out _ _ ?_ (fun hHeld => ?_)
              · (try dsimp only); first | exact ⟨hKa.1, hKa.2, ka3⟩ | exact ⟨(Kp.set hKa (by omega) (by omega) _ _).1, (Kp.set hKa (by omega) (by omega) _ _).2, (World.cell?_setCell_other _ _ _ _ (by intro e; injection e with e; exact hb5n e.symm)).trans ka3⟩ | (refine keep3 ?_ zgW zp hc5W.out; (repeat (first | with_reducible exact Ext.rfl' _ | with_reducible assumption | with_reducible refine Ext.al ?_ _ | with_reducible refine Ext.dr ?_ | with_reducible refine Ext.st ?_ (by first | (simp; done) | ((try have s2 := Below.size hb2); (try have s3 := Below.size hb3); (try have s4 := Below.size hb4); (try simp at s2); (try simp at s3); (try simp at s4); (try simp); omega)) _ | with_reducible refine Ext.tr ?_ (by with_reducible assumption))))
              clear hK K
              (try simp only [Act.put, List.getElem_toArray, List.getElem_cons_zero, List.getElem_cons_succ, List.setIfInBounds_toArray, List.set_cons_zero, List.set_cons_succ])
              refine wpAnyH_ready (rs := [9]) (by kernel_rfl) (by simp) ?_
              refine AllReadyH.cons (o := _) rfl (fun K hK => ?_) AllReadyH.nil
              refine bstep_append rfl (.tmp 37) (.tmp 44) 26 rfl w3.heap.size 3 i0 _ 1 8 Tryz.underlying26 hi hzi0 hzi1 hzi2 rfl (by decide) u k _ rfl (World.ownsRow.alloc (ownsRow_ext hOW.out hx4) _) ⟨_, 0, none⟩ 1 1 [.int .i64 (R k)] rfl rfl (one_newZ _ _ _) (by intro u hu; simp at hu; subst hu; rfl) (by unfold maxLen; omega) (by omega) (by have := (tch_ext (tch_ext hT hEW) hx4).size; simp; omega) ?_; intro v' w5 hown hgrow; have hT5 := tch_app (tch_ext (tch_ext (tch_ext hT hEW) hx4) (Ext.al (Ext.rfl' _) _)) (World.ownsRow.alloc (ownsRow_ext hOW.out hx4) _) (Nat.le_refl _) hgrow; have hKa : Kp w.heap.size pb W w5 := (Kp.app (Kp.of (Ext.al hx4 _) zgW zp) hgrow (by have := hx4.size; simp; omega) (by have := hx4.size; simp; omega) (by intro e; have := HOB.out _ e.symm; omega) (by intro e; have := HOB.out _ e.symm; omega)); have ka3 : w5.cell? ⟨b5, off5 + m, none⟩ = some (.int .i64 (R k)) := (grown_cellS hgrow (show b5 < _ by have := hx4.size; simp; omega) (by intro e; have := HOB.out _ e.symm; omega) _).trans (hc5W.out _ (Ext.al hx4 _)); have n65 := (grown_cellS hgrow (show nb < _ by have := hx4.size; simp; omega) (by intro e; have := HOB.out _ e.symm; omega) 6).trans (((Ext.al hx4 _).ccell _ 6 znW).trans n6); have f65 := (grown_frzS hgrow (show nb < _ by have := hx4.size; simp; omega) (by intro e; have := HOB.out _ e.symm; omega) 6).trans (((Ext.al hx4 _).frz _ 6 znW).trans fn6); have hown2 : Hid (w5.ownsRow w3.heap.size 3 1 v' (k + 1) ((mkI R (k + 1)).flatMap encZ)) := Lib.hid (by rw [mkI_flat]; exact hown); obtain ⟨A6, c6, hv6, hN6⟩ := NewZ.of (l := mkI R (k + 1)) rfl (mkI_len _ _).symm hown2.out; rw [mkI_len] at hv6; subst hv6
              refine hK.out _ _ ?_ (fun hHeld => ?_)
              · (try dsimp only); first | exact ⟨hKa.1, hKa.2, ka3⟩ | exact ⟨(Kp.set hKa (by omega) (by omega) _ _).1, (Kp.set hKa (by omega) (by omega) _ _).2, (World.cell?_setCell_other _ _ _ _ (by intro e; injection e with e; exact hb5n e.symm)).trans ka3⟩ | (refine keep3 ?_ zgW zp hc5W.out; (repeat (first | with_reducible exact Ext.rfl' _ | with_reducible assumption | with_reducible refine Ext.al ?_ _ | with_reducible refine Ext.dr ?_ | with_reducible refine Ext.st ?_ (by first | (simp; done) | ((try have s2 := Below.size hb2); (try have s3 := Below.size hb3); (try have s4 := Below.size hb4); (try simp at s2); (try simp at s3); (try simp at s4); (try simp); omega)) _ | with_reducible refine Ext.tr ?_ (by with_reducible assumption))))
              clear hK K
              (try simp only [Act.put, List.getElem_toArray, List.getElem_cons_zero, List.getElem_cons_succ, List.setIfInBounds_toArray, List.set_cons_zero, List.set_cons_succ])
              refine wpAnyH_take (i := 10) (v := _) rfl (by kernel_rfl) (by kernel_rfl) (by kernel_rfl) (fun _ _ _ h => h) (Or.inl ⟨by kernel_rfl, by intro w hSw; (try dsimp only at hSw); go_simp; (try with_reducible rfl)⟩) (by assumption) ?_
              (try simp only [Act.put, List.getElem_toArray, List.getElem_cons_zero, List.getElem_cons_succ, List.setIfInBounds_toArray, List.set_cons_zero, List.set_cons_succ])
              refine wpAnyH_ready (rs := [11]) (by kernel_rfl) (by simp) ?_
              refine AllReadyH.cons (o := _) rfl (fun K hK => ?_) AllReadyH.nil
              go_simp
              skip
              refine hK.out _ _ ?_ (fun hHeld => ?_)
              · (try dsimp only); first | exact ⟨hKa.1, hKa.2, ka3⟩ | exact ⟨(Kp.set hKa (by omega) (by omega) _ _).1, (Kp.set hKa (by omega) (by omega) _ _).2, (World.cell?_setCell_other _ _ _ _ (by intro e; injection e with e; exact hb5n e.symm)).trans ka3⟩ | (refine keep3 ?_ zgW zp hc5W.out; (repeat (first | with_reducible exact Ext.rfl' _ | with_reducible assumption | with_reducible refine Ext.al ?_ _ | with_reducible refine Ext.dr ?_ | with_reducible refine Ext.st ?_ (by first | (simp; done) | ((try have s2 := Below.size hb2); (try have s3 := Below.size hb3); (try have s4 := Below.size hb4); (try simp at s2); (try simp at s3); (try simp at s4); (try simp); omega)) _ | with_reducible refine Ext.tr ?_ (by with_reducible assumption))))
              clear hK K
              (try simp only [Act.put, List.getElem_toArray, List.getElem_cons_zero, List.getElem_cons_succ, List.setIfInBounds_toArray, List.set_cons_zero, List.set_cons_succ])
              refine wpAnyH_done (by kernel_rfl) ?_ _
              have kn5 := CellsAt.grown (knW.ext (Ext.al hx4 _) znW) hgrow (show nb < _ by have := hx4.size; simp; omega) (by intro e; have := HOB.out _ e.symm; omega)
              have fn5 : ∀ o, w5.frozen? ⟨nb, o, none⟩ = false := fun o => (grown_frzS hgrow (show nb < _ by have := hx4.size; simp; omega) (by intro e; have := HOB.out _ e.symm; omega) o).trans (((Ext.al hx4 _).frz _ o znW).trans (fnW o))
              have hfin : w3.grownBy (w5.setCell ⟨nb, 6, none⟩ (.slice A6 (k + 1) c6)) (some nb) := tch_set hT5 6 _
              have hown3 : Hid ((w5.setCell ⟨nb, 6, none⟩ (.slice A6 (k + 1) c6)).ownsRow w3.heap.size 3 1 (.slice A6 (k + 1) c6) (k + 1) ((mkI R (k + 1)).flatMap encZ)) := Lib.hid (hown2.out.kept (tch_set (tch_refl w5 nb) 6 _) (by
                rcases ho : (Value.slice A6 (k + 1) c6).ownBlock with _ | qo
                · exact .inl rfl
                · refine .inr ?_
                  have := (World.ownsRow.lt hown2.out qo ho).1
                  intro e; injection e with e; omega))
              have kn6 := CellsAt.set7 kn5 (.slice A6 (k + 1) c6)
              have fn7 : ∀ o, (w5.setCell ⟨nb, 6, none⟩ (.slice A6 (k + 1) c6)).frozen? ⟨nb, o, none⟩ = false := fun o => by simp [go_sem, fn5]
              clear hgrow hown2 hT5 hKa n65 f65 n64 zn4 c5 z5 hc4 hf4 hs4 hb4 hi hzi0 hzi1 hzi2
              go_wp2
              exact ⟨⟨hfin, k + 1, _, by omega, by go_num, kn6, fn7, hown3⟩, by simp [intOf]; omega⟩
            · go_simp
              refine hK.out _ _ ?_ (fun hHeld => ?_)
              · (try dsimp only); first | exact ⟨hKa.1, hKa.2, ka3⟩ | exact ⟨(Kp.set hKa (by omega) (by omega) _ _).1, (Kp.set hKa (by omega) (by omega) _ _).2, (World.cell?_setCell_other _ _ _ _ (by intro e; injection e with e; exact hb5n e.symm)).trans ka3⟩ | (refine keep3 ?_ zgW zp hc5W.out; (repeat (first | with_reducible exact Ext.rfl' _ | with_reducible assumption | with_reducible refine Ext.al ?_ _ | with_reducible refine Ext.dr ?_ | with_reducible refine Ext.st ?_ (by first | (simp; done) | ((try have s2 := Below.size hb2); (try have s3 := Below.size hb3); (try have s4 := Below.size hb4); (try simp at s2); (try simp at s3); (try simp at s4); (try simp); omega)) _ | with_reducible refine Ext.tr ?_ (by with_reducible assumption))))
              clear hK K
              (try simp only [Act.put, List.getElem_toArray, List.getElem_cons_zero, List.getElem_cons_succ, List.setIfInBounds_toArray, List.set_cons_zero, List.set_cons_succ])
              refine wpAnyH_ready (rs := [1]) (by kernel_rfl) (by simp) ?_
              refine AllReadyH.cons (o := _) rfl (fun K hK => ?_) AllReadyH.nil
              go_simp
              skip
              refine hK.out _ _ ?_ (fun hHeld => ?_)
              · (try dsimp only); first | exact ⟨hKa.1, hKa.2, ka3⟩ | exact ⟨(Kp.set hKa (by omega) (by omega) _ _).1, (Kp.set hKa (by omega) (by omega) _ _).2, (World.cell?_setCell_other _ _ _ _ (by intro e; injection e with e; exact hb5n e.symm)).trans ka3⟩ | (refine keep3 ?_ zgW zp hc5W.out; (repeat (first | with_reducible exact Ext.rfl' _ | with_reducible assumption | with_reducible refine Ext.al ?_ _ | with_reducible refine Ext.dr ?_ | with_reducible refine Ext.st ?_ (by first | (simp; done) | ((try have s2 := Below.size hb2); (try have s3 := Below.size hb3); (try have s4 := Below.size hb4); (try simp at s2); (try simp at s3); (try simp at s4); (try simp); omega)) _ | with_reducible refine Ext.tr ?_ (by with_reducible assumption))))
              clear hK K
              (try simp only [Act.put, List.getElem_toArray, List.getElem_cons_zero, List.getElem_cons_succ, List.setIfInBounds_toArray, List.set_cons_zero, List.set_cons_succ])
              refine wpAnyH_ready (rs := [9]) (by kernel_rfl) (by simp) ?_
              refine AllReadyH.cons (o := _) rfl (fun K hK => ?_) AllReadyH.nil
              refine bstep_append rfl (.tmp 37) (.tmp 44) 26 rfl w3.heap.size 3 i0 _ 1 8 Tryz.underlying26 hi hzi0 hzi1 hzi2 rfl (by decide) u k _ rfl (World.ownsRow.alloc (ownsRow_ext hOW.out hx4) _) ⟨_, 0, none⟩ 1 1 [.int .i64 (R k)] rfl rfl (one_newZ _ _ _) (by intro u hu; simp at hu; subst hu; rfl) (by unfold maxLen; omega) (by omega) (by have := (tch_ext (tch_ext hT hEW) hx4).size; simp; omega) ?_; intro v' w5 hown hgrow; have hT5 := tch_app (tch_ext (tch_ext (tch_ext hT hEW) hx4) (Ext.al (Ext.rfl' _) _)) (World.ownsRow.alloc (ownsRow_ext hOW.out hx4) _) (Nat.le_refl _) hgrow; have hKa : Kp w.heap.size pb W w5 := (Kp.app (Kp.of (Ext.al hx4 _) zgW zp) hgrow (by have := hx4.size; simp; omega) (by have := hx4.size; simp; omega) (by intro e; have := HOB.out _ e.symm; omega) (by intro e; have := HOB.out _ e.symm; omega)); have ka3 : w5.cell? ⟨b5, off5 + m, none⟩ = some (.int .i64 (R k)) := (grown_cellS hgrow (show b5 < _ by have := hx4.size; simp; omega) (by intro e; have := HOB.out _ e.symm; omega) _).trans (hc5W.out _ (Ext.al hx4 _)); have n65 := (grown_cellS hgrow (show nb < _ by have := hx4.size; simp; omega) (by intro e; have := HOB.out _ e.symm; omega) 6).trans (((Ext.al hx4 _).ccell _ 6 znW).trans n6); have f65 := (grown_frzS hgrow (show nb < _ by have := hx4.size; simp; omega) (by intro e; have := HOB.out _ e.symm; omega) 6).trans (((Ext.al hx4 _).frz _ 6 znW).trans fn6); have hown2 : Hid (w5.ownsRow w3.heap.size 3 1 v' (k + 1) ((mkI R (k + 1)).flatMap encZ)) := Lib.hid (by rw [mkI_flat]; exact hown); obtain ⟨A6, c6, hv6, hN6⟩ := NewZ.of (l := mkI R (k + 1)) rfl (mkI_len _ _).symm hown2.out; rw [mkI_len] at hv6; subst hv6
              refine hK.out _ _ ?_ (fun hHeld => ?_)
              · (try dsimp only); first | exact ⟨hKa.1, hKa.2, ka3⟩ | exact ⟨(Kp.set hKa (by omega) (by omega) _ _).1, (Kp.set hKa (by omega) (by omega) _ _).2, (World.cell?_setCell_other _ _ _ _ (by intro e; injection e with e; exact hb5n e.symm)).trans ka3⟩ | (refine keep3 ?_ zgW zp hc5W.out; (repeat (first | with_reducible exact Ext.rfl' _ | with_reducible assumption | with_reducible refine Ext.al ?_ _ | with_reducible refine Ext.dr ?_ | with_reducible refine Ext.st ?_ (by first | (simp; done) | ((try have s2 := Below.size hb2); (try have s3 := Below.size hb3); (try have s4 := Below.size hb4); (try simp at s2); (try simp at s3); (try simp at s4); (try simp); omega)) _ | with_reducible refine Ext.tr ?_ (by with_reducible assumption))))
              clear hK K
              (try simp only [Act.put, List.getElem_toArray, List.getElem_cons_zero, List.getElem_cons_succ, List.setIfInBounds_toArray, List.set_cons_zero, List.set_cons_succ])
              refine wpAnyH_take (i := 10) (v := _) rfl (by kernel_rfl) (by kernel_rfl) (by kernel_rfl) (fun _ _ _ h => h) (Or.inl ⟨by kernel_rfl, by intro w hSw; (try dsimp only at hSw); go_simp; (try with_reducible rfl)⟩) (by assumption) ?_
              (try simp only [Act.put, List.getElem_toArray, List.getElem_cons_zero, List.getElem_cons_succ, List.setIfInBounds_toArray, List.set_cons_zero, List.set_cons_succ])
              refine wpAnyH_ready (rs := [11]) (by kernel_rfl) (by simp) ?_
              refine AllReadyH.cons (o := _) rfl (fun K hK => ?_) AllReadyH.nil
              go_simp
              skip
              refine hK.out _ _ ?_ (fun hHeld => ?_)
              · (try dsimp only); first | exact ⟨hKa.1, hKa.2, ka3⟩ | exact ⟨(Kp.set hKa (by omega) (by omega) _ _).1, (Kp.set hKa (by omega) (by omega) _ _).2, (World.cell?_setCell_other _ _ _ _ (by intro e; injection e with e; exact hb5n e.symm)).trans ka3⟩ | (refine keep3 ?_ zgW zp hc5W.out; (repeat (first | with_reducible exact Ext.rfl' _ | with_reducible assumption | with_reducible refine Ext.al ?_ _ | with_reducible refine Ext.dr ?_ | with_reducible refine Ext.st ?_ (by first | (simp; done) | ((try have s2 := Below.size hb2); (try have s3 := Below.size hb3); (try have s4 := Below.size hb4); (try simp at s2); (try simp at s3); (try simp at s4); (try simp); omega)) _ | with_reducible refine Ext.tr ?_ (by with_reducible assumption))))
              clear hK K
              (try simp only [Act.put, List.getElem_toArray, List.getElem_cons_zero, List.getElem_cons_succ, List.setIfInBounds_toArray, List.set_cons_zero, List.set_cons_succ])
              refine wpAnyH_done (by kernel_rfl) ?_ _
              have kn5 := CellsAt.grown (knW.ext (Ext.al hx4 _) znW) hgrow (show nb < _ by have := hx4.size; simp; omega) (by intro e; have := HOB.out _ e.symm; omega)
              have fn5 : ∀ o, w5.frozen? ⟨nb, o, none⟩ = false := fun o => (grown_frzS hgrow (show nb < _ by have := hx4.size; simp; omega) (by intro e; have := HOB.out _ e.symm; omega) o).trans (((Ext.al hx4 _).frz _ o znW).trans (fnW o))
              have hfin : w3.grownBy (w5.setCell ⟨nb, 6, none⟩ (.slice A6 (k + 1) c6)) (some nb) := tch_set hT5 6 _
              have hown3 : Hid ((w5.setCell ⟨nb, 6, none⟩ (.slice A6 (k + 1) c6)).ownsRow w3.heap.size 3 1 (.slice A6 (k + 1) c6) (k + 1) ((mkI R (k + 1)).flatMap encZ)) := Lib.hid (hown2.out.kept (tch_set (tch_refl w5 nb) 6 _) (by
                rcases ho : (Value.slice A6 (k + 1) c6).ownBlock with _ | qo
                · exact .inl rfl
                · refine .inr ?_
                  have := (World.ownsRow.lt hown2.out qo ho).1
                  intro e; injection e with e; omega))
              have kn6 := CellsAt.set7 kn5 (.slice A6 (k + 1) c6)
              have fn7 : ∀ o, (w5.setCell ⟨nb, 6, none⟩ (.slice A6 (k + 1) c6)).frozen? ⟨nb, o, none⟩ = false := fun o => by simp [go_sem, fn5]
              clear hgrow hown2 hT5 hKa n65 f65 n64 zn4 c5 z5 hc4 hf4 hs4 hb4 hi hzi0 hzi1 hzi2
              go_wp2
              exact ⟨⟨hfin, k + 1, _, by omega, by go_num, kn6, fn7, hown3⟩, by simp [intOf]; omega⟩
        · have hks : k = g.L.length := by omega
          subst hks
          obtain ⟨A6, c6, hv6, hN6⟩ := NewZ.of (l := mkI R g.L.length) rfl (mkI_len _ _).symm hO.out
          subst hv6
          have e0 := CellsAt.grown f0' hT x2 (by intro e; injection e with e; exact hw02 e)
          have e1 : ∀ o, wr.frozen? ⟨w.heap.size + 1 + 1, o, none⟩ = false := fun o => (grown_frzS hT x2 (by intro e; injection e with e; exact hw02 e) o).trans (fz' o)
          have HN6 := Lib.hid hN6
          have hw3 := hEw3.size
          clear hT f0' fz' hN6 hO
          rw [mkI_len] at n6
          have HE0 := Lib.hid e0
          obtain ⟨q0, q1, q2, q3, q4, q5, q6⟩ := e0.seven
          clear e0
          go_wp2
          have hSL := stL_at (w.heap.size + 1 + 1) [.int .i64 g.X, .int .i64 g.Y, .int .i64 g.S, .int .i64 g.C, .int .i64 g.R, .slice A g.L.length c, .slice A6 g.L.length c6] _ 0 _ HE0.out rfl
          have hXL := stL_ext (w.heap.size + 1 + 1) (by omega) [.int .i64 g.X, .int .i64 g.Y, .int .i64 g.S, .int .i64 g.C, .int .i64 g.R, .slice A g.L.length c, .slice A6 g.L.length c6] 0 _ hEw'
          have hNL := HN6.out.stL x2 0 [.int .i64 g.X, .int .i64 g.Y, .int .i64 g.S, .int .i64 g.C, .int .i64 g.R, .slice A g.L.length c, .slice A6 g.L.length c6]
          show bodyPost _ _ _ _ _ (stL wr (w.heap.size + 1 + 1) 0 [.int .i64 g.X, .int .i64 g.Y, .int .i64 g.S, .int .i64 g.C, .int .i64 g.R, .slice A g.L.length c, .slice A6 g.L.length c6])
          generalize stL wr (w.heap.size + 1 + 1) 0 [.int .i64 g.X, .int .i64 g.Y, .int .i64 g.S, .int .i64 g.C, .int .i64 g.R, .slice A g.L.length c, .slice A6 g.L.length c6] = WL at hSL hXL hNL ⊢
          obtain ⟨s0, s1, s2, s3, s4, s5, s6⟩ := hSL.seven
          refine bodyPost_ret (v := .agg #[.int .i64 g.X, .int .i64 g.Y, .int .i64 g.S, .int .i64 g.C, .int .i64 g.R, .slice A g.L.length c, .slice A6 g.L.length c6]) (by simp [results, Tryz.results56, go_sem, s0, s1, s2, s3, s4, s5, s6]) rfl ⟨⟨A6, c6, by rw [mkI_len], hNL.mono hw3⟩, hXL⟩
end Go.Proofs.YtgbkjioajmnjbaaGreat

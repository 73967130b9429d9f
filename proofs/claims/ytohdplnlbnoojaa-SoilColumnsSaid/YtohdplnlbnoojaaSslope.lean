/- The contracts of Clone of numbers, withLevels, slopesOf. -/
import Derived.Test.YtohdplnlbnoojaaSsoft
import Derived.Deep.RegionHeld3
namespace Go.Proofs.Ytohdplnlbnoojaa
open Go Go.RowKit Go.IntWalk

/-! ### Worlds in which one old block may have been written -/
theorem tch_refl (W : World) (b : Nat) : W.grownBy W (some b) := World.grownBy.refl W _
theorem tch_ext {W w1 w2 : World} {b : Nat} (h : W.grownBy w1 (some b)) (hE : Ext w1 w2) : W.grownBy w2 (some b) :=
  ⟨hE.os.trans h.os, hE.tape.trans h.tape, hE.output.trans h.output, Nat.le_trans h.size hE.size, fun k hk hne => (hE.block k (Nat.lt_of_lt_of_le hk h.size)).trans (h.block k hk hne)⟩
theorem tch_app {W w1 w2 : World} {b base e size n : Nat} {v : Value} {xs : List Value} (h : W.grownBy w1 (some b)) (hown : w1.ownsRow base e size v n xs) (hb : W.heap.size ≤ base) (hg : w1.grownBy w2 v.ownBlock) : W.grownBy w2 (some b) :=
  ⟨hg.os.trans h.os, hg.tape.trans h.tape, hg.output.trans h.output, Nat.le_trans h.size hg.size, fun k hk hne =>
    (hg.block k (Nat.lt_of_lt_of_le hk h.size) (by intro e; have := (World.ownsRow.lt hown k e.symm).1; omega)).trans (h.block k hk hne)⟩
theorem tch_set {W w1 : World} {b : Nat} (h : W.grownBy w1 (some b)) (o : Nat) (v : Value) : W.grownBy (w1.setCell ⟨b, o, none⟩ v) (some b) := by
  have hb : Below 0 w1 (w1.setCell ⟨b, o, none⟩ v) := Below.setCell (Below.refl 0 w1) (Nat.zero_le _) v
  refine ⟨hb.os.trans h.os, hb.tape.trans h.tape, hb.output.trans h.output, Nat.le_trans h.size hb.size, fun k hk hne => ?_⟩
  · rw [Below.heap_setCell w1 ⟨b, o, none⟩ v k (by intro e; exact hne (by rw [e]))]; exact h.block k hk hne
theorem tch_row {α : Type} {k : Nat} {enc : α → List Value} {W w1 : World} {b q off : Nat} {l : List α} (h : W.grownBy w1 (some b)) (hR : Row k enc W (some ⟨q, off, none⟩) l) (hne : q ≠ b) : Row k enc w1 (some ⟨q, off, none⟩) l := by
  rcases hR with hR | ⟨b', off', h1, h2, h3⟩
  · exact .inl hR
  · injection h1 with h1
    injection h1 with e1 e2
    subst e1 e2
    refine .inr ⟨_, _, rfl, Nat.lt_of_lt_of_le h2 h.size, fun i hi j v hv => ?_⟩
    rw [grown_cellS h h2 (by intro e; injection e with e; exact hne e)]
    exact h3 i hi j v hv
theorem tch_to_ext {w W w1 : World} {b : Nat} (h : W.grownBy w1 (some b)) (h0 : Ext w W) (hb : w.heap.size ≤ b) : Ext w w1 := Below.grown h0 h h0.size (fun k hk => by injection hk with hk; omega)

set_option maxHeartbeats 2000000 in
theorem cloneZ_c (l : List Int) (w : World) (A : Option Addr) (c : Nat) (hl : l.length ≤ 100000) (hA : Row 1 encZ w A l) :
    Calls Try.prog 94 #[.slice A l.length c] w fun e w' => OutZ w.heap.size l e w' ∧ Ext w w' := by
  have hq := fun (w : World) (a : Option Addr) (n c n' c' : Nat) => Lib.run_eql_slice_nil (P := Try.prog) w _ _ a n c n' c' Try.underlying55
  cases A with
  | none =>
    rcases hA with rfl | ⟨b, off, h, _⟩
    · go_enter Try.func94, Try.ntmps94
      go_wp2
      go_ret
      exact ⟨⟨none, 0, rfl, Nat.le_refl _, Nat.zero_le _, .inl ⟨rfl, rfl, rfl⟩⟩, Ext.rfl' _⟩
    · cases h
  | some a =>
    obtain ⟨i0, hi, hz0, hz1, hz2⟩ := info_parts infoZ
    go_enter Try.func94, Try.ntmps94
    go_wp2_with (first | (at_builtin; refine wpList_append_in rfl _ _ 55 rfl w.heap.size 3 i0 _ 1 8 Try.underlying55 hi hz0 hz1 hz2 rfl (by decide) encZ encZ_len encZ_one _ 0 [] rfl (World.ownsRow_lit _ #[] 0 ?_ (by decide) rfl) l (some a) c rfl (hA.ext ?_) ?_ ?_ ?_ ?_))
    · exact Nat.le_refl _
    · exact Ext.al (Ext.rfl' _) _
    · unfold maxLen; omega
    · omega
    · simp
    clear hi hz0 hz1 hz2
    intro v' w1 h1 h2
    obtain ⟨A', c', hv, hN⟩ := NewZ.of (l := l) (by simp) (by simp) h1
    subst hv
    have hE : Ext w w1 := Below.grown (Ext.al (Ext.rfl' _) _) h2 (by simp) (by intro q hq; simp [Value.ownBlock] at hq; omega)
    have HN := Lib.hid hN
    clear h1 h2 hN
    go_wp2
    go_ret
    exact ⟨⟨A', c', rfl, HN.out⟩, hE⟩
set_option maxHeartbeats 4000000 in
theorem withLevels_c (g : Gr) (M : List Int) (w : World) (A B : Option Addr) (c d : Nat) :
    Calls Try.prog 116 #[.agg #[.int .i64 g.X, .int .i64 g.Y, .int .i64 g.S, .int .i64 g.C, .int .i64 g.R, .slice A g.L.length c], .slice B M.length d] w fun e w' => e = .returned (.agg #[.int .i64 g.X, .int .i64 g.Y, .int .i64 g.S, .int .i64 g.C, .int .i64 g.R, .slice B M.length d]) ∧ Ext w w' := by
  go_enter Try.func116, Try.ntmps116
  go_wp2
  refine bodyPost_ret (v := .agg #[.int .i64 g.X, .int .i64 g.Y, .int .i64 g.S, .int .i64 g.C, .int .i64 g.R, .slice B M.length d]) (by simp [results, Try.results116, go_sem]) rfl ⟨rfl, ?_⟩
  (repeat (first | with_reducible exact Ext.rfl' _ | with_reducible assumption | with_reducible refine Ext.al ?_ _ | with_reducible refine Ext.dr ?_ | with_reducible refine Ext.st ?_ (by simp) _ | with_reducible refine Ext.tr ?_ (by assumption)))
end Go.Proofs.Ytohdplnlbnoojaa

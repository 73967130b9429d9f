/- The world of findWay's loops. -/
import Derived.Test.YtgnakeemcccfjaaGreatBset
import Derived.Test.YtgnakeemcccfjaaGreatBclos
import Derived.Maps.AppendAt
import Derived.Deep.LoopGhost
namespace Go.Proofs.YtgnakeemcccfjaaGreat
open Go Go.RowKit Go.IntWalk

/-- What findWay's loops leave alone: the grid's box, the set of ends, the steps; and the map of cells. -/
structure FB (w : World) (g : Gr) (A : Option Addr) (cA : Nat) (b1 n1 : Nat) (T : List Nat) (b2 n2 : Nat) (O : List (Nat × Nat)) (As : Option Addr) (cs : Nat) (Q : List (Nat × Nat)) (wr : World) : Prop where
  ext : Ext w wr
  box : wr.heap[w.heap.size]? = some (.cells #[.int .i64 g.X, .int .i64 g.Y, .int .i64 g.S, .int .i64 g.C, .int .i64 g.R, .slice A g.L.length cA] 24 (0, 0))
  set : SetZ wr b1 n1 (fun y => decide (y ∈ zl T))
  map : MapI wr b2 n2 (mapOf O)
  stp : NewS (b2 + 1) wr As cs Q
  o1 : w.heap.size < b1
  o2 : b1 < b2
theorem heap_lt {w : World} {b : Nat} {o : Obj} (h : w.heap[b]? = some o) : b < w.heap.size := by
  rcases Nat.lt_or_ge b w.heap.size with h' | h'
  · exact h'
  · rw [Array.getElem?_eq_none h'] at h; cases h
theorem NewS.kept {base : Nat} {w w' : World} {A : Option Addr} {c : Nat} {l : List (Nat × Nat)} {row : Option Nat} (h : NewS base w A c l) (hg : w.grownBy w' row) (hr : ∀ q, row = some q → A ≠ some ⟨q, 0, none⟩) : NewS base w' A c l := by
  refine ⟨h.1, h.2.1, ?_⟩
  rcases h.2.2 with h | ⟨g, h1, h2, h3⟩
  · exact .inl h
  · refine .inr ⟨g, h1, h2, ?_⟩
    have hl := h3.lt
    obtain ⟨cur, k1, k2⟩ := h3
    exact ⟨cur, (hg.block g hl (by intro e; exact hr g e.symm h1)).trans k1, k2⟩
section
variable {w wr w' : World} {g : Gr} {A : Option Addr} {cA b1 n1 : Nat} {T : List Nat} {b2 n2 : Nat} {O : List (Nat × Nat)} {As : Option Addr} {cs : Nat} {Q : List (Nat × Nat)}
theorem FB.step {row : Option Nat} (h : FB w g A cA b1 n1 T b2 n2 O As cs Q wr) (hg : wr.grownBy w' row) (hr : ∀ q, row = some q → b2 < q ∧ As ≠ some ⟨q, 0, none⟩) : FB w g A cA b1 n1 T b2 n2 O As cs Q w' := by
  have o1 := h.o1
  have o2 := h.o2
  refine ⟨Below.grown h.ext hg h.ext.size (fun q hq => by have := (hr q hq).1; omega), ?_, h.set.kept hg (by intro e; have := (hr _ e.symm).1; omega), h.map.kept hg (by intro e; have := (hr _ e.symm).1; omega), h.stp.kept hg (fun q hq => (hr q hq).2), o1, o2⟩
  exact (hg.block _ (heap_lt h.box) (by intro e; have := (hr _ e.symm).1; omega)).trans h.box
theorem FB.grow (h : FB w g A cA b1 n1 T b2 n2 O As cs Q wr) (hE : Ext wr w') : FB w g A cA b1 n1 T b2 n2 O As cs Q w' := h.step (grown_of_ext hE) (fun q hq => by cases hq)
theorem FB.put {n2' : Nat} {O' : List (Nat × Nat)} (h : FB w g A cA b1 n1 T b2 n2 O As cs Q wr) (hg : wr.grownBy w' (some b2)) (hm : MapI w' b2 n2' (mapOf O')) : FB w g A cA b1 n1 T b2 n2' O' As cs Q w' := by
  have o1 := h.o1
  have o2 := h.o2
  refine ⟨Below.grown h.ext hg h.ext.size (fun q hq => by injection hq with hq; omega), ?_, h.set.kept hg (by intro e; injection e with e; omega), hm, h.stp.kept hg (fun q hq => ?_), o1, o2⟩
  · exact (hg.block _ (heap_lt h.box) (by intro e; injection e with e; omega)).trans h.box
  · injection hq with hq
    subst hq
    intro e
    rcases h.stp.2.2 with ⟨_, h1, _⟩ | ⟨g', h1, h2, _⟩
    · rw [h1] at e; cases e
    · rw [h1] at e
      injection e with e
      injection e with e
      omega
theorem FB.cells (h : FB w g A cA b1 n1 T b2 n2 O As cs Q wr) : wr.cell? ⟨w.heap.size, 0, none⟩ = some (.int .i64 g.X) ∧ wr.cell? ⟨w.heap.size, 1, none⟩ = some (.int .i64 g.Y) ∧ wr.cell? ⟨w.heap.size, 2, none⟩ = some (.int .i64 g.S) ∧
    wr.cell? ⟨w.heap.size, 3, none⟩ = some (.int .i64 g.C) ∧ wr.cell? ⟨w.heap.size, 4, none⟩ = some (.int .i64 g.R) ∧ wr.cell? ⟨w.heap.size, 5, none⟩ = some (.slice A g.L.length cA) := by
  have hb := h.box
  refine ⟨?_, ?_, ?_, ?_, ?_, ?_⟩ <;> (rw [cell_of_row _ _ _ _ _ _ hb]; rfl)
theorem FB.other (h : FB w g A cA b1 n1 T b2 n2 O As cs Q wr) {As' : Option Addr} {cs' : Nat} {Q' : List (Nat × Nat)} (hs : NewS (b2 + 1) wr As' cs' Q') : FB w g A cA b1 n1 T b2 n2 O As' cs' Q' wr :=
  ⟨h.ext, h.box, h.set, h.map, hs, h.o1, h.o2⟩
end
/-- Where findWay ends: no way, or a way. -/
def OutFind (base : Nat) (adj : Nat → Nat → Prop) (op : Nat → Bool) (n : Nat) (F T : List Nat) (e : Ending) (w' : World) : Prop :=
  (NoWay adj op n F T ∧ e = .returned (.slice none 0 0)) ∨ OutWay base adj op n F T e w'
/-- The neighbours in a grid. -/
def adjN (cn rn : Nat) (c d : Nat) : Prop := d ∈ nbr cn rn c
theorem adjN_irr {cn rn : Nat} (h0 : 0 < cn) (c : Nat) : ¬ adjN cn rn c c := by
  unfold adjN
  intro h
  unfold nbr at h
  simp only [List.mem_append] at h
  have hd := Nat.div_add_mod c cn
  rcases h with h | h | h | h
  · split at h
    · rename_i hq
      have : cn * 1 ≤ cn * (c / cn) := Nat.mul_le_mul_left cn hq
      simp at h; omega
    · simp at h
  · split at h
    · rename_i hq
      have := Nat.mod_le c cn
      simp at h; omega
    · simp at h
  · split at h <;> simp at h
  · split at h <;> simp at h
    omega
theorem NewS.mono {base base' : Nat} {w : World} {A : Option Addr} {c : Nat} {l : List (Nat × Nat)} (h : NewS base w A c l) (hb : base' ≤ base) : NewS base' w A c l := by
  refine ⟨h.1, h.2.1, ?_⟩
  rcases h.2.2 with h | ⟨g, h1, h2, h3⟩
  · exact .inl h
  · exact .inr ⟨g, h1, Nat.le_trans hb h2, h3⟩
theorem grown_cell {w w' : World} {row : Option Nat} (hg : w.grownBy w' row) {b : Nat} (hb : b < w.heap.size) (hne : some b ≠ row) (o : Nat) : w'.cell? ⟨b, o, none⟩ = w.cell? ⟨b, o, none⟩ := by
  have h := hg.block b hb hne
  unfold World.cell?
  simp only [h]
theorem OutWay.mono {base base' : Nat} {adj : Nat → Nat → Prop} {op : Nat → Bool} {n : Nat} {F T : List Nat} {e : Ending} {w' : World} (h : OutWay base adj op n F T e w') (hb : base' ≤ base) : OutWay base' adj op n F T e w' := by
  obtain ⟨p, A, c, h1, h2, h3, h4⟩ := h
  exact ⟨p, A, c, h1, h2, h3, h4.mono hb⟩
theorem mem_zl {c : Nat} {T : List Nat} : (c : Int) ∈ zl T ↔ c ∈ T := by
  unfold zl
  rw [List.mem_map]
  constructor
  · rintro ⟨x, hx, h⟩
    have : x = c := by omega
    rwa [← this]
  · intro h; exact ⟨c, h, rfl⟩
def OutZN (base : Nat) (l : List Nat) (e : Ending) (w' : World) : Prop := ∃ A c, e = .returned (.slice A l.length c) ∧ NewZ base w' A c (zl l)
theorem OutZN.of {base : Nat} {l : List Nat} {e : Ending} {w' : World} (h : OutZ base (zl l) e w') : OutZN base l e w' := by
  obtain ⟨A, c, h1, h2⟩ := h
  rw [zl_len] at h1
  exact ⟨A, c, h1, h2⟩
theorem NewZ.kept {base : Nat} {w w' : World} {A : Option Addr} {c : Nat} {l : List Int} {row : Option Nat} (h : NewZ base w A c l) (hg : w.grownBy w' row) (hr : ∀ q, row = some q → A ≠ some ⟨q, 0, none⟩) : NewZ base w' A c l := by
  refine ⟨h.1, h.2.1, ?_⟩
  rcases h.2.2 with h | ⟨g, h1, h2, h3⟩
  · exact .inl h
  · refine .inr ⟨g, h1, h2, ?_⟩
    have hl := h3.lt
    obtain ⟨cur, k1, k2⟩ := h3
    exact ⟨cur, (hg.block g hl (by intro e; exact hr g e.symm h1)).trans k1, k2⟩
theorem NewZ.far {base : Nat} {w : World} {A : Option Addr} {c : Nat} {l : List Int} (h : NewZ base w A c l) {q : Nat} (hq : q < base ∨ w.heap.size ≤ q) : A ≠ some ⟨q, 0, none⟩ := by
  rcases h.2.2 with ⟨_, h, _⟩ | ⟨g, h1, h2, h3⟩
  · rw [h]; intro e; cases e
  · rw [h1]
    intro e
    injection e with e
    injection e with e
    have := h3.lt
    omega
theorem grown_but {w w' : World} (h : w.grownBy w' none) (row : Option Nat) : w.grownBy w' row := ⟨h.os, h.tape, h.output, h.size, fun i hi _ => h.block i hi (by simp)⟩
theorem NewS.far {base : Nat} {w : World} {A : Option Addr} {c : Nat} {l : List (Nat × Nat)} (h : NewS base w A c l) {q : Nat} (hq : w.heap.size ≤ q) : A ≠ some ⟨q, 0, none⟩ := by
  rcases h.2.2 with ⟨_, h, _⟩ | ⟨g, h1, h2, h3⟩
  · rw [h]; intro e; cases e
  · rw [h1]
    intro e
    injection e with e
    injection e with e
    have := h3.lt
    omega
end Go.Proofs.YtgnakeemcccfjaaGreat
/- Cells of boxes behind six stores, and rows between two bounds. -/
import Derived.Test.YtohdplnlbnoojaaSrfall
namespace Go.Proofs.Ytohdplnlbnoojaa
open Go Go.RowKit Go.IntWalk

theorem st6_at {w : World} {b : Nat} {v0 v1 v2 v3 v4 v5 : Value} (h : CellsAt w b 0 [.int .i64 0, .int .i64 0, .int .i64 0, .int .i64 0, .int .i64 0, .slice none 0 0]) :
    CellsAt ((((((w.setCell ⟨b, 0, none⟩ v0).setCell ⟨b, 1, none⟩ v1).setCell ⟨b, 2, none⟩ v2).setCell ⟨b, 3, none⟩ v3).setCell ⟨b, 4, none⟩ v4).setCell ⟨b, 5, none⟩ v5) b 0 [v0, v1, v2, v3, v4, v5] :=
  stL_at b [v0, v1, v2, v3, v4, v5] _ 0 w h rfl
theorem st6_far {w : World} {b c : Nat} {v0 v1 v2 v3 v4 v5 : Value} {us : List Value} (hne : c ≠ b) (h : CellsAt w b 0 us) :
    CellsAt ((((((w.setCell ⟨c, 0, none⟩ v0).setCell ⟨c, 1, none⟩ v1).setCell ⟨c, 2, none⟩ v2).setCell ⟨c, 3, none⟩ v3).setCell ⟨c, 4, none⟩ v4).setCell ⟨c, 5, none⟩ v5) b 0 us :=
  (((((h.st (by simpa using hne) _).st (by simpa using hne) _).st (by simpa using hne) _).st (by simpa using hne) _).st (by simpa using hne) _).st (by simpa using hne) _
/-- A row that a call has made, between two bounds. -/
def NbZ (lo hi : Nat) (w : World) (A : Option Addr) (l : List Int) : Prop := l = [] ∨ ∃ q c, A = some ⟨q, 0, none⟩ ∧ lo ≤ q ∧ q < hi ∧ OwnK 3 1 encZ w q c l
theorem NbZ.of {base : Nat} {w : World} {A : Option Addr} {c : Nat} {l : List Int} (h : NewZ base w A c l) : NbZ base w.heap.size w A l := by
  rcases h.2.2 with ⟨h1, _⟩ | ⟨q, h1, h2, h3⟩
  · exact .inl h1
  · exact .inr ⟨q, c, h1, h2, h3.lt, h3⟩
theorem NbZ.st {lo hi : Nat} {w : World} {A : Option Addr} {l : List Int} (h : NbZ lo hi w A l) {a : Addr} (ha : a.block < lo ∨ hi ≤ a.block) (v : Value) : NbZ lo hi (w.setCell a v) A l := by
  rcases h with h | ⟨q, c, h1, h2, h3, h4⟩
  · exact .inl h
  · exact .inr ⟨q, c, h1, h2, h3, h4.other (by omega) v⟩
theorem NbZ.ext {lo hi : Nat} {w w' : World} {A : Option Addr} {l : List Int} (h : NbZ lo hi w A l) (hw : Ext w w') : NbZ lo hi w' A l := by
  rcases h with h | ⟨q, c, h1, h2, h3, h4⟩
  · exact .inl h
  · exact .inr ⟨q, c, h1, h2, h3, h4.ext hw⟩
theorem NbZ.row {lo hi : Nat} {w : World} {A : Option Addr} {l : List Int} (h : NbZ lo hi w A l) : Row 1 encZ w A l := by
  rcases h with h | ⟨q, c, h1, h2, h3, h4⟩
  · exact .inl h
  · rw [h1]; exact h4.row encZ_len
theorem nb6 {lo hi : Nat} {w : World} {b : Nat} {v0 v1 v2 v3 v4 v5 : Value} {A : Option Addr} {l : List Int} (h : NbZ lo hi w A l) (hb : b < lo ∨ hi ≤ b) : NbZ lo hi ((((((w.setCell ⟨b, 0, none⟩ v0).setCell ⟨b, 1, none⟩ v1).setCell ⟨b, 2, none⟩ v2).setCell ⟨b, 3, none⟩ v3).setCell ⟨b, 4, none⟩ v4).setCell ⟨b, 5, none⟩ v5) A l :=
  (((((h.st hb _).st hb _).st hb _).st hb _).st hb _).st hb _
theorem box_cells' (w : World) (l : List Value) (t : TypeId) (n : Nat) (hn : n = w.heap.size) : CellsAt (w.alloc (.cells l.toArray t)) n 0 l := by
  subst hn
  intro j v hv
  rw [Nat.zero_add, World.cell?_alloc_at _ _ _ _ rfl]
  simpa using hv
theorem CellsAt.al {w : World} {b : Nat} {us : List Value} {o : Obj} (h : CellsAt w b 0 us) (hb : b < w.heap.size) : CellsAt (w.alloc o) b 0 us := h.ext (Ext.al (Ext.rfl' w) o) hb
theorem CellsAt.dr {w : World} {b : Nat} {us : List Value} (h : CellsAt w b 0 us) (hb : b < w.heap.size) : CellsAt w.drew b 0 us := h.ext (Ext.dr (Ext.rfl' w)) hb
theorem NbZ.like {lo hi : Nat} {w0 w : World} {A : Option Addr} {l : List Int} (_ : NbZ lo hi w0 A l) (h : NbZ lo hi w A l) : Row 1 encZ w A l := h.row
theorem NbZ.al {lo hi : Nat} {w : World} {A : Option Addr} {l : List Int} {o : Obj} (h : NbZ lo hi w A l) : NbZ lo hi (w.alloc o) A l := h.ext (Ext.al (Ext.rfl' w) o)
theorem NbZ.dr {lo hi : Nat} {w : World} {A : Option Addr} {l : List Int} (h : NbZ lo hi w A l) : NbZ lo hi w.drew A l := h.ext (Ext.dr (Ext.rfl' w))
end Go.Proofs.Ytohdplnlbnoojaa

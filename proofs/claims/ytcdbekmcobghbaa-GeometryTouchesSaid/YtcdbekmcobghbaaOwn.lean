/- Slices of points that the call itself has made: what they hold, and what sorting and reversing do to them. -/
import Derived.Test.YtcdbekmcobghbaaTri
import Derived.Test.YtcdbekmcobghbaaShelf
import Derived.StillTailTactics
namespace Go.Proofs.Ytcdbekmcobghbaa
open Go Go.RowKit Go.Sort Go.Shelf

/-- Block g is a row of points with room for cap, whose first are l. -/
def Own (w : World) (g cap : Nat) (l : List Pt) : Prop :=
  ∃ cur, w.heap[g]? = some (.cells cur 23 (0, 0)) ∧ cur.size = cap * 2 ∧ l.length ≤ cap ∧ cap ≤ maxLen ∧ cur.toList.take (l.length * 2) = l.flatMap encP
theorem flat_len (l : List Pt) : (l.flatMap encP).length = l.length * 2 := by
  induction l with
  | nil => rfl
  | cons x l ih => rw [List.flatMap_cons, List.length_append, ih, List.length_cons, encP_len]; omega
section
variable {w w' : World} {g cap base : Nat} {l : List Pt}
theorem Own.of_row (h : w.ownsRow base 23 2 (.slice (some ⟨g, 0, none⟩) l.length cap) l.length (l.flatMap encP)) : Own w g cap l ∧ base ≤ g := by
  rcases h.2 with ⟨h', _⟩ | ⟨g', cap', cur, h', hb, hg, hnc, hcm, hcs, htake⟩
  · simp at h'
  · simp only [Value.slice.injEq, Option.some.injEq, Addr.mk.injEq, and_true, true_and] at h'
    obtain ⟨rfl, rfl⟩ := h'
    exact ⟨⟨cur, hg, hcs, hnc, hcm, htake⟩, hb⟩
theorem Own.to_row (h : Own w g cap l) (hb : base ≤ g) : w.ownsRow base 23 2 (.slice (some ⟨g, 0, none⟩) l.length cap) l.length (l.flatMap encP) := by
  obtain ⟨cur, h1, h2, h3, h4, h5⟩ := h
  exact ⟨flat_len l, .inr ⟨g, cap, cur, rfl, hb, h1, h3, h4, h2, h5⟩⟩
theorem Own.lt (h : Own w g cap l) : g < w.heap.size := by
  obtain ⟨cur, h1, _⟩ := h
  rcases Nat.lt_or_ge g w.heap.size with h | h
  · exact h
  · rw [Array.getElem?_eq_none h] at h1; cases h1
theorem Own.ext (h : Own w g cap l) (hw : Ext w w') : Own w' g cap l := by
  have hl := h.lt
  obtain ⟨cur, h1, h2⟩ := h
  exact ⟨cur, (hw.block g hl).trans h1, h2⟩
theorem Own.cells (h : Own w g cap l) (j : Nat) (v : Value) (hv : (l.flatMap encP)[j]? = some v) : w.cell? ⟨g, j, none⟩ = some v := by
  have := (h.to_row (Nat.zero_le g)).cellAt j (by have := (List.getElem?_eq_some_iff.1 hv).1; rw [flat_len] at this; exact this)
  rw [this]; exact hv
theorem Own.frozen (h : Own w g cap l) (j : Nat) : w.frozen? ⟨g, j, none⟩ = false := (h.to_row (Nat.zero_le g)).frozenAt j
theorem Own.row (h : Own w g cap l) : Row 2 encP w (some ⟨g, 0, none⟩) l :=
  .inr ⟨g, 0, rfl, h.lt, fun i hi j v hv => by rw [Nat.zero_add]; exact h.cells _ _ (flat_get encP_len l i hi j v hv)⟩
theorem Own.pop {x : Pt} (h : Own w g cap (l ++ [x])) : Own w g cap l := by
  obtain ⟨cur, h1, h2, h3, h4, h5⟩ := h
  refine ⟨cur, h1, h2, by simp at h3; omega, h4, ?_⟩
  have h6 := congrArg (List.take (l.length * 2)) h5
  rw [List.take_take, Nat.min_eq_left (by simp; omega), List.flatMap_append] at h6
  rw [h6, List.take_append_of_le_length (by rw [flat_len]; omega), List.take_of_length_le (by rw [flat_len]; omega)]
/-- Only block g may have turned, and blocks have come. -/
abbrev Touch (g : Nat) (w w' : World) : Prop := w.grownBy w' (some g)
theorem Touch.ext {w0 : World} (h : Touch g w w') (h0 : Ext w0 w) (hg : w0.heap.size ≤ g) : Ext w0 w' := Below.grown h0 h h0.size (fun k hk => by injection hk with hk; omega)
theorem Touch.own {g' cap' : Nat} {l' : List Pt} (h : Touch g w w') (hne : g' ≠ g) (ho : Own w g' cap' l') : Own w' g' cap' l' := by
  have hl := ho.lt
  obtain ⟨cur, h1, h2⟩ := ho
  exact ⟨cur, (h.block g' hl (by intro e; injection e with e; exact hne e)).trans h1, h2⟩
theorem own_of_cells {_n : Nat} {cur : Array Value} (h1 : w.heap[g]? = some (.cells cur 23 (0, 0))) (h2 : cur.size = cap * 2) (h3 : l.length ≤ cap) (h4 : cap ≤ maxLen)
    (hc : ∀ j v, (l.flatMap encP)[j]? = some v → w.cell? ⟨g, j, none⟩ = some v) : Own w g cap l := by
  refine ⟨cur, h1, h2, h3, h4, ?_⟩
  apply List.ext_getElem?
  intro j
  rw [List.getElem?_take]
  by_cases hj : j < l.length * 2
  · rw [if_pos hj]
    have hlt : j < (l.flatMap encP).length := by rw [flat_len]; exact hj
    have e := hc j _ (List.getElem?_eq_getElem hlt)
    rw [List.getElem?_eq_getElem hlt]
    rw [cell_of_row w g j cur 23 (0, 0) h1] at e
    rw [← e, Array.getElem?_toList]
  · rw [if_neg hj, List.getElem?_eq_none (by rw [flat_len]; omega)]
theorem flatK_get (d : Array Pt) (j : Nat) (v : Value) (hv : (d.toList.flatMap encP)[j]? = some v) : j < d.size * 2 ∧ (flatK encP 2 d)[j]! = v := by
  have hlt : j < d.size * 2 := by have := (List.getElem?_eq_some_iff.1 hv).1; rw [flat_len] at this; simpa using this
  refine ⟨hlt, ?_⟩
  rw [get_flatK encP 2 d j hlt]
  have hi : j / 2 < d.toList.length := by simp; omega
  have e := flat_get encP_len d.toList (j / 2) hi (j % 2) ((encP d.toList[j / 2])[j % 2]!) (by
    have : j % 2 < 2 := by omega
    rw [getElem!_pos (encP d.toList[j / 2]) (j % 2) (by rw [encP_len]; exact this)]
    exact List.getElem?_eq_getElem _)
  rw [show j / 2 * 2 + j % 2 = j by omega, hv] at e
  injection e with e
  rw [e, getElem!_pos d (j / 2) (by omega)]
  simp
theorem Own.holds (h : Own w g cap l) : HoldsK encP 2 w g 0 l.toArray := by
  intro j hj
  rw [size_flatK] at hj
  refine ⟨?_, h.frozen _⟩
  rw [Nat.zero_add]
  have hlt : j < (l.flatMap encP).length := by rw [flat_len]; simpa using hj
  have e := List.getElem?_eq_getElem hlt
  have := (flatK_get l.toArray j _ (show (l.toArray.toList.flatMap encP)[j]? = some _ from e)).2
  rw [h.cells j _ e]
  simp only [id]
  rw [this]
theorem touch_sort (d : Array Pt) (n : Nat) (os : Array Obj) (_hg : g < w.heap.size) : Touch g w (sortWorldK encP 2 w g 0 n d os) := by
  refine ⟨rfl, rfl, rfl, size_sortWorldK_c encP 2 w g 0 n d os, fun k hk hne => ?_⟩
  unfold sortWorldK grow putRowK putRow mapBlock Sort.ahead
  simp only
  rw [Array.getElem?_append_left (by simpa using hk), Array.getElem?_modify, if_neg (by intro e; exact hne (by rw [e]))]
theorem own_sort (h : Own w g cap l) (d : Array Pt) (n : Nat) (os : Array Obj) (hd : d.size = l.length) : Own (sortWorldK encP 2 w g 0 n d os) g cap d.toList := by
  have hl := h.lt
  have hH := holdsK_sortWorldK_c encP 2 w g 0 l.toArray d n os h.holds hl (by simpa using hd)
  obtain ⟨cur, h1, h2, h3, h4, h5⟩ := h
  have hb : (sortWorldK encP 2 w g 0 n d os).heap[g]? = some (.cells (putCells id 0 (flatK encP 2 d) cur) 23 (0, 0)) := by
    unfold sortWorldK grow putRowK putRow mapBlock Sort.ahead
    simp only
    rw [Array.getElem?_append_left (by simpa using hl), Array.getElem?_modify, if_pos rfl, h1]
    rfl
  refine own_of_cells (_n := 0) hb (by unfold putCells; simpa using h2) (by simpa [hd] using h3) h4 fun j v hv => ?_
  obtain ⟨hj, e⟩ := flatK_get d j v hv
  have := (hH j (by rw [size_flatK]; exact hj)).1
  rw [Nat.zero_add] at this
  rw [this]
  simp only [id]
  rw [e]
end
end Go.Proofs.Ytcdbekmcobghbaa

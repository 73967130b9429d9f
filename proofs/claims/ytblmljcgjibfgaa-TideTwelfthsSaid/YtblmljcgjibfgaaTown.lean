/- Slices of marks that the call itself has made: what they hold. -/
import Derived.Test.YtblmljcgjibfgaaTall
import Derived.Test.YtblmljcgjibfgaaTshelf
import Derived.StillTailTactics
import Derived.Carry
import Derived.Below
namespace Go.Proofs.Ytblmljcgjibfgaa
open Go Go.RowKit Go.Shelf

/-- Block g is a row of points with room for cap, whose first are l. -/
def Own (w : World) (g cap : Nat) (l : List Pt) : Prop :=
  ∃ cur, w.heap[g]? = some (.cells cur 89 (0, 0)) ∧ cur.size = cap * 2 ∧ l.length ≤ cap ∧ cap ≤ maxLen ∧ cur.toList.take (l.length * 2) = l.flatMap encP
theorem flat_len (l : List Pt) : (l.flatMap encP).length = l.length * 2 := by
  induction l with
  | nil => rfl
  | cons x l ih => rw [List.flatMap_cons, List.length_append, ih, List.length_cons, encP_len]; omega
theorem Own.of_row {w : World} {g cap base : Nat} {l : List Pt} (h : w.ownsRow base 89 2 (.slice (some ⟨g, 0, none⟩) l.length cap) l.length (l.flatMap encP)) : Own w g cap l ∧ base ≤ g := by
  rcases h.2 with ⟨h', _⟩ | ⟨g', cap', cur, h', hb, hg, hnc, hcm, hcs, htake⟩
  · simp at h'
  · simp only [Value.slice.injEq, Option.some.injEq, Addr.mk.injEq, and_true, true_and] at h'
    obtain ⟨rfl, rfl⟩ := h'
    exact ⟨⟨cur, hg, hcs, hnc, hcm, htake⟩, hb⟩
theorem Own.to_row {w : World} {g cap base : Nat} {l : List Pt} (h : Own w g cap l) (hb : base ≤ g) : w.ownsRow base 89 2 (.slice (some ⟨g, 0, none⟩) l.length cap) l.length (l.flatMap encP) := by
  obtain ⟨cur, h1, h2, h3, h4, h5⟩ := h
  exact ⟨flat_len l, .inr ⟨g, cap, cur, rfl, hb, h1, h3, h4, h2, h5⟩⟩
theorem Own.lt {w : World} {g cap : Nat} {l : List Pt} (h : Own w g cap l) : g < w.heap.size := by
  obtain ⟨cur, h1, _⟩ := h
  rcases Nat.lt_or_ge g w.heap.size with h | h
  · exact h
  · rw [Array.getElem?_eq_none h] at h1; cases h1
theorem Own.ext {w w' : World} {g cap : Nat} {l : List Pt} (h : Own w g cap l) (hw : Ext w w') : Own w' g cap l := by
  have hl := h.lt
  obtain ⟨cur, h1, h2⟩ := h
  exact ⟨cur, (hw.block g hl).trans h1, h2⟩
theorem Own.cells {w : World} {g cap : Nat} {l : List Pt} (h : Own w g cap l) (j : Nat) (v : Value) (hv : (l.flatMap encP)[j]? = some v) : w.cell? ⟨g, j, none⟩ = some v := by
  have := (h.to_row (Nat.zero_le g)).cellAt j (by have := (List.getElem?_eq_some_iff.1 hv).1; rw [flat_len] at this; exact this)
  rw [this]; exact hv
theorem Own.frozen {w : World} {g cap : Nat} {l : List Pt} (h : Own w g cap l) (j : Nat) : w.frozen? ⟨g, j, none⟩ = false := (h.to_row (Nat.zero_le g)).frozenAt j
theorem Own.row {w : World} {g cap : Nat} {l : List Pt} (h : Own w g cap l) : Row 2 encP w (some ⟨g, 0, none⟩) l :=
  .inr ⟨g, 0, rfl, h.lt, fun i hi j v hv => by rw [Nat.zero_add]; exact h.cells _ _ (flat_get encP_len l i hi j v hv)⟩
theorem Own.pop {w : World} {g cap : Nat} {l : List Pt} {x : Pt} (h : Own w g cap (l ++ [x])) : Own w g cap l := by
  obtain ⟨cur, h1, h2, h3, h4, h5⟩ := h
  refine ⟨cur, h1, h2, by simp at h3; omega, h4, ?_⟩
  have h6 := congrArg (List.take (l.length * 2)) h5
  rw [List.take_take, Nat.min_eq_left (by simp; omega), List.flatMap_append] at h6
  rw [h6, List.take_append_of_le_length (by rw [flat_len]; omega), List.take_of_length_le (by rw [flat_len]; omega)]
/-- Only block g may have turned, and blocks have come. -/
abbrev Touch (g : Nat) (w w' : World) : Prop := w.grownBy w' (some g)
theorem Touch.ext {w w' w0 : World} {g : Nat} (h : Touch g w w') (h0 : Ext w0 w) (hg : w0.heap.size ≤ g) : Ext w0 w' := Below.grown h0 h h0.size (fun k hk => by injection hk with hk; omega)
theorem Touch.own {w w' : World} {g g' cap' : Nat} {l' : List Pt} (h : Touch g w w') (hne : g' ≠ g) (ho : Own w g' cap' l') : Own w' g' cap' l' := by
  have hl := ho.lt
  obtain ⟨cur, h1, h2⟩ := ho
  exact ⟨cur, (h.block g' hl (by intro e; injection e with e; exact hne e)).trans h1, h2⟩
theorem own_of_cells {w : World} {g cap : Nat} {l : List Pt} {cur : Array Value} (h1 : w.heap[g]? = some (.cells cur 89 (0, 0))) (h2 : cur.size = cap * 2) (h3 : l.length ≤ cap) (h4 : cap ≤ maxLen)
    (hc : ∀ j v, (l.flatMap encP)[j]? = some v → w.cell? ⟨g, j, none⟩ = some v) : Own w g cap l := by
  refine ⟨cur, h1, h2, h3, h4, ?_⟩
  apply List.ext_getElem?
  intro j
  rw [List.getElem?_take]
  by_cases hj : j < l.length * 2
  · rw [if_pos hj]
    have hlt : j < (l.flatMap encP).length := by rw [flat_len]; exact hj
    have e := hc j _ (List.getElem?_eq_getElem hlt)
    rw [List.getElem?_eq_getElem hlt]
    rw [cell_of_row w g j cur 89 (0, 0) h1] at e
    rw [← e, Array.getElem?_toList]
  · rw [if_neg hj, List.getElem?_eq_none (by rw [flat_len]; omega)]
theorem encP_one : ∀ (x : Pt), ∀ v ∈ encP x, v.oneCell' = true := fun x v hv => by simp [encP] at hv; rcases hv with rfl | rfl <;> rfl
theorem encP_all (l : List Pt) : ∀ v ∈ l.flatMap encP, v.oneCell' = true := fun v hv => by
  obtain ⟨x, _, hx⟩ := List.mem_flatMap.1 hv
  exact encP_one x v hx

theorem Row.flat {α : Type} {k : Nat} {enc : α → List Value} {w : World} {b off : Nat} {l : List α} (h : Row k enc w (some ⟨b, off, none⟩) l) (hk : ∀ x, (enc x).length = k) (h0 : 0 < k) :
    ∀ j u, (l.flatMap enc)[j]? = some u → w.cell? ⟨b, off + j, none⟩ = some u := by
  intro j u hu
  have hfl : ∀ l : List α, (l.flatMap enc).length = l.length * k := by
    intro l
    induction l with
    | nil => simp
    | cons x l ih => rw [List.flatMap_cons, List.length_append, ih, List.length_cons, hk, Nat.succ_mul]; omega
  have hlt : j < l.length * k := by have := (List.getElem?_eq_some_iff.1 hu).1; rwa [hfl] at this
  rcases h with rfl | ⟨b', off', h1, h2, h3⟩
  · simp at hlt
  · injection h1 with h1
    injection h1 with e1 e2
    subst e1 e2
    have hi : j / k < l.length := by rw [Nat.div_lt_iff_lt_mul h0]; exact hlt
    have hm : j % k < k := Nat.mod_lt _ h0
    have hx : (enc l[j / k])[j % k]? = some ((enc l[j / k])[j % k]'(by rw [hk]; exact hm)) := List.getElem?_eq_getElem _
    have e := flat_get hk l (j / k) hi (j % k) _ hx
    have ej : j / k * k + j % k = j := Nat.div_add_mod' j k
    rw [ej, hu] at e
    have := h3 (j / k) hi (j % k) _ hx
    rw [show off + j / k * k + j % k = off + j by omega] at this
    rw [this, e]

theorem infoM : (Try.prog.info? 89).map (fun i => (i.zero, i.size, i.bytes)) = some (some (.agg #[.int .i64 0, .int .i64 0]), 2, 16) := by kernel_rfl

theorem clone_c (w : World) (b off c : Nat) (l : List Pt) (hl : l.length ≤ maxLen) (hb16 : l.length * 16 ≤ 140737488355328) (hA : Row 2 encP w (some ⟨b, off, none⟩) l) (_h0 : 0 < l.length) :
    Calls Try.prog 85 #[.slice (some ⟨b, off, none⟩) l.length c] w
      fun e w' => ∃ g cap, e = .returned (.slice (some ⟨g, 0, none⟩) l.length cap) ∧ Own w' g cap l ∧ w.heap.size ≤ g ∧ Ext w w' := by
  obtain ⟨i0, hi, hz0, hz1, hz2⟩ := info_parts infoM
  have hcell := hA.flat encP_len (by decide)
  have hcon := AnyE.slices_Clone Try.cloneP i0 _ 2 16 hi hz0 hz1 hz2 rfl (by decide) Try.sizeOf89 b off l.length c (l.flatMap encP) w (flat_len l) hl hb16 hcell (encP_all l)
  refine Calls.mono (show Calls Try.prog 85 _ w _ from hcon) ?_
  rintro e w' ⟨v', he, hown, hv, hb⟩
  rcases hown.2 with ⟨h', _⟩ | ⟨g, cap, cur, rfl, hg, _⟩
  · exact absurd h' hv
  · exact ⟨g, cap, he, (Own.of_row hown).1, hg, hb⟩

end Go.Proofs.Ytblmljcgjibfgaa

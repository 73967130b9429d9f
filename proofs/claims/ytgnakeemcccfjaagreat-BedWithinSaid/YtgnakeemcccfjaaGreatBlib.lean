/- The library's Sort, Compact, Reverse and Contains on numbers, in the words of this program. -/
import Derived.Test.YtgnakeemcccfjaaGreatBmap
import Derived.Test.YtgnakeemcccfjaaGreatBnear
import Derived.Test.YtgnakeemcccfjaaGreatShelf
namespace Go.Proofs.YtgnakeemcccfjaaGreat
open Go Go.RowKit Go.IntWalk Go.Sort Go.Shelf Go.Lib

/-- Only block g may have turned, and blocks have come. -/
abbrev Touch (g : Nat) (w w' : World) : Prop := w.grownBy w' (some g)
theorem Touch.ext {w w' w0 : World} {g : Nat} (h : Touch g w w') (h0 : Ext w0 w) (hg : w0.heap.size ≤ g) : Ext w0 w' := Below.grown h0 h h0.size (fun k hk => by injection hk with hk; omega)
theorem Touch.own {α : Type} {t : TypeId} {k : Nat} {enc : α → List Value} {w w' : World} {g g' cap' : Nat} {l' : List α} (h : Touch g w w') (hne : g' ≠ g) (ho : OwnK t k enc w g' cap' l') : OwnK t k enc w' g' cap' l' := by
  have hl := ho.lt
  obtain ⟨cur, h1, h2⟩ := ho
  exact ⟨cur, (h.block g' hl (by intro e; injection e with e; exact hne e)).trans h1, h2⟩
def zWorld (w : World) (g : Nat) (l : List Int) (n : Nat) (os : Array Obj) : World := grow (putRow (Value.int .i64) (Sort.ahead w n) g 0 l.toArray) os
theorem touch_z (w : World) (g : Nat) (l : List Int) (n : Nat) (os : Array Obj) : Touch g w (zWorld w g l n os) := by
  refine ⟨rfl, rfl, rfl, ?_, fun k hk hne => ?_⟩
  · unfold zWorld grow putRow mapBlock Sort.ahead; simp
  · unfold zWorld grow putRow mapBlock Sort.ahead
    simp only
    rw [Array.getElem?_append_left (by simpa using hk), Array.getElem?_modify, if_neg (by intro e; exact hne (by rw [e]))]
theorem zflat_get (l : List Int) (j : Nat) : (l.flatMap encZ)[j]? = (l[j]?).map (Value.int .i64) := by
  have : l.flatMap encZ = l.map (Value.int .i64) := by
    induction l with
    | nil => rfl
    | cons x l ih => rw [List.flatMap_cons, ih]; rfl
  rw [this, List.getElem?_map]
theorem own_z {w : World} {g cap : Nat} {l m : List Int} (h : OwnK 3 1 encZ w g cap l) (n : Nat) (os : Array Obj) (hm : m.length = l.length) : OwnK 3 1 encZ (zWorld w g m n os) g cap m := by
  have hl := h.lt
  obtain ⟨cur, h1, h2, h3, h4, h5⟩ := h
  have hb : (zWorld w g m n os).heap[g]? = some (.cells (putCells (Value.int .i64) 0 m.toArray cur) 3 (0, 0)) := by
    unfold zWorld grow putRow mapBlock Sort.ahead
    simp only
    rw [Array.getElem?_append_left (by simpa using hl), Array.getElem?_modify, if_pos rfl, h1]
    rfl
  refine ⟨_, hb, by unfold putCells; simpa using h2, by omega, h4, ?_⟩
  apply List.ext_getElem?
  intro j
  rw [List.getElem?_take, Nat.mul_one, zflat_get]
  by_cases hj : j < m.length
  · rw [if_pos hj, Array.getElem?_toList]
    unfold putCells
    rw [Array.getElem?_mapIdx, Array.getElem?_eq_getElem (by omega), Option.map_some, if_pos ⟨Nat.zero_le _, by simpa using hj⟩, List.getElem?_eq_getElem hj]
    simp [hj]
  · rw [if_neg hj, List.getElem?_eq_none (by omega)]; rfl
theorem holds_z {w : World} {g cap : Nat} {l : List Int} (h : OwnK 3 1 encZ w g cap l) : Holds (Value.int .i64) w g 0 l.toArray := by
  intro j hj
  have hj' : j < l.length := by simpa using hj
  refine ⟨?_, h.frozen encZ_len _⟩
  rw [Nat.zero_add]
  refine h.cells encZ_len j _ ?_
  rw [zflat_get, List.getElem?_eq_getElem hj']
  simp [hj']
def sortZ (l : List Int) : List Int := l.mergeSort fun x y => decide (x ≤ y)
theorem sortZ_len (l : List Int) : (sortZ l).length = l.length := by simp [sortZ]
theorem sort_own_c (w : World) (g cap : Nat) (l : List Int) (h : OwnK 3 1 encZ w g cap l) (hl : l.length ≤ 100000) :
    Calls Tryz.prog 88 #[.slice (some ⟨g, 0, none⟩) l.length cap] w fun e w' => e = .returned (.tuple #[]) ∧ OwnK 3 1 encZ w' g cap (sortZ l) ∧ Touch g w w' := by
  refine (Tryz.slices_Sort_int g 0 cap l w (holds_z h) h.lt (by omega)).mono ?_
  rintro e w' ⟨he, n, os, hw⟩
  subst hw
  exact ⟨he, own_z h n os (sortZ_len l), touch_z w g (sortZ l) n os⟩
theorem OwnK.front {α : Type} {t : TypeId} {k : Nat} {enc : α → List Value} (hk : ∀ x, (enc x).length = k) {w : World} {g cap : Nat} {l m : List α} (h : OwnK t k enc w g cap (l ++ m)) : OwnK t k enc w g cap l := by
  obtain ⟨cur, h1, h2, h3, h4, h5⟩ := h
  refine ⟨cur, h1, h2, by simp at h3; omega, h4, ?_⟩
  have h6 := congrArg (List.take (l.length * k)) h5
  rw [List.take_take, Nat.min_eq_left (Nat.mul_le_mul_right k (by simp)), List.flatMap_append] at h6
  rw [h6, List.take_append_of_le_length (by rw [flat_lenK hk]; omega), List.take_of_length_le (by rw [flat_lenK hk]; omega)]
theorem compact_len (l : List Int) : (compact l).length ≤ l.length := by
  unfold compact compactUpTo
  rw [List.length_map]
  have := List.length_filter_le (keeps l.toArray) (List.range l.length)
  simpa using this
theorem compact_own_c (w : World) (g cap : Nat) (l : List Int) (h : OwnK 3 1 encZ w g cap l) (hl : l.length ≤ 100000) :
    Calls Tryz.prog 89 #[.slice (some ⟨g, 0, none⟩) l.length cap] w fun e w' => e = .returned (.slice (some ⟨g, 0, none⟩) (compact l).length cap) ∧ OwnK 3 1 encZ w' g cap (compact l) ∧ Touch g w w' := by
  have hc : l.length ≤ cap := by obtain ⟨_, _, _, h3, _⟩ := h; exact h3
  refine (Tryz.slices_Compact_int g 0 cap l w (holds_z h) (by omega) hc).mono ?_
  rintro e w' ⟨he, n, hw⟩
  have hw' : w' = zWorld w g (compact l ++ List.replicate (l.length - (compact l).length) 0) n #[] := by rw [hw]; unfold zWorld; rw [grow_empty]
  subst hw'
  refine ⟨he, OwnK.front encZ_len (own_z h n #[] ?_), touch_z _ _ _ _ _⟩
  have := compact_len l
  simp; omega
theorem reverse_own_c (w : World) (g cap : Nat) (l : List Int) (h : OwnK 3 1 encZ w g cap l) (hl : l.length ≤ 100000) :
    Calls Tryz.prog 117 #[.slice (some ⟨g, 0, none⟩) l.length cap] w fun e w' => e = .returned (.tuple #[]) ∧ OwnK 3 1 encZ w' g cap l.reverse ∧ Touch g w w' := by
  refine (Tryz.slices_Reverse_int g 0 cap l w (holds_z h) (by omega)).mono ?_
  rintro e w' ⟨he, n, hw⟩
  have hw' : w' = zWorld w g l.reverse n #[] := by rw [hw]; unfold zWorld; rw [grow_empty]
  subst hw'
  exact ⟨he, own_z h n #[] (by simp), touch_z _ _ _ _ _⟩
theorem contains_c (w : World) (A : Option Addr) (c : Nat) (l : List Int) (x : Int) (hl : l.length ≤ maxLen) (hA : Row 1 encZ w A l) :
    Calls Tryz.prog 96 #[.slice A l.length c, .int .i64 x] w fun e w' => e = .returned (.bool (decide (x ∈ l))) ∧ w = w' := by
  unfold maxLen at hl
  by_cases h0 : l = []
  · subst h0
    refine (Tryz.slices_Contains_int_empty A c x w).mono ?_
    rintro e w' ⟨he, hw⟩
    exact ⟨by rw [he]; simp, hw.symm⟩
  · have hlen : 0 < l.length := List.length_pos_iff.2 h0
    obtain ⟨b, off, rfl, _, _⟩ := hA.p1 hlen
    refine (Tryz.slices_Contains_int b off l.length c l x w (Nat.le_refl _) (by omega) (fun j hj => ?_)).mono ?_
    · obtain ⟨b', off', e, _, hc⟩ := hA.p1 hj
      injection e with e
      injection e with e1 e2
      subst e1 e2
      rw [hc _ (Ext.rfl' w)]
      simp [hj]
    · rintro e w' ⟨he, hw⟩
      exact ⟨by rw [he, List.take_length, List.contains_eq_mem], hw.symm⟩

/-! ### Compact keeps every number -/
theorem compact_mem (l : List Int) (x : Int) : x ∈ compact l ↔ x ∈ l := by
  unfold compact compactUpTo
  rw [List.mem_map]
  constructor
  · rintro ⟨j, hj, rfl⟩
    have hj := (List.mem_filter.1 hj).1
    have hj : j < l.length := by simpa using hj
    rw [getElem!_pos _ _ (by simpa using hj)]
    simp
  · intro hx
    obtain ⟨i, hi, rfl⟩ := List.mem_iff_getElem.1 hx
    have : ∀ i, i < l.length → ∃ j, j ≤ i ∧ l[j]? = l[i]? ∧ keeps l.toArray j = true := by
      intro i
      induction i with
      | zero => intro _; exact ⟨0, Nat.le_refl _, rfl, keeps_lt_one _ 0 (by omega)⟩
      | succ i ih =>
        intro hi
        by_cases he : l.toArray[i + 1]! = l.toArray[i]!
        · obtain ⟨j, h1, h2, h3⟩ := ih (by omega)
          refine ⟨j, by omega, ?_, h3⟩
          rw [h2]
          rw [getElem!_pos _ _ (by simpa using hi), getElem!_pos _ _ (by simp; omega)] at he
          rw [List.getElem?_eq_getElem (by omega), List.getElem?_eq_getElem hi]
          simpa using he.symm
        · exact ⟨i + 1, Nat.le_refl _, rfl, keeps_pos (by simpa using he)⟩
    obtain ⟨j, h1, h2, h3⟩ := this i hi
    refine ⟨j, List.mem_filter.2 ⟨by simp; omega, h3⟩, ?_⟩
    rw [getElem!_pos _ _ (by simp; omega)]
    rw [List.getElem?_eq_getElem (by omega), List.getElem?_eq_getElem hi] at h2
    simpa using h2
theorem compact_asc {l : List Int} (h : l.Pairwise (· ≤ ·)) : (compact l).Pairwise (· ≤ ·) := by
  unfold compact compactUpTo
  rw [List.pairwise_map]
  have h1 : ((List.range l.length).filter (keeps l.toArray)).Pairwise (· < ·) := List.pairwise_lt_range.sublist List.filter_sublist
  refine h1.imp_of_mem ?_
  intro a b ha hb hab
  have ha := (List.mem_filter.1 ha).1
  have hb := (List.mem_filter.1 hb).1
  have ha : a < l.length := by simpa using ha
  have hb : b < l.length := by simpa using hb
  rw [getElem!_pos _ _ (by simpa using ha), getElem!_pos _ _ (by simpa using hb)]
  have := List.pairwise_iff_getElem.1 h a b ha hb hab
  simpa using this
theorem sortZ_asc (l : List Int) : (sortZ l).Pairwise (· ≤ ·) := by
  have := List.pairwise_mergeSort (le := fun x y : Int => decide (x ≤ y)) (by intro a b c; simp; omega) (by intro a b; simp; omega) l
  exact this.imp (by intro a b; simp)
theorem sortZ_mem (l : List Int) (x : Int) : x ∈ sortZ l ↔ x ∈ l := by unfold sortZ; exact List.mem_mergeSort
end Go.Proofs.YtgnakeemcccfjaaGreat

/- withLevels, for each closure that it is given: what the texts of the contracts share. -/
import Derived.Test.YtgnakeemcccfjaaBnear
import Derived.Test.YtgnakeemcccfjaaTtail
import Derived.Deep.OwnRows
namespace Go.Proofs.Ytgnakeemcccfjaa
open Go Go.RowKit Go.IntWalk

/-- The numbers f 0, f 1, .. -/
def mkL (f : Nat → Int) (n : Nat) : List Int := (List.range n).map f
theorem mkL_len (f : Nat → Int) (n : Nat) : (mkL f n).length = n := by simp [mkL]
theorem gi_mkL (f : Nat → Int) (n i : Nat) (h : i < n) : gi (mkL f n) i = f i := by
  rw [gi_lt _ _ (by rw [mkL_len]; exact h)]
  simp [mkL]
theorem mkL_eq {l : List Int} {f : Nat → Int} (h : ∀ i, i < l.length → gi l i = f i) : l = mkL f l.length := by
  apply List.ext_getElem (by rw [mkL_len])
  intro i h1 h2
  rw [← gi_lt l i h1, h i h1, ← gi_lt, gi_mkL _ _ _ h1]
theorem own_of_row {w : World} {q n : Nat} {t : TypeId} {f : Nat → Int} (h : w.rowIs q t n (fun i => .int .i64 (f i))) (hn : n ≤ maxLen) : OwnK t 1 encZ w q n (mkL f n) := by
  obtain ⟨c, h1, h2, h3⟩ := h
  refine ⟨c, h1, by omega, by rw [mkL_len]; exact Nat.le_refl _, hn, ?_⟩
  rw [mkL_len, Nat.mul_one]
  apply List.ext_getElem?
  intro i
  rw [zflat]
  by_cases hi : i < n
  · rw [List.getElem?_take, if_pos hi, Array.getElem?_toList, h3 i hi]
    simp [mkL, hi]
  · rw [List.getElem?_take, if_neg hi]
    simp [mkL, hi]
where
  zflat {l : List Int} {j : Nat} : (l.flatMap encZ)[j]? = (l[j]?).map (Value.int .i64) := by
    induction l generalizing j with
    | nil => simp
    | cons x l ih =>
      rw [List.flatMap_cons]
      cases j with
      | zero => rfl
      | succ j => show (encZ x ++ l.flatMap encZ)[j + 1]? = _; rw [List.getElem?_append_right (by simp [encZ])]; simpa [encZ] using ih
theorem rowIs_of_make {w : World} {g base n : Nat} {t : TypeId} {z : Value} (h : w.ownsRow base t 1 (.slice (some ⟨g, 0, none⟩) n n) n (madeCells #[z] n).toList) : w.rowIs g t n (fun _ => z) := by
  rcases h.2 with ⟨h', _⟩ | ⟨g', cap', cur, h', hb, hg, hnc, hcm, hcs, htake⟩
  · simp at h'
  · simp only [Value.slice.injEq, Option.some.injEq, Addr.mk.injEq, and_true, true_and] at h'
    obtain ⟨rfl, rfl⟩ := h'
    rw [Nat.mul_one] at hcs htake
    refine ⟨cur, hg, hcs, fun i hi => ?_⟩
    have h1 := congrArg (fun l => l[i]?) htake
    simp only [List.getElem?_take, hi, if_true] at h1
    rw [← Array.getElem?_toList, h1]
    simp [madeCells, hi, Nat.mod_one]
/-- The grid of g with other levels. -/
def reL (g : Gr) (f : Nat → Int) : Gr := ⟨g.X, g.Y, g.S, g.C, g.R, mkL f g.L.length⟩
/-- The world of withLevels' loop: the result in b1, the grid in b2, its levels in q. -/
structure WlW (w wr : World) (g : Gr) (f : Nat → Int) (b1 b2 q k : Nat) : Prop where
  ext : Ext w wr
  ko : CellsAt wr b2 0 [.int .i64 g.X, .int .i64 g.Y, .int .i64 g.S, .int .i64 g.C, .int .i64 g.R, .slice (some ⟨q, 0, none⟩) g.L.length g.L.length]
  kr : CellsAt wr b1 0 [.int .i64 0, .int .i64 0, .int .i64 0, .int .i64 0, .int .i64 0, .slice none 0 0]
  fr : ∀ o, wr.frozen? ⟨b1, o, none⟩ = false
  row : wr.rowIs q 3 g.L.length (fun i => .int .i64 (if i < k then f i else 0))
  d0 : w.heap.size ≤ b1
  d1 : b1 < b2
  d2 : b2 < q
theorem WlW.step {w wr w' : World} {g : Gr} {f : Nat → Int} {b1 b2 q k : Nat} (h : WlW w wr g f b1 b2 q k) (hE : Ext wr w') : WlW w (w'.setCell ⟨q, k, none⟩ (.int .i64 (f k))) g f b1 b2 q (k + 1) := by
  have hs := h.row.lt
  have d0 := h.d0
  have d1 := h.d1
  have d2 := h.d2
  refine ⟨Ext.st (h.ext.tr hE) (by show w.heap.size ≤ q; omega) _, (h.ko.ext hE (by omega)).st (by simp; omega) _, (h.kr.ext hE (by omega)).st (by simp; omega) _, fun o => ?_, ?_, d0, d1, d2⟩
  · have := (hE.frz b1 o (by omega)).trans (h.fr o)
    simpa [go_sem] using this
  · refine ((h.row.of_block (hE.block _ hs)).set k _).congr fun i _ => ?_
    by_cases hik : i = k
    · subst hik; simp
    · rw [if_neg hik]
      by_cases h2 : i < k
      · rw [if_pos h2, if_pos (by omega)]
      · rw [if_neg h2, if_neg (by omega)]
theorem WlW.start {w W wm : World} {g : Gr} {f : Nat → Int} {b1 b2 : Nat} {A : Option Addr} {c : Nat} (hE : Ext w W) (hEm : Ext W wm) (ko : CellsAt W b2 0 [.int .i64 g.X, .int .i64 g.Y, .int .i64 g.S, .int .i64 g.C, .int .i64 g.R, .slice A g.L.length c])
    (kr : CellsAt W b1 0 [.int .i64 0, .int .i64 0, .int .i64 0, .int .i64 0, .int .i64 0, .slice none 0 0]) (fr : ∀ o, W.frozen? ⟨b1, o, none⟩ = false) (hR : wm.rowIs W.heap.size 3 g.L.length (fun _ => .int .i64 0)) (d0 : w.heap.size ≤ b1) (d1 : b1 < b2) (d2 : b2 < W.heap.size) :
    WlW w (wm.setCell ⟨b2, 5, none⟩ (.slice (some ⟨W.heap.size, 0, none⟩) g.L.length g.L.length)) g f b1 b2 W.heap.size 0 := by
  obtain ⟨o0, o1, o2, o3, o4, o5⟩ := (ko.ext hEm (by omega)).six
  refine ⟨Ext.st (hE.tr hEm) (by show w.heap.size ≤ b2; omega) _, cells_six ⟨?_, ?_, ?_, ?_, ?_, ?_⟩, (kr.ext hEm (by omega)).st (by simp; omega) _, fun o => ?_, ?_, d0, d1, d2⟩
  · simp [go_sem, o0]
  · simp [go_sem, o1]
  · simp [go_sem, o2]
  · simp [go_sem, o3]
  · simp [go_sem, o4]
  · simp [go_sem, o5]
  · have := (hEm.frz b1 o (by omega)).trans (fr o)
    simpa [go_sem] using this
  · refine (hR.setOther (by simp; omega) _).congr fun i _ => ?_
    rw [if_neg (by omega)]
end Go.Proofs.Ytgnakeemcccfjaa

/- Quays: the wedge for all cells, the cells that lie under it. The pure half. -/
import Derived.Test.YtgbkjioajmnjbaaGreatSqp
import Derived.Test.YtgbkjioajmnjbaaGreatSslo2
namespace Go.Proofs.YtgbkjioajmnjbaaGreat
open Go Go.RowKit Go.IntWalk

/-- The first k numbers of f, and then those of h. -/
def mxF (f h : Nat → Int) (k i : Nat) : Int := if i < k then f i else h i
def mxL (f h : Nat → Int) (n k : Nat) : List Int := mkI (mxF f h k) n
theorem mxL_len (f h : Nat → Int) (n k : Nat) : (mxL f h n k).length = n := mkI_len _ _
theorem mkI_congr {f f' : Nat → Int} {n : Nat} (h : ∀ i, i < n → f i = f' i) : mkI f n = mkI f' n := by
  unfold mkI
  apply List.map_congr_left
  intro i hi
  exact h i (List.mem_range.1 hi)
theorem mkI_set (f : Nat → Int) (n k : Nat) (v : Int) : (mkI f n).set k v = mkI (fun i => if i = k then v else f i) n := by
  apply List.ext_getElem (by simp [mkI])
  intro i h1 h2
  rw [List.getElem_set]
  simp only [mkI, List.getElem_map, List.getElem_range]
  by_cases h : k = i
  · rw [if_pos h, if_pos h.symm]
  · rw [if_neg h, if_neg (by omega)]
theorem mkI_of (L : List Int) : mkI (fun i => gi L i) L.length = L := gi_ext (by rw [mkI_len]) fun i hi => by rw [mkI_len] at hi; exact mkI_gi _ _ _ hi
theorem mxL_0 (f h : Nat → Int) (n : Nat) : mxL f h n 0 = mkI h n := mkI_congr fun i _ => by unfold mxF; rw [if_neg (Nat.not_lt_zero _)]
theorem mxL_end (f h : Nat → Int) (n : Nat) : mxL f h n n = mkI f n := mkI_congr fun i hi => by unfold mxF; rw [if_pos hi]
theorem mxL_gi (f h : Nat → Int) {n k : Nat} (hk : k < n) : gi (mxL f h n k) k = h k := by
  unfold mxL
  rw [mkI_gi _ _ _ hk]
  unfold mxF
  rw [if_neg (Nat.lt_irrefl _)]
theorem mxL_set (f h : Nat → Int) (n k : Nat) : (mxL f h n k).set k (f k) = mxL f h n (k + 1) := by
  unfold mxL
  rw [mkI_set]
  refine mkI_congr fun i _ => ?_
  unfold mxF
  by_cases e : i = k
  · subst e; rw [if_pos rfl, if_pos (Nat.lt_succ_self _)]
  · rw [if_neg e]
    by_cases h2 : i < k
    · rw [if_pos h2, if_pos (by omega)]
    · rw [if_neg h2, if_neg (by omega)]
/-- The wedge at a cell. -/
def wdC (q : Qu) (g : Gr) (cn i : Nat) : Int := wdV q ⟨ctX g cn i, ctY g cn i⟩
def wdL (q : Qu) (g : Gr) (cn : Nat) : List Int := mkI (wdC q g cn) g.L.length
/-- The known cells under the wedge. -/
def unB (f : Nat → Int) (L : List Int) (i : Nat) : Bool := knB L i && (f i != 30000 && decide (gi L i < f i))
def unK (f : Nat → Int) (L : List Int) (k : Nat) : List Nat := (List.range k).filter (unB f L)
theorem unK_yes {f : Nat → Int} {L : List Int} {k : Nat} (h : unB f L k = true) : unK f L (k + 1) = unK f L k ++ [k] := by simp [unK, List.range_succ, List.filter_append, h]
theorem unK_no {f : Nat → Int} {L : List Int} {k : Nat} (h : unB f L k = false) : unK f L (k + 1) = unK f L k := by simp [unK, List.range_succ, List.filter_append, h]
theorem unK_le (f : Nat → Int) (L : List Int) (k : Nat) : (unK f L k).length ≤ k := by
  have := List.length_filter_le (unB f L) (List.range k)
  simpa [unK] using this
theorem own_of_make {w : World} {g base n : Nat} {t : TypeId} (hn : n ≤ maxLen) (h : w.ownsRow base t 1 (.slice (some ⟨g, 0, none⟩) n n) n (madeCells #[.int .i64 0] n).toList) : OwnK t 1 encZ w g n (mkI (fun _ => 0) n) := by
  rcases h.2 with ⟨h', _⟩ | ⟨g', cap', cur, h', hb, hg, hnc, hcm, hcs, htake⟩
  · simp at h'
  · simp only [Value.slice.injEq, Option.some.injEq, Addr.mk.injEq, and_true, true_and] at h'
    obtain ⟨rfl, rfl⟩ := h'
    refine ⟨cur, hg, hcs, by rw [mkI_len]; exact Nat.le_refl _, hn, ?_⟩
    rw [mkI_len, htake]
    apply List.ext_getElem?
    intro i
    simp only [madeCells, mkI]
    rw [zfl]
    by_cases hi : i < n
    · simp [hi, Nat.mod_one]
    · simp [hi]
where
  zfl {l : List Int} {j : Nat} : (l.flatMap encZ)[j]? = (l[j]?).map (Value.int .i64) := by
    induction l generalizing j with
    | nil => simp
    | cons x l ih =>
      rw [List.flatMap_cons]
      cases j with
      | zero => rfl
      | succ j => show (encZ x ++ l.flatMap encZ)[j + 1]? = _; rw [List.getElem?_append_right (by simp [encZ])]; simpa [encZ] using ih
theorem wdC_lev {q : Qu} {g : Gr} {cn i : Nat} (h : quE q = 0) (vg : VG g) (hC : g.C = cn) (hi : i < g.L.length) : wdC q g cn i = 30000 ∨ (-20000 ≤ wdC q g cn i ∧ wdC q g cn i ≤ 20000) := wdV_lev h (ct_in vg hC hi)
end Go.Proofs.YtgbkjioajmnjbaaGreat

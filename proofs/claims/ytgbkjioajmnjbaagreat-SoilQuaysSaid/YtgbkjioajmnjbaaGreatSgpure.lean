/- Grounds: the error of one, what holds of one without error; the softest soil of a boring. Nothing of the program but its names. -/
import Derived.Test.YtgbkjioajmnjbaaGreatSname
import Derived.Test.YtgbkjioajmnjbaaGreatSlp
namespace Go.Proofs.YtgbkjioajmnjbaaGreat
open Go Go.RowKit Go.IntWalk

def soE (l : List So) (k : Nat) : Int := namedE (fun k => !nameB (el l k).s) (fun k => (el l k).s) (fun k => numE (el l k)) k
def chkSoils (l : List So) : Int := if cntE l.length 8 ≠ 0 then cntE l.length 8 else firstE (soE l) l.length
def bosE (soils : List So) (l : List Bo) (k : Nat) : Int := namedE (fun k => !nameB (el l k).s) (fun k => (el l k).s) (fun k => boE soils (el l k)) k
def chkBos (soils : List So) (l : List Bo) : Int := if cntE l.length 20 ≠ 0 then cntE l.length 20 else firstE (bosE soils l) l.length
def chkGr (soils : List So) (l : List Bo) : Int := if chkSoils soils ≠ 0 then chkSoils soils else chkBos soils l
theorem namedE_zero {bad : Nat → Bool} {nm : Nat → ByteArray} {ck : Nat → Int} {k : Nat} (h : namedE bad nm ck k = 0) : bad k = false ∧ dupAt nm k = false ∧ ck k = 0 := by
  unfold namedE at h
  by_cases h1 : bad k = true
  · rw [if_pos h1] at h; cases h
  rw [if_neg h1] at h
  by_cases h2 : dupAt nm k = true
  · rw [if_pos h2] at h; cases h
  rw [if_neg h2] at h
  exact ⟨by simpa using h1, by simpa using h2, h⟩
/-- A valid ground. -/
structure VS (l : List So) : Prop where
  pos : 0 < l.length
  le : l.length ≤ 8
  nm : ∀ k, k < l.length → nameB (el l k).s = true
  one : ∀ j k, j < k → k < l.length → sameS (el l j).s (el l k).s = false
  num : ∀ k, k < l.length → numB (el l k) = true
structure VB (soils : List So) (b : Bo) : Prop where
  pl : plB b.x b.y = true
  pos : 0 < b.l.length
  le : b.l.length ≤ 12
  lv : ∀ k, k < b.l.length → lvB (el b.l k).t = true
  desc : ∀ k, 0 < k → k < b.l.length → (el b.l k).t < (el b.l (k - 1)).t
  has : ∀ k, k < b.l.length → hasSoil soils (el b.l k).s = true
structure VGd (soils : List So) (l : List Bo) : Prop where
  s : VS soils
  pos : 0 < l.length
  le : l.length ≤ 20
  b : ∀ k, k < l.length → VB soils (el l k)
theorem chkSoils_ok {l : List So} (h : chkSoils l = 0) : VS l := by
  unfold chkSoils at h
  by_cases h1 : cntE l.length 8 = 0
  · rw [if_neg (by omega)] at h
    obtain ⟨c1, c2⟩ := cntE_zero h1
    have hk := fun k hk => namedE_zero (firstE_zero _ h k hk)
    refine ⟨c1, by omega, fun k h2 => by simpa using (hk k h2).1, fun j k hj h2 => (anyN_no _ _).1 (hk k h2).2.1 j hj, fun k h2 => ?_⟩
    have := (hk k h2).2.2
    unfold numE at this
    by_cases h3 : numB (el l k) = true
    · exact h3
    · rw [if_neg h3] at this; cases this
  · rw [if_pos h1] at h; exact absurd h h1
theorem boE_ok {soils : List So} {b : Bo} (h : boE soils b = 0) : VB soils b := by
  unfold boE at h
  by_cases h1 : plB b.x b.y = false
  · rw [if_pos h1] at h; cases h
  rw [if_neg h1] at h
  by_cases h2 : cntE b.l.length 12 = 0
  · rw [if_neg (by omega)] at h
    obtain ⟨c1, c2⟩ := cntE_zero h2
    have hk := firstE_zero _ h
    have key : ∀ k, k < b.l.length → lvB (el b.l k).t = true ∧ ¬ (0 < k ∧ (el b.l (k - 1)).t ≤ (el b.l k).t) ∧ hasSoil soils (el b.l k).s = true := by
      intro k h3
      have h4 := hk k h3
      unfold laE at h4
      by_cases h5 : lvB (el b.l k).t = false
      · rw [if_pos h5] at h4; cases h4
      rw [if_neg h5] at h4
      by_cases h6 : 0 < k ∧ (el b.l (k - 1)).t ≤ (el b.l k).t
      · rw [if_pos h6] at h4; cases h4
      rw [if_neg h6] at h4
      by_cases h7 : hasSoil soils (el b.l k).s = false
      · rw [if_pos h7] at h4; cases h4
      exact ⟨by simpa using h5, h6, by simpa using h7⟩
    exact ⟨by simpa using h1, c1, by omega, fun k h3 => (key k h3).1, fun k h3 h4 => by have := (key k h4).2.1; omega, fun k h3 => (key k h3).2.2⟩
  · rw [if_pos h2] at h; exact absurd h h2
theorem chkGr_ok {soils : List So} {l : List Bo} (h : chkGr soils l = 0) : VGd soils l := by
  unfold chkGr at h
  by_cases h1 : chkSoils soils = 0
  · rw [if_neg (by omega)] at h
    unfold chkBos at h
    by_cases h2 : cntE l.length 20 = 0
    · rw [if_neg (by omega)] at h
      obtain ⟨c1, c2⟩ := cntE_zero h2
      exact ⟨chkSoils_ok h1, c1, by omega, fun k hk => boE_ok (namedE_zero (firstE_zero _ h k hk)).2.2⟩
    · rw [if_pos h2] at h; exact absurd h h2
  · rw [if_pos h1] at h; exact absurd h h1

/-- A layer has a soil's name. -/
def hasLa (l : List La) (s : ByteArray) : Bool := anyN (fun j => sameS (el l j).s s) l.length
/-- The greatest run of the first soils that are in layers. -/
def softN (soils : List So) (l : List La) : Nat → Int
  | 0 => 0
  | k + 1 => if hasLa l (el soils k).s = true then max (softN soils l k) (el soils k).run else softN soils l k
theorem softN_mono (soils : List So) (l : List La) (k : Nat) : softN soils l k ≤ softN soils l (k + 1) := by
  rw [softN]; split <;> omega
theorem softN_nonneg (soils : List So) (l : List La) : ∀ k, 0 ≤ softN soils l k
  | 0 => Int.le_refl _
  | k + 1 => Int.le_trans (softN_nonneg soils l k) (softN_mono soils l k)
theorem softN_le_of {soils : List So} (h : VS soils) (l : List La) : ∀ k, k ≤ soils.length → softN soils l k ≤ 1000
  | 0, _ => by simp [softN]
  | k + 1, hk => by
    have h1 := softN_le_of h l k (by omega)
    have h2 := (numB_iff _).1 (h.num k (by omega))
    rw [softN]; split <;> omega
theorem softN_ge {soils : List So} (l : List La) : ∀ (n : Nat) (k : Nat), k < n → hasLa l (el soils k).s = true → (el soils k).run ≤ softN soils l n
  | 0, _, hk, _ => absurd hk (Nat.not_lt_zero _)
  | n + 1, k, hk, h => by
    by_cases hn : k = n
    · subst hn; rw [softN, if_pos h]; omega
    · exact Int.le_trans (softN_ge l n k (by omega) h) (softN_mono soils l n)
theorem softN_pos {soils : List So} (h : VS soils) {b : Bo} (hb : VB soils b) : 1 ≤ softN soils b.l soils.length ∧ softN soils b.l soils.length ≤ 1000 := by
  refine ⟨?_, softN_le_of h _ _ (Nat.le_refl _)⟩
  have h1 := hb.has 0 hb.pos
  obtain ⟨k, hk, hs⟩ := (anyN_iff _ _).1 h1
  have h2 : hasLa b.l (el soils k).s = true := anyN_at _ hb.pos (by rw [sameS_comm]; exact hs)
  have h3 := softN_ge b.l soils.length k hk h2
  have h4 := (numB_iff _).1 (h.num k hk)
  omega
/-- The squared distance of boring k and a place. -/
def dst (l : List Bo) (x y : Int) (k : Nat) : Int := dotZ ⟨(el l k).x, (el l k).y⟩ ⟨x, y⟩ ⟨x, y⟩
def nearB (l : List Bo) (x y : Int) : Nat := nearN (dst l x y) l.length
theorem nearB_lt {soils : List So} {l : List Bo} (h : VGd soils l) (x y : Int) : nearB l x y < l.length := nearN_lt _ _ h.pos
/-- The run of the softest soil at a place. -/
def runB (soils : List So) (l : List Bo) (x y : Int) : Int := softN soils (el l (nearB l x y)).l soils.length
theorem runB_pos {soils : List So} {l : List Bo} (h : VGd soils l) (x y : Int) : 1 ≤ runB soils l x y ∧ runB soils l x y ≤ 1000 := softN_pos h.s (h.b _ (nearB_lt h x y))
/-- What is allowed between two cells. -/
def alw (S : Int) (r : List Int) (a b : Nat) : Int := 10 * S / max (gi r a) (gi r b)
theorem alw_pos {S : Int} {r : List Int} {a b : Nat} (hs : 100 ≤ S ∧ S ≤ 10000) (ha : 1 ≤ gi r a ∧ gi r a ≤ 1000) (hb : 1 ≤ gi r b ∧ gi r b ≤ 1000) : 1 ≤ alw S r a b ∧ alw S r a b ≤ 100000 := by
  unfold alw
  have h1 : 1 ≤ max (gi r a) (gi r b) ∧ max (gi r a) (gi r b) ≤ 1000 := by omega
  generalize max (gi r a) (gi r b) = m at *
  refine ⟨?_, ?_⟩
  · rw [Int.le_ediv_iff_mul_le (by omega)]; omega
  · refine Int.ediv_le_of_le_mul (by omega) ?_
    have : 100000 * 1 ≤ 100000 * m := Int.mul_le_mul_of_nonneg_left (by omega) (by omega)
    omega
theorem alw_comm (S : Int) (r : List Int) (a b : Nat) : alw S r a b = alw S r b a := by unfold alw; rw [show max (gi r a) (gi r b) = max (gi r b) (gi r a) by omega]
end Go.Proofs.YtgbkjioajmnjbaaGreat

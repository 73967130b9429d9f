/- Grids as numbers and lists: what is wrong with one, its cells, their neighbours. -/
import Derived.Test.YtgbkjioajmnjbaaGreatPure6
namespace Go.Proofs.YtgbkjioajmnjbaaGreat
open Go

structure Gr where
  X : Int
  Y : Int
  S : Int
  C : Int
  R : Int
  L : List Int

def gi (l : List Int) (i : Nat) : Int := l.getD i 0
theorem gi_lt (l : List Int) (i : Nat) (h : i < l.length) : gi l i = l[i] := by simp [gi, List.getD, h]
def lvB (n : Int) : Bool := withinB n (-20000) 20000
def plB (x y : Int) : Bool := withinB x (-1000000) 1000000 && withinB y (-1000000) 1000000
def badL (l : List Int) (i : Nat) : Bool := decide (gi l i ≠ 30000) && !lvB (gi l i)
def headB (g : Gr) : Bool := plB g.X g.Y && (withinB g.S 100 10000 && (withinB g.C 1 1024 && withinB g.R 1 1024))
def chkG (g : Gr) : Int :=
  if headB g = false then 2 else if 1024 < g.C * g.R then 8 else if 1000000 < g.X + g.C * g.S ∨ 1000000 < g.Y + g.R * g.S then 2
  else if (g.L.length : Int) ≠ g.C * g.R then 10 else if anyN (badL g.L) g.L.length = true then 2 else 0
theorem headB_iff (g : Gr) : headB g = true ↔ (((-1000000 ≤ g.X ∧ g.X ≤ 1000000) ∧ (-1000000 ≤ g.Y ∧ g.Y ≤ 1000000)) ∧ (100 ≤ g.S ∧ g.S ≤ 10000) ∧ (1 ≤ g.C ∧ g.C ≤ 1024) ∧ (1 ≤ g.R ∧ g.R ≤ 1024)) := by
  simp [headB, plB, withinB]

/-- A valid grid. -/
structure VG (g : Gr) : Prop where
  hx : -1000000 ≤ g.X ∧ g.X ≤ 1000000
  hy : -1000000 ≤ g.Y ∧ g.Y ≤ 1000000
  hs : 100 ≤ g.S ∧ g.S ≤ 10000
  hc : 1 ≤ g.C ∧ g.C ≤ 1024
  hr : 1 ≤ g.R ∧ g.R ≤ 1024
  hn : g.C * g.R ≤ 1024
  hxe : g.X + g.C * g.S ≤ 1000000
  hye : g.Y + g.R * g.S ≤ 1000000
  len : (g.L.length : Int) = g.C * g.R
  lev : ∀ i, i < g.L.length → gi g.L i = 30000 ∨ (-20000 ≤ gi g.L i ∧ gi g.L i ≤ 20000)
theorem badL_no {l : List Int} {i : Nat} : badL l i = false ↔ gi l i = 30000 ∨ (-20000 ≤ gi l i ∧ gi l i ≤ 20000) := by
  unfold badL lvB withinB
  by_cases h : gi l i = 30000
  · simp [h]
  · simp [h]
theorem chkG_ok {g : Gr} (h : chkG g = 0) : VG g := by
  unfold chkG at h
  by_cases h1 : headB g = false
  · rw [if_pos h1] at h; cases h
  rw [if_neg h1] at h
  have h1 : headB g = true := by simpa using h1
  obtain ⟨⟨a1, a2⟩, a3, a4, a5⟩ := (headB_iff g).1 h1
  by_cases h2 : 1024 < g.C * g.R
  · rw [if_pos h2] at h; cases h
  rw [if_neg h2] at h
  by_cases h3 : 1000000 < g.X + g.C * g.S ∨ 1000000 < g.Y + g.R * g.S
  · rw [if_pos h3] at h; cases h
  rw [if_neg h3] at h
  by_cases h4 : (g.L.length : Int) ≠ g.C * g.R
  · rw [if_pos h4] at h; cases h
  rw [if_neg h4] at h
  by_cases h5 : anyN (badL g.L) g.L.length = true
  · rw [if_pos h5] at h; cases h
  have h5 : anyN (badL g.L) g.L.length = false := by simpa using h5
  refine ⟨a1, a2, a3, a4, a5, by omega, by omega, by omega, by omega, fun i hi => ?_⟩
  exact badL_no.1 ((anyN_no _ _).1 h5 i hi)
theorem chkG_vals (g : Gr) : chkG g = 0 ∨ chkG g = 2 ∨ chkG g = 8 ∨ chkG g = 10 := by
  unfold chkG
  repeat' split
  all_goals simp
/-- Whether somebody has sounded a cell. -/
def knB (l : List Int) (i : Nat) : Bool := decide (gi l i ≠ 30000)
def sameB (g h : Gr) : Bool := decide (g.X = h.X) && (decide (g.Y = h.Y) && (decide (g.S = h.S) && (decide (g.C = h.C) && decide (g.R = h.R))))
def twoE (g h : Gr) : Int := if chkG g ≠ 0 then chkG g else if chkG h ≠ 0 then chkG h else if sameB g h = false then 10 else 0
theorem sameB_iff (g h : Gr) : sameB g h = true ↔ g.X = h.X ∧ g.Y = h.Y ∧ g.S = h.S ∧ g.C = h.C ∧ g.R = h.R := by simp [sameB]
theorem twoE_ok {g h : Gr} (k : twoE g h = 0) : VG g ∧ VG h ∧ (g.X = h.X ∧ g.Y = h.Y ∧ g.S = h.S ∧ g.C = h.C ∧ g.R = h.R) ∧ g.L.length = h.L.length := by
  unfold twoE at k
  by_cases h1 : chkG g ≠ 0
  · rw [if_pos h1] at k; exact absurd k h1
  rw [if_neg h1] at k
  by_cases h2 : chkG h ≠ 0
  · rw [if_pos h2] at k; exact absurd k h2
  rw [if_neg h2] at k
  by_cases h3 : sameB g h = false
  · rw [if_pos h3] at k; cases k
  have v1 := chkG_ok (by omega : chkG g = 0)
  have v2 := chkG_ok (by omega : chkG h = 0)
  have h3 : sameB g h = true := by simpa using h3
  have h3 := (sameB_iff g h).1 h3
  refine ⟨v1, v2, h3, ?_⟩
  have e1 := v1.len
  have e2 := v2.len
  rw [h3.2.2.2.1, h3.2.2.2.2, ← e2] at e1
  omega
/-- The cells of a grid, as natural numbers. -/
theorem VG.nat {g : Gr} (v : VG g) : ∃ c r : Nat, g.C = c ∧ g.R = r ∧ 1 ≤ c ∧ c ≤ 1024 ∧ 1 ≤ r ∧ r ≤ 1024 ∧ g.L.length = c * r ∧ c * r ≤ 1024 := by
  obtain ⟨c, hc⟩ : ∃ c : Nat, g.C = c := ⟨g.C.toNat, by have := v.hc.1; omega⟩
  obtain ⟨r, hr⟩ : ∃ r : Nat, g.R = r := ⟨g.R.toNat, by have := v.hr.1; omega⟩
  have h1 := v.hc
  have h2 := v.hr
  have h3 := v.len
  have h4 := v.hn
  rw [hc, hr] at h3 h4
  have h5 : ((c : Int) * (r : Int)) = ((c * r : Nat) : Int) := by simp
  rw [h5] at h3 h4
  exact ⟨c, r, hc, hr, by omega, by omega, by omega, by omega, by omega, by omega⟩

/-- The neighbours of a cell in a grid of c columns and r rows. -/
def nbr (c r i : Nat) : List Nat :=
  (if 0 < i / c then [i - c] else []) ++ ((if 0 < i % c then [i - 1] else []) ++ ((if i % c + 1 < c then [i + 1] else []) ++ (if i / c + 1 < r then [i + c] else [])))
/-- Cells are neighbours: the reference's way to say it. -/
def nbB (c i k : Nat) : Bool := decide (((i % c : Nat) - (k % c : Nat) : Int).natAbs + ((i / c : Nat) - (k / c : Nat) : Int).natAbs = 1)
theorem nbr_mem {c r i : Nat} (hc : 0 < c) (hi : i < c * r) (k : Nat) : k ∈ nbr c r i ↔ (k < c * r ∧ nbB c i k = true) := by
  have d1 := Nat.div_add_mod i c
  have d2 := Nat.div_add_mod k c
  have m1 := Nat.mod_lt i hc
  have m2 := Nat.mod_lt k hc
  have q1 : i / c < r := by rw [Nat.div_lt_iff_lt_mul hc, Nat.mul_comm]; exact hi
  have key : ∀ a b : Nat, a < c → c * b + a = k → k % c = a ∧ k / c = b := by
    intro a b ha hk
    subst hk
    exact ⟨by rw [Nat.mul_add_mod]; exact Nat.mod_eq_of_lt ha, by rw [Nat.mul_add_div hc, Nat.div_eq_of_lt ha]; rfl⟩
  unfold nbr nbB
  simp only [List.mem_append, decide_eq_true_eq]
  constructor
  · intro h
    rcases h with h | h | h | h
    · split at h
      · simp at h
        obtain ⟨q, hq⟩ : ∃ q, i / c = q + 1 := ⟨i / c - 1, by omega⟩
        rw [hq] at d1 q1
        rw [Nat.mul_succ] at d1
        obtain ⟨e1, e2⟩ := key (i % c) q m1 (by omega)
        rw [e1, e2, hq]
        exact ⟨by omega, by omega⟩
      · simp at h
    · split at h
      · simp at h
        obtain ⟨e1, e2⟩ := key (i % c - 1) (i / c) (by omega) (by omega)
        rw [e1, e2]
        exact ⟨by omega, by omega⟩
      · simp at h
    · split at h
      · simp at h
        obtain ⟨e1, e2⟩ := key (i % c + 1) (i / c) (by omega) (by omega)
        rw [e1, e2]
        refine ⟨?_, by omega⟩
        have : c * (i / c + 1) ≤ c * r := Nat.mul_le_mul_left c (by omega)
        rw [Nat.mul_succ] at this
        omega
      · simp at h
    · split at h
      · simp at h
        obtain ⟨e1, e2⟩ := key (i % c) (i / c + 1) m1 (by rw [Nat.mul_succ]; omega)
        rw [e1, e2]
        refine ⟨?_, by omega⟩
        have : c * (i / c + 1 + 1) ≤ c * r := Nat.mul_le_mul_left c (by omega)
        rw [Nat.mul_succ, Nat.mul_succ] at this
        omega
      · simp at h
  · rintro ⟨hk, h⟩
    have q2 : k / c < r := by rw [Nat.div_lt_iff_lt_mul hc, Nat.mul_comm]; exact hk
    clear key
    generalize k / c = kq at *
    generalize k % c = km at *
    generalize i / c = iq at *
    generalize i % c = im at *
    rcases (by omega : (kq + 1 = iq ∧ km = im) ∨ (kq = iq ∧ km + 1 = im) ∨ (kq = iq ∧ km = im + 1) ∨ (kq = iq + 1 ∧ km = im)) with ⟨e1, e2⟩ | ⟨e1, e2⟩ | ⟨e1, e2⟩ | ⟨e1, e2⟩
    · left
      rw [if_pos (by omega)]
      rw [← e1, Nat.mul_succ] at d1
      simp; omega
    · right; left
      rw [if_pos (by omega)]
      rw [e1] at d2
      simp; omega
    · right; right; left
      rw [if_pos (by omega)]
      rw [e1] at d2
      simp; omega
    · right; right; right
      rw [if_pos (by omega)]
      rw [e1, Nat.mul_succ] at d2
      simp; omega
theorem nbB_symm (c i k : Nat) : nbB c i k = nbB c k i := by unfold nbB; rw [Bool.eq_iff_iff]; simp only [decide_eq_true_eq]; omega
theorem nbB_irr (c i : Nat) : nbB c i i = false := by unfold nbB; simp
theorem nbr_lt {c r i : Nat} (hc : 0 < c) (hi : i < c * r) {k : Nat} (h : k ∈ nbr c r i) : k < c * r := ((nbr_mem hc hi k).1 h).1
theorem nbr_len (c r i : Nat) : (nbr c r i).length ≤ 4 := by
  unfold nbr
  simp only [List.length_append]
  have : ∀ (p : Prop) [Decidable p] (x : Nat), (if p then [x] else []).length ≤ 1 := by intro p _ x; split <;> simp
  have h1 := this (0 < i / c) (i - c)
  have h2 := this (0 < i % c) (i - 1)
  have h3 := this (i % c + 1 < c) (i + 1)
  have h4 := this (i / c + 1 < r) (i + c)
  omega
theorem nbr_asc {c r i : Nat} (hc : 0 < c) : (nbr c r i).Pairwise (· < ·) := by
  have d1 := Nat.div_add_mod i c
  have m1 := Nat.mod_lt i hc
  have hle : 0 < i / c → c ≤ i := by
    intro h
    have : c * 1 ≤ c * (i / c) := Nat.mul_le_mul_left c h
    omega
  unfold nbr
  split <;> split <;> split <;> split <;> simp <;> omega
end Go.Proofs.YtgbkjioajmnjbaaGreat

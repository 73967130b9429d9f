/- Soils, borings, grounds as lists: what is wrong with them, the boring of a place, the soil at a level, columns. -/
import Derived.Test.YtohdplnlbnoojaaBpure
import Derived.Laws.Strings
namespace Go.Proofs.Ytohdplnlbnoojaa
open Go

/-- The first error among f 0 .. f (n - 1), or 0. -/
def firstE (f : Nat → Int) : Nat → Int
  | 0 => 0
  | n + 1 => if firstE f n = 0 then f n else firstE f n
theorem firstE_at (f : Nat → Int) {k : Nat} (h0 : firstE f k = 0) (h : f k ≠ 0) : ∀ {n : Nat}, k < n → firstE f n = f k
  | 0, hk => absurd hk (Nat.not_lt_zero _)
  | n + 1, hk => by
    rw [firstE]
    by_cases hn : k = n
    · subst hn; rw [if_pos h0]
    · have := firstE_at f h0 h (n := n) (by omega)
      rw [if_neg (by rw [this]; exact h), this]
theorem firstE_step (f : Nat → Int) {k : Nat} (h0 : firstE f k = 0) (h : f k = 0) : firstE f (k + 1) = 0 := by rw [firstE, if_pos h0, h]
theorem firstE_zero (f : Nat → Int) : ∀ {n : Nat}, firstE f n = 0 → ∀ k, k < n → f k = 0
  | 0, _, k, hk => absurd hk (Nat.not_lt_zero _)
  | n + 1, h, k, hk => by
    rw [firstE] at h
    by_cases h1 : firstE f n = 0
    · rw [if_pos h1] at h
      by_cases hn : k = n
      · subst hn; exact h
      · exact firstE_zero f h1 k (by omega)
    · rw [if_neg h1] at h; exact absurd h h1
theorem firstE_all (f : Nat → Int) : ∀ {n : Nat}, (∀ k, k < n → f k = 0) → firstE f n = 0
  | 0, _ => rfl
  | n + 1, h => firstE_step f (firstE_all f fun k hk => h k (by omega)) (h n (by omega))
theorem firstE_congr {f g : Nat → Int} : ∀ (n : Nat), (∀ k, k < n → f k = g k) → firstE f n = firstE g n
  | 0, _ => rfl
  | n + 1, h => by rw [firstE, firstE, firstE_congr n (fun k hk => h k (by omega)), h n (by omega)]

/-- Two texts are the same. -/
def sameS (a b : ByteArray) : Bool := a.toList == b.toList
theorem sameS_iff (a b : ByteArray) : sameS a b = true ↔ a = b := by
  unfold sameS
  rw [beq_iff_eq, ByteArray.toList_eq, ByteArray.toList_eq]
  constructor
  · intro h
    cases a; cases b
    simp only at h
    rw [Array.toList_inj.1 h]
  · rintro rfl; rfl
theorem sameS_comm (a b : ByteArray) : sameS a b = sameS b a := by rw [Bool.eq_iff_iff, sameS_iff, sameS_iff]; exact eq_comm
theorem sameS_self (a : ByteArray) : sameS a a = true := (sameS_iff a a).2 rfl
theorem sameS_lit (a b : ByteArray) : sameS a b = decide (a.data.toList = b.data.toList) := by
  rw [Bool.eq_iff_iff, decide_eq_true_eq]
  unfold sameS
  rw [beq_iff_eq, ByteArray.toList_eq, ByteArray.toList_eq]

structure So where
  s : ByteArray
  run : Int
  den : Int
  num : Int
  dn : Int
structure La where
  t : Int
  s : ByteArray
structure Bo where
  s : ByteArray
  x : Int
  y : Int
  l : List La
  A : Option Addr
  c : Nat
instance : Inhabited So := ⟨⟨⟨#[]⟩, 0, 0, 0, 0⟩⟩
instance : Inhabited La := ⟨⟨0, ⟨#[]⟩⟩⟩
instance : Inhabited Bo := ⟨⟨⟨#[]⟩, 0, 0, [], none, 0⟩⟩
/-- The element of a list. -/
def el {α : Type} [Inhabited α] (l : List α) (k : Nat) : α := l.getD k default
theorem el_lt {α : Type} [Inhabited α] (l : List α) (k : Nat) (h : k < l.length) : el l k = l[k] := by simp [el, List.getD, h]

/-- An earlier element has the name of element k. -/
def dupAt (nm : Nat → ByteArray) (k : Nat) : Bool := anyN (fun j => sameS (nm j) (nm k)) k
/-- What is wrong with element k of a list whose elements have names. -/
def namedE (bad : Nat → Bool) (nm : Nat → ByteArray) (ck : Nat → Int) (k : Nat) : Int := if bad k = true then 4 else if dupAt nm k = true then 5 else ck k
def numB (s : So) : Bool := withinB s.run 1 1000 && (withinB s.den 1 5000 && (withinB s.num 1 1000 && (withinB s.dn 1 1000 && decide (s.dn ≤ s.num))))
def numE (s : So) : Int := if numB s = true then 0 else 2
theorem numB_iff (s : So) : numB s = true ↔ (1 ≤ s.run ∧ s.run ≤ 1000) ∧ (1 ≤ s.den ∧ s.den ≤ 5000) ∧ (1 ≤ s.num ∧ s.num ≤ 1000) ∧ (1 ≤ s.dn ∧ s.dn ≤ 1000) ∧ s.dn ≤ s.num := by simp [numB, withinB]
/-- The error of a number of elements. -/
def cntE (n : Nat) (most : Int) : Int := if n = 0 then 10 else if most < (n : Int) then 8 else 0
theorem cntE_zero {n : Nat} {most : Int} (h : cntE n most = 0) : 0 < n ∧ (n : Int) ≤ most := by
  unfold cntE at h
  split at h
  · cases h
  · split at h
    · cases h
    · omega
/-- There is a soil with a name. -/
def hasSoil (soils : List So) (s : ByteArray) : Bool := anyN (fun j => sameS (el soils j).s s) soils.length
def laE (soils : List So) (l : List La) (k : Nat) : Int :=
  if lvB (el l k).t = false then 2 else if 0 < k ∧ (el l (k - 1)).t ≤ (el l k).t then 9 else if hasSoil soils (el l k).s = false then 6 else 0
def boE (soils : List So) (b : Bo) : Int := if plB b.x b.y = false then 2 else if cntE b.l.length 12 ≠ 0 then cntE b.l.length 12 else firstE (laE soils b.l) b.l.length

/-- The number of the first one of the least. -/
def nearN (d : Nat → Int) : Nat → Nat
  | 0 => 0
  | k + 1 => if d k < d (nearN d k) then k else nearN d k
theorem nearN_lt (d : Nat → Int) : ∀ (n : Nat), 0 < n → nearN d n < n
  | 0, h => absurd h (Nat.lt_irrefl _)
  | k + 1, _ => by
    rw [nearN]
    split
    · omega
    · cases k with
      | zero => simp [nearN]
      | succ k => have := nearN_lt d (k + 1) (by omega); omega
theorem nearN_le (d : Nat → Int) : ∀ (n : Nat), nearN d n ≤ n
  | 0 => Nat.le_refl _
  | k + 1 => by
    rw [nearN]
    split
    · omega
    · have := nearN_le d k; omega
theorem nearN_congr {d f : Nat → Int} {m : Nat} (h : ∀ k, k < m → d k = f k) (hm : 0 < m) : ∀ (n : Nat), n ≤ m → nearN d n = nearN f n
  | 0, _ => rfl
  | k + 1, hk => by
    have := nearN_congr h hm k (by omega)
    rw [nearN, nearN, this, h k (by omega), h (nearN f k) (by have := nearN_le f k; omega)]
/-- The number of the layer of a level. -/
def layN (l : List La) (z : Int) : Nat → Nat
  | 0 => 0
  | k + 1 => if z ≤ (el l k).t then k else layN l z k
theorem layN_lt (l : List La) (z : Int) : ∀ (n : Nat), 0 < n → layN l z n < n
  | 0, h => absurd h (Nat.lt_irrefl _)
  | k + 1, _ => by
    rw [layN]
    split
    · omega
    · cases k with
      | zero => simp [layN]
      | succ k => have := layN_lt l z (k + 1) (by omega); omega
end Go.Proofs.Ytohdplnlbnoojaa

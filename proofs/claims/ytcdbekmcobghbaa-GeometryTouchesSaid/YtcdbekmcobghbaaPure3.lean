/- Plain mathematics: the list of the triangles of a patch. -/
import Derived.Test.YtcdbekmcobghbaaPure2
namespace Go.Proofs.Ytcdbekmcobghbaa
open Go Go.RowKit Go.IntWalk

abbrev T3 := Nat × Nat × Nat
def tst (l : List Pt) (a b c : Nat) : Bool := decide (a < min b c) && isTri l (l[a]!, l[b]!, l[c]!)
def upC (l : List Pt) (a b c : Nat) : List T3 := (List.range c).flatMap fun c => if tst l a b c then [(a, b, c)] else []
def upB (l : List Pt) (a b : Nat) : List T3 := (List.range b).flatMap fun b => upC l a b l.length
def upA (l : List Pt) (a : Nat) : List T3 := (List.range a).flatMap fun a => upB l a l.length
def trisL (l : List Pt) : List T3 := upA l l.length
theorem upC_succ (l : List Pt) (a b c : Nat) : upC l a b (c + 1) = upC l a b c ++ if tst l a b c then [(a, b, c)] else [] := by
  unfold upC; rw [List.range_succ, List.flatMap_append]; simp
theorem upB_succ (l : List Pt) (a b : Nat) : upB l a (b + 1) = upB l a b ++ upC l a b l.length := by
  unfold upB; rw [List.range_succ, List.flatMap_append]; simp
theorem upA_succ (l : List Pt) (a : Nat) : upA l (a + 1) = upA l a ++ upB l a l.length := by
  unfold upA; rw [List.range_succ, List.flatMap_append]; simp
theorem upC_len (l : List Pt) (a b c : Nat) : (upC l a b c).length ≤ c := by
  induction c with
  | zero => simp [upC]
  | succ c ih => rw [upC_succ, List.length_append]; split <;> simp <;> omega
theorem upB_len (l : List Pt) (a b : Nat) : (upB l a b).length ≤ b * l.length := by
  induction b with
  | zero => simp [upB]
  | succ b ih => rw [upB_succ, List.length_append, Nat.succ_mul]; have := upC_len l a b l.length; omega
theorem upA_len (l : List Pt) (a : Nat) : (upA l a).length ≤ a * (l.length * l.length) := by
  induction a with
  | zero => simp [upA]
  | succ a ih => rw [upA_succ, List.length_append, Nat.succ_mul]; have := upB_len l a l.length; omega
theorem up_len (l : List Pt) (a b c : Nat) (h : l.length ≤ 64) (ha : a ≤ l.length) (hb : b ≤ l.length) (hc : c ≤ l.length) : (upA l a ++ upB l a b ++ upC l a b c).length ≤ 300000 := by
  have h1 := upA_len l a
  have h2 := upB_len l a b
  have h3 := upC_len l a b c
  have h4 : l.length * l.length ≤ 64 * 64 := Nat.mul_le_mul h h
  have h5 : a * (l.length * l.length) ≤ 64 * (64 * 64) := Nat.mul_le_mul (by omega) h4
  have h6 : b * l.length ≤ 64 * 64 := Nat.mul_le_mul (by omega) h
  simp only [List.length_append]
  omega
end Go.Proofs.Ytcdbekmcobghbaa

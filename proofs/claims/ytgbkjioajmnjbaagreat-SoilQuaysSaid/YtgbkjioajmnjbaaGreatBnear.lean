/- The contract of neighbours. -/
import Derived.Test.YtgbkjioajmnjbaaGreatBcopy
import Derived.Deep.DeepCutAuto
namespace Go.Proofs.YtgbkjioajmnjbaaGreat
open Go Go.RowKit Go.IntWalk

def zl (l : List Nat) : List Int := l.map (fun k : Nat => (k : Int))
theorem zl_len (l : List Nat) : (zl l).length = l.length := by simp [zl]
theorem zl_app (l m : List Nat) : zl (l ++ m) = zl l ++ zl m := by simp [zl]
theorem zl_flat (l : List Nat) (x : Nat) : (zl (l ++ [x])).flatMap encZ = (zl l).flatMap encZ ++ [.int .i64 (x : Int)] := by simp [zl, encZ]
theorem zl_flat_len (l : List Nat) : ((zl l).flatMap encZ).length = l.length := by rw [flat_lenK encZ_len, zl_len]; omega
/-- One number is put behind a row of the call's own. -/
theorem own_put {w : World} {base : Nat} {v : Value} {l : List Nat} {x : Nat} (h : w.ownsRow base 3 1 v (l.length + 1) ((zl l).flatMap encZ ++ [.int .i64 (x : Int)])) : w.ownsRow base 3 1 v (l ++ [x]).length ((zl (l ++ [x])).flatMap encZ) := by
  rw [zl_flat]; simpa using h
def nb1 (c i : Nat) : List Nat := if 0 < i / c then [i - c] else []
def nb2 (c i : Nat) : List Nat := nb1 c i ++ (if 0 < i % c then [i - 1] else [])
def nb3 (c i : Nat) : List Nat := nb2 c i ++ (if i % c + 1 < c then [i + 1] else [])
theorem nbr_nb3 (c r i : Nat) : nbr c r i = nb3 c i ++ (if i / c + 1 < r then [i + c] else []) := by unfold nbr nb3 nb2 nb1; simp
theorem iff1_len (p : Prop) [Decidable p] (x : Nat) : (if p then [x] else []).length ≤ 1 := by split <;> simp
theorem nb1_len (c i : Nat) : (nb1 c i).length ≤ 1 := iff1_len _ _
theorem nb2_len (c i : Nat) : (nb2 c i).length ≤ 2 := by unfold nb2; rw [List.length_append]; have := nb1_len c i; have := iff1_len (0 < i % c) (i - 1); omega
theorem nb3_len (c i : Nat) : (nb3 c i).length ≤ 3 := by unfold nb3; rw [List.length_append]; have := nb2_len c i; have := iff1_len (i % c + 1 < c) (i + 1); omega
def nbL1 (d i cn : Nat) : List Nat := if 0 < d then [i - cn] else []
def nbL2 (d m i cn : Nat) : List Nat := nbL1 d i cn ++ (if 0 < m then [i - 1] else [])
def nbL3 (d m i cn : Nat) : List Nat := nbL2 d m i cn ++ (if m + 1 < cn then [i + 1] else [])
def nbL4 (d m i cn rn : Nat) : List Nat := nbL3 d m i cn ++ (if d + 1 < rn then [i + cn] else [])
end Go.Proofs.YtgbkjioajmnjbaaGreat

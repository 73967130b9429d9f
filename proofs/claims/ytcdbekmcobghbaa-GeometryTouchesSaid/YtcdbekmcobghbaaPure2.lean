/- Plain mathematics of circles and triangles: nothing of the program. -/
import Derived.Test.YtcdbekmcobghbaaPure
namespace Go.Proofs.Ytcdbekmcobghbaa
open Go Go.RowKit Go.IntWalk

/-! ### Circles and triangles -/
def cmpPt (a b : Pt) : Int := if cmpI a.x b.x = 0 then cmpI a.y b.y else cmpI a.x b.x
def closeTo (a b : Pt) : Bool := withinB (wrap64 (a.x - b.x)) (-20000) 20000 && withinB (wrap64 (a.y - b.y)) (-20000) 20000
def closeB (l : List Pt) : Bool := l.all fun a => l.all fun b => closeTo a b
def sideTerm (p q r d : Pt) : Int := wrap64 (dotW p d d * crossW d q r)
def sideSum (a b c d : Pt) : Int := wrap64 (wrap64 (wrap64 (sideTerm a b c d) + sideTerm b c a d) + sideTerm c a b d)
def sideP (a b c d : Pt) : Int := cmpI (sideSum a b c d) 0
abbrev Tri := Pt × Pt × Pt
def rot1 (t : Tri) : Tri := if decide (0 < cmpPt t.1 t.2.1) || decide (0 < cmpPt t.1 t.2.2) then (t.2.1, t.2.2, t.1) else t
def rotN : Nat → Tri → Tri
  | 0, t => t
  | n + 1, t => rot1 (rotN n t)
def fromFirst (t : Tri) : Tri := rotN 2 t
def allowsB (t : Tri) (p : Pt) : Bool := decide (cmpPt t.1 p ≤ 0) && decide (0 ≤ crossW t.2.1 t.2.2 p)
def refuses (t : Tri) (p : Pt) : Bool := decide (0 < sideP t.1 t.2.1 t.2.2 p) || (decide (sideP t.1 t.2.1 t.2.2 p = 0) && !allowsB t p)
def isTri (l : List Pt) (t : Tri) : Bool := decide (0 < crossW t.1 t.2.1 t.2.2) && l.all fun p => !refuses (fromFirst t) p

/-! ### Hulls -/
/-- The last points of a chain (the newest first) at which its way to p does not turn to the left are dropped. -/
def popW : List Pt → Pt → List Pt
  | b :: a :: r, p => if crossW a b p ≤ 0 then popW (a :: r) p else b :: a :: r
  | s, _ => s
def chainStep (s : List Pt) (p : Pt) : List Pt := p :: popW s p
/-- The chain of a list, the newest first. -/
def chainR (l : List Pt) : List Pt := l.foldl chainStep []
theorem chainR_take (l : List Pt) (k : Nat) (hk : k < l.length) : chainR (l.take (k + 1)) = l[k] :: popW (chainR (l.take k)) l[k] := by
  unfold chainR
  rw [List.take_succ_eq_append_getElem hk, List.foldl_append]
  rfl
theorem popW_len (s : List Pt) (p : Pt) : (popW s p).length ≤ s.length := by
  induction s with
  | nil => simp [popW]
  | cons b s ih =>
    cases s with
    | nil => simp [popW]
    | cons a r =>
      unfold popW
      split
      · have := ih; simp at this ⊢; omega
      · simp
theorem popW_suffix (s : List Pt) (p : Pt) : ∃ d, s = d ++ popW s p := by
  induction s with
  | nil => exact ⟨[], by simp [popW]⟩
  | cons b s ih =>
    cases s with
    | nil => exact ⟨[], by simp [popW]⟩
    | cons a r =>
      unfold popW
      split
      · obtain ⟨d, hd⟩ := ih; exact ⟨b :: d, by rw [List.cons_append, ← hd]⟩
      · exact ⟨[], rfl⟩
theorem chainR_len (l : List Pt) : (chainR l).length ≤ l.length := by
  have : ∀ (l s : List Pt), (l.foldl chainStep s).length ≤ s.length + l.length := by
    intro l
    induction l with
    | nil => intro s; simp
    | cons x l ih => intro s; rw [List.foldl_cons]; have := ih (chainStep s x); have h2 := popW_len s x; simp [chainStep] at this ⊢; omega
  simpa [chainR] using this l []
def chainL (l : List Pt) : List Pt := (chainR l).reverse

theorem chainR_pos (l : List Pt) (h : 0 < l.length) : 0 < (chainR l).length := by
  obtain ⟨k, hk⟩ : ∃ k, l.length = k + 1 := ⟨l.length - 1, by omega⟩
  have := chainR_take l k (by omega)
  rw [show k + 1 = l.length by omega, List.take_length] at this
  rw [this]; simp
/-- The hull of a sorted list without equal points. -/
def hullS (s : List Pt) : List Pt := if s.length < 2 then s else (chainL s).dropLast ++ (chainL s.reverse).dropLast

end Go.Proofs.Ytcdbekmcobghbaa

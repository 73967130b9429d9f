/- What the levels that divide layers are, and the change of a layer. -/
import Derived.Test.YtgnakeemcccfjaaBchs
namespace Go.Proofs.Ytgnakeemcccfjaa
open Go Go.RowKit Go.IntWalk

/-- The first of the numbers f 0, f 1, .. that is not 0. -/
def fstE (f : Nat → Int) : Nat → Int
  | 0 => 0
  | n + 1 => if fstE f n ≠ 0 then fstE f n else f n
theorem fstE_succ {f : Nat → Int} {k : Nat} (h : fstE f k = 0) : fstE f (k + 1) = f k := by
  show (if fstE f k ≠ 0 then fstE f k else f k) = f k
  rw [if_neg (fun e => e h)]
theorem fstE_at {f : Nat → Int} {k : Nat} (h : fstE f k = 0) (hk : f k ≠ 0) : ∀ n, k < n → fstE f n = f k := by
  intro n
  induction n with
  | zero => intro hn; omega
  | succ n ih =>
    intro hn
    by_cases e : k = n
    · subst e; exact fstE_succ h
    · have h1 := ih (by omega)
      show (if fstE f n ≠ 0 then fstE f n else f n) = f k
      rw [if_pos (by rw [h1]; exact hk), h1]
theorem fstE_zero {f : Nat → Int} : ∀ {n : Nat}, fstE f n = 0 → ∀ k, k < n → f k = 0 := by
  intro n
  induction n with
  | zero => intro _ k hk; omega
  | succ n ih =>
    intro h k hk
    have h1 : fstE f n = 0 := by
      by_cases e : fstE f n = 0
      · exact e
      · have h2 : fstE f (n + 1) = fstE f n := if_pos e
        rw [← h2]; exact h
    by_cases e : k = n
    · subst e; rw [fstE_succ h1] at h; exact h
    · exact ih h1 k (by omega)
/-- What is wrong with the level number k. -/
def lvF (l : List Int) (k : Nat) : Int := if lvB (gi l k) = false then 2 else if 0 < k ∧ gi l k ≤ gi l (k - 1) then 9 else 0
/-- The error of the levels that divide layers. -/
def levE (l : List Int) : Int := if 20 < l.length then 8 else fstE (lvF l) l.length
def loL (l : List Int) (k : Nat) : Int := if k = 0 then -20000 else gi l (k - 1)
def hiV (l : List Int) (k : Nat) : Int := if k < l.length then gi l k else 20000
theorem lvF_ok {l : List Int} {k : Nat} (h : lvF l k = 0) : (-20000 ≤ gi l k ∧ gi l k ≤ 20000) ∧ (0 < k → gi l (k - 1) < gi l k) := by
  unfold lvF at h
  by_cases h1 : lvB (gi l k) = false
  · rw [if_pos h1] at h; cases h
  rw [if_neg h1] at h
  by_cases h2 : 0 < k ∧ gi l k ≤ gi l (k - 1)
  · rw [if_pos h2] at h; cases h
  have h3 : -20000 ≤ gi l k ∧ gi l k ≤ 20000 := by
    unfold lvB withinB at h1
    simpa using h1
  exact ⟨h3, fun h0 => by omega⟩
theorem levE_ok {l : List Int} (h : levE l = 0) : l.length ≤ 20 ∧ ∀ k, k ≤ l.length → -20000 ≤ loL l k ∧ loL l k ≤ hiV l k ∧ hiV l k ≤ 20000 := by
  unfold levE at h
  by_cases h1 : 20 < l.length
  · rw [if_pos h1] at h; cases h
  rw [if_neg h1] at h
  have h2 := fun k hk => lvF_ok (fstE_zero h k hk)
  refine ⟨by omega, fun k hk => ?_⟩
  unfold loL hiV
  by_cases e0 : k = 0
  · subst e0
    rw [if_pos rfl]
    by_cases e1 : 0 < l.length
    · rw [if_pos e1]
      have := h2 0 e1
      omega
    · rw [if_neg e1]; omega
  · rw [if_neg e0]
    have a1 := h2 (k - 1) (by omega)
    by_cases e1 : k < l.length
    · rw [if_pos e1]
      have a2 := h2 k e1
      have := a2.2 (by omega)
      omega
    · rw [if_neg e1]; omega
/-- What is cut between two beds in a layer. -/
def layP (s : Int) (l m : List Int) (lo hi : Int) (n : Nat) : Int := sumN (fun i => cutC s (mvI lo hi (gi l i)) (mvI lo hi (gi m i))) n
/-- The change of a layer. -/
def layF (g h : Gr) (lo hi : Int) : C3 := ⟨layP g.S g.L h.L lo hi g.L.length, layP g.S h.L g.L lo hi g.L.length, 0⟩
theorem layP_bd {g : Gr} (vg : VG g) (lo hi : Int) (hb : -20000 ≤ lo ∧ lo ≤ hi ∧ hi ≤ 20000) (l m : List Int) (k : Nat) : 0 ≤ layP g.S l m lo hi k ∧ layP g.S l m lo hi k ≤ 4000000000000 * k :=
  sumN_bd (f := fun i => cutC g.S (mvI lo hi (gi l i)) (mvI lo hi (gi m i))) (M := 4000000000000) k (fun _ _ => cutC_bd (by have := vg.hs; omega) (by have := vg.hs; omega) (mvI_ok hb) (mvI_ok hb))
end Go.Proofs.Ytgnakeemcccfjaa

/- Contracts of nearSide, Near and Inside, and of the reference's Near. -/
import Derived.Test.YtgnakeemcccfjaaGreatPlace
import Derived.Test.YtgnakeemcccfjaaGreatOff
namespace Go.Proofs.YtgnakeemcccfjaaGreat
open Go Go.RowKit Go.IntWalk

def nearB (sa sb al sq off d : Int) : Bool := decide (sa ≤ d * d) || (decide (sb ≤ d * d) || (decide (0 ≤ al) && (decide (al ≤ sq) && decide (off ≤ d))))
def offG (a b p : Pt) : Int := wrap64 ((sizeW (crossW a b p)).tdiv (spanG a b))
def nearG (a b p : Pt) (d : Int) : Bool := nearB (dotW a p p) (dotW b p p) (dotW a b p) (dotW a b b) (offG a b p) d
theorem dd_bound {d : Int} (h0 : 0 ≤ d) (h1 : d ≤ 1000000) : 0 ≤ d * d ∧ d * d ≤ 1000000000000 := by
  have := mul_bound (x := d) (y := d) (M := 1000000) (N := 1000000) (by omega) (by omega) (by omega) (by omega)
  have := sq_nonneg d
  omega
/-- A polygon's neighbouring corners are different. -/
theorem polyE_zero {l : List Pt} (h : polyE l = 0) : 3 ≤ l.length ∧ l.length ≤ 40 ∧ allGood l = true ∧ sidesG meetG betweenG l = false := by
  unfold polyE at h
  by_cases h1 : l.length < 3
  · rw [if_pos h1] at h; omega
  rw [if_neg h1] at h
  by_cases h2 : 40 < l.length
  · rw [if_pos h2] at h; omega
  rw [if_neg h2] at h
  cases h3 : allGood l
  · rw [if_pos h3] at h; omega
  rw [if_neg (by rw [h3]; decide)] at h
  cases h4 : sidesG meetG betweenG l
  · exact ⟨by omega, by omega, rfl, rfl⟩
  · rw [if_pos h4] at h; omega
theorem bet_self (a b : Pt) (ha : good a = true) (hb : good b = true) : betweenG a b a = true := by
  rw [betG_iff ha hb ha]
  refine ⟨by unfold crossZ; grind, by omega, by omega⟩
theorem meet_self (a b c : Pt) (ha : good a = true) (hb : good b = true) (hc : good c = true) : meetG a b a c = true := by
  rw [meetG_iff ha hb ha hc, ← meet_iff]
  left
  exact ⟨by unfold crossZ; grind, by omega, by omega⟩
theorem polyE_same (l : List Pt) : rpolyE l = polyE l := by
  unfold rpolyE polyE
  by_cases h1 : l.length < 3
  · rw [if_pos h1, if_pos h1]
  rw [if_neg h1, if_neg h1]
  by_cases h2 : 40 < l.length
  · rw [if_pos h2, if_pos h2]
  rw [if_neg h2, if_neg h2]
  cases h3 : allGood l
  · simp
  · rw [form_same meetG betweenG l (by omega) bet_self meet_self h3]
    have e : formR meetR betweenW l = formR meetG betweenG l := by
      unfold formR
      refine anyN_congr _ (fun i hi => ?_)
      have e1 : foldR betweenW l i = foldR betweenG l i := by
        unfold foldR
        rw [betG_W (cor_good h3 _) (cor_good h3 _) (cor_good h3 _), betG_W (cor_good h3 _) (cor_good h3 _) (cor_good h3 _)]
      have e2 : anyN (fun k => farR meetR l i (i + 2 + k)) (l.length - (i + 2)) = anyN (fun k => farR meetG l i (i + 2 + k)) (l.length - (i + 2)) := by
        refine anyN_congr _ (fun k hk => ?_)
        unfold farR
        rw [meetR_G (cor_good h3 _) (cor_good h3 _) (cor_good h3 _) (cor_good h3 _)]
      rw [e1, e2]
    rw [e]
    cases dupR l <;> cases formR meetG betweenG l <;> simp
theorem poly_diff {l : List Pt} (h : polyE l = 0) (i : Nat) (hi : i < l.length) : cor l i ≠ cor l (i + 1) := by
  obtain ⟨h1, h2, h3, h4⟩ := polyE_zero h
  intro he
  rw [form_same meetG betweenG l (by omega) bet_self meet_self h3, Bool.or_eq_false_iff] at h4
  have h5 := h4.1
  unfold dupR at h5
  rw [anyN_no] at h5
  by_cases hl : i + 1 = l.length
  · have := h5 i hi
    rw [anyN_no] at this
    have := this 0 (by omega)
    rw [decide_eq_false_iff_not] at this
    exact this (by rw [he, hl, cor_len])
  · have := h5 (i + 1) (by omega)
    rw [anyN_no] at this
    have := this i (by omega)
    rw [decide_eq_false_iff_not] at this
    exact this he.symm
end Go.Proofs.YtgnakeemcccfjaaGreat

/- Contracts of the statements' helpers: Short, pier, awake. -/
import Derived.Test.YtmhmfjgahhgbpaaTref2
namespace Go.Proofs.Ytmhmfjgahhgbpaa
open Go Go.RowKit Go.IntWalk

def shortB (s : ByteArray) (l : List Pt) : Bool := decide (s.size ≤ 40) && (decide (l.length ≤ 30) || (decide (400 < l.length) && decide (l.length < 420)))
theorem short_c (s : ByteArray) (x er : Int) (l : List Pt) (w : World) (A : Option Addr) (c : Nat) :
    Calls Try.prog 56 #[.agg #[.string s, .int .i64 x, .int .i64 er, .slice A l.length c]] w fun e w' => e = .returned (.bool (shortB s l)) ∧ Ext w w' := by
  unfold shortB
  by_cases h1 : s.size ≤ 40
  · have h1' : (s.size : Int) ≤ 40 := by omega
    by_cases h2 : l.length ≤ 30
    · have h2' : (l.length : Int) ≤ 30 := by omega
      rw [decide_eq_true h1, decide_eq_true h2]
      go_enter Try.func56, Try.ntmps56
      go_wp2
      go_ret
      exact ⟨by simp, by (repeat (first | with_reducible exact Ext.rfl' _ | with_reducible assumption | with_reducible refine Ext.al ?_ _ | with_reducible refine Ext.dr ?_ | with_reducible refine Ext.st ?_ (by simp) _ | with_reducible refine Ext.tr ?_ (by assumption)))⟩
    · have h2' : ¬ (l.length : Int) ≤ 30 := by omega
      rw [decide_eq_true h1, decide_eq_false h2]
      by_cases h3 : 400 < l.length
      all_goals
        go_enter Try.func56, Try.ntmps56
        go_wp2
        go_ret
        exact ⟨ret_bool (by first | (simp; done) | (rw [Bool.eq_iff_iff]; done) | (rw [Bool.eq_iff_iff]; simp; done) | (rw [Bool.eq_iff_iff]; simp; omega)), by (repeat (first | with_reducible exact Ext.rfl' _ | with_reducible assumption | with_reducible refine Ext.al ?_ _ | with_reducible refine Ext.dr ?_ | with_reducible refine Ext.st ?_ (by simp) _ | with_reducible refine Ext.tr ?_ (by assumption)))⟩
  · have h1' : ¬ (s.size : Int) ≤ 40 := by omega
    rw [decide_eq_false h1]
    go_enter Try.func56, Try.ntmps56
    go_wp2
    go_ret
    exact ⟨by simp, by (repeat (first | with_reducible exact Ext.rfl' _ | with_reducible assumption | with_reducible refine Ext.al ?_ _ | with_reducible refine Ext.dr ?_ | with_reducible refine Ext.st ?_ (by simp) _ | with_reducible refine Ext.tr ?_ (by assumption)))⟩
def pierS : ByteArray := { data := #[112, 105, 101, 114] }
def pierL : List Pt := [⟨0, 0⟩, ⟨10, 25⟩]
theorem pier_ok : gaugeE pierS 0 2 pierL = 0 := by kernel_rfl
theorem pier_pos : PosAt pierL 3 1 := by
  refine ⟨by decide, fun a ha => ?_, fun a h1 h2 => ?_⟩
  · have : a = 0 := by omega
    subst this; decide
  · have : a = 1 := by simp [pierL] at h2; omega
    subst this; decide
end Go.Proofs.Ytmhmfjgahhgbpaa

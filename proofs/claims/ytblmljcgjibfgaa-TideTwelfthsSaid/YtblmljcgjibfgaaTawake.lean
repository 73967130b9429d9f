/- Contracts of the statements' helpers: Short, pier, awake. -/
import Derived.Test.YtblmljcgjibfgaaTref2
namespace Go.Proofs.Ytblmljcgjibfgaa
open Go Go.RowKit Go.IntWalk

def shortB (s : ByteArray) (l : List Pt) : Bool := decide (s.size ≤ 40) && (decide (l.length ≤ 30) || (decide (400 < l.length) && decide (l.length < 420)))
theorem short_c (s : ByteArray) (x er : Int) (l : List Pt) (w : World) (A : Option Addr) (c : Nat) :
    Calls Try.prog 16 #[.agg #[.string s, .int .i64 x, .int .i64 er, .slice A l.length c]] w fun e w' => e = .returned (.bool (shortB s l)) ∧ Ext w w' := by
  unfold shortB
  by_cases h1 : s.size ≤ 40
  · have h1' : (s.size : Int) ≤ 40 := by omega
    by_cases h2 : l.length ≤ 30
    · have h2' : (l.length : Int) ≤ 30 := by omega
      rw [decide_eq_true h1, decide_eq_true h2]
      go_enter Try.func16, Try.ntmps16
      go_wp2
      go_ret
      exact ⟨by simp, by (repeat (first | with_reducible exact Ext.rfl' _ | with_reducible assumption | with_reducible refine Ext.al ?_ _ | with_reducible refine Ext.dr ?_ | with_reducible refine Ext.st ?_ (by simp) _ | with_reducible refine Ext.tr ?_ (by assumption)))⟩
    · have h2' : ¬ (l.length : Int) ≤ 30 := by omega
      rw [decide_eq_true h1, decide_eq_false h2]
      by_cases h3 : 400 < l.length
      all_goals
        go_enter Try.func16, Try.ntmps16
        go_wp2
        go_ret
        exact ⟨ret_bool (by first | (simp; done) | (rw [Bool.eq_iff_iff]; done) | (rw [Bool.eq_iff_iff]; simp; done) | (rw [Bool.eq_iff_iff]; simp; omega)), by (repeat (first | with_reducible exact Ext.rfl' _ | with_reducible assumption | with_reducible refine Ext.al ?_ _ | with_reducible refine Ext.dr ?_ | with_reducible refine Ext.st ?_ (by simp) _ | with_reducible refine Ext.tr ?_ (by assumption)))⟩
  · have h1' : ¬ (s.size : Int) ≤ 40 := by omega
    rw [decide_eq_false h1]
    go_enter Try.func16, Try.ntmps16
    go_wp2
    go_ret
    exact ⟨by simp, by (repeat (first | with_reducible exact Ext.rfl' _ | with_reducible assumption | with_reducible refine Ext.al ?_ _ | with_reducible refine Ext.dr ?_ | with_reducible refine Ext.st ?_ (by simp) _ | with_reducible refine Ext.tr ?_ (by assumption)))⟩
def pierS : ByteArray := { data := #[112, 105, 101, 114] }
def pierL : List Pt := [⟨0, 0⟩, ⟨10, 25⟩]
theorem pier_c (w : World) :
    Calls Try.prog 61 #[] w fun e w' => ∃ g, e = .returned (.agg #[.string pierS, .int .i64 0, .int .i64 2, .slice (some ⟨g, 0, none⟩) 2 2]) ∧ Ext w w' ∧ Row 2 encP w' (some ⟨g, 0, none⟩) pierL := by
  go_enter Try.func61, Try.ntmps61
  go_wp2
  refine bodyPost_ret (v := .agg #[.string pierS, .int .i64 0, .int .i64 2, .slice (some ⟨w.heap.size + 1, 0, none⟩) 2 2]) (by simp [results, Try.results61, go_sem, pierS]) rfl ⟨_, rfl, ?_, ?_⟩
  · (repeat (first | with_reducible exact Ext.rfl' _ | with_reducible assumption | with_reducible refine Ext.al ?_ _ | with_reducible refine Ext.dr ?_ | with_reducible refine Ext.st ?_ (by simp) _ | with_reducible refine Ext.tr ?_ (by assumption)))
  · exact Row.new' encP_len _ _ _ pierL _ (by simp) rfl
theorem pier_ok : gaugeE pierS 0 2 pierL = 0 := by kernel_rfl
theorem pier_pos : PosAt pierL 3 1 := by
  refine ⟨by decide, fun a ha => ?_, fun a h1 h2 => ?_⟩
  · have : a = 0 := by omega
    subst this; decide
  · have : a = 1 := by simp [pierL] at h2; omega
    subst this; decide
theorem awake_c (w : World) :
    Calls Try.prog 15 #[] w fun e w' => e = .returned (.bool true) ∧ Ext w w' := by
  have HA := Lib.hid (fun w' A c hA => at_ok_c pierS 0 2 pierL 3 1 w' A c hA pier_ok (by decide) pier_pos)
  have HA2 : Hid (∀ w' A c, Row 2 encP w' A pierL → Calls Try.prog 17 #[.agg #[.string pierS, .int .i64 0, .int .i64 2, .slice A 2 c], .int .i64 3] w'
      fun e w'' => e = .returned (.tuple #[.agg #[.int .i64 5, .int .i64 10], .int .i64 0]) ∧ Ext w' w'') := HA.out
  clear HA
  go_enter Try.func15, Try.ntmps15
  go_wp2_with (first | (go_at_call 61; refine Calls.mono (pier_c _) ?_; rintro e wq ⟨g, rfl, hbq, hrow⟩) | (go_at_call 17; with_reducible refine Calls.mono (HA2.out _ _ _ hrow) ?_; rintro e w1 ⟨rfl, hb⟩; have hc := hb.ccell; have hf := hb.frz; have hs := hb.sz; (try simp at hs); (try have hs0 := hs w.heap.size (by omega)); (try have hs1 := hs (w.heap.size + 1) (by omega)); (try have hs2 := hs (w.heap.size + 1 + 1) (by omega)); (try have hs3 := hs (w.heap.size + 1 + 1 + 1) (by omega))))
  go_ret
  exact ⟨rfl, by (repeat (first | with_reducible exact Ext.rfl' _ | with_reducible assumption | with_reducible refine Ext.al ?_ _ | with_reducible refine Ext.dr ?_ | with_reducible refine Ext.st ?_ (by simp) _ | with_reducible refine Ext.tr ?_ (by assumption)))⟩
end Go.Proofs.Ytblmljcgjibfgaa

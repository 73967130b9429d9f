/- Cross products, their signs, squared distances and spans are as specified for any points: the law returns true for every input. Conditions: none. -/
import Derived.Test.YtcdbekmcobghbaaAwake
import Derived.Test.YtcdbekmcobghbaaLine
namespace Go.Proofs.Ytcdbekmcobghbaa
open Go Go.RowKit

theorem allGood_two (a b : Pt) : allGood [a, b] = (good a && good b) := by simp [allGood]
theorem allGood_three (a b c : Pt) : allGood [a, b, c] = (good a && (good b && good c)) := by simp [allGood]
theorem rootW_zero : rootW 3000000 0 = 0 := by decide +kernel
theorem spanG_eq (a b : Pt) (ha : good a = true) (hb : good b = true) : spanG a b = spanR a b := by
  unfold spanG spanR
  rw [allGood_two, ha, hb]
  simp only [Bool.and_self, if_true]
  refine rootW_cap ?_
  rw [dotW_good ha hb hb]
  exact (dotZ_bound ha hb hb).2

set_option maxHeartbeats 1000000 in
theorem points_walk (ax ay bx by_ cx cy : Int) (w : World) :
    Calls Try.prog 3 #[.agg #[.int .i64 ax, .int .i64 ay], .agg #[.int .i64 bx, .int .i64 by_], .agg #[.int .i64 cx, .int .i64 cy]] w
      fun e w' => e = .returned (.bool true) ∧ Ext w w' := by
  have hX := fun w => gcross_c ax ay bx by_ cx cy w
  have hO := fun w => gorient_c ax ay bx by_ cx cy w
  have hS := fun w => gsquare_c ax ay bx by_ w
  have hN := fun w => gspan_c ax ay bx by_ w
  have hRX := fun w => rcross_c ax ay bx by_ cx cy w
  have hRO := fun w => rorient_c ax ay bx by_ cx cy w
  have hRS := fun w => rsquare_c ax ay bx by_ w
  have hRN := fun w => rspan_c ax ay bx by_ w
  rw [allGood_three] at hX hO
  rw [allGood_two] at hS
  cases ga : good ⟨ax, ay⟩ <;> cases gb : good ⟨bx, by_⟩ <;> cases gc : good ⟨cx, cy⟩
  case true.true.true =>
    rw [spanG_eq _ _ ga gb] at hN
    simp only [ga, gb, gc, Bool.and_self, if_true] at hX hO hS
    generalize dotW ⟨ax, ay⟩ ⟨bx, by_⟩ ⟨bx, by_⟩ = q at hS hRS
    generalize spanR ⟨ax, ay⟩ ⟨bx, by_⟩ = n at hN hRN
    generalize crossW ⟨ax, ay⟩ ⟨bx, by_⟩ ⟨cx, cy⟩ = x at hX hO hRX hRO
    have HX := Lib.hid hX
    have HO := Lib.hid hO
    have HS := Lib.hid hS
    have HN := Lib.hid hN
    have HRX := Lib.hid hRX
    have HRO := Lib.hid hRO
    have HRS := Lib.hid hRS
    have HRN := Lib.hid hRN
    clear hX hO hS hN hRX hRO hRS hRN
    go_enter Try.func3, Try.ntmps3
    go_wp2_with (first | (go_at_call 19; refine Calls.mono (awake_c _) ?_; rintro e w1 ⟨rfl, hb⟩; have hc := hb.ccell; have hf := hb.frz; have hs := hb.sz; (try simp at hs); (try have hs0 := hs w.heap.size (by omega)); (try have hs1 := hs (w.heap.size + 1) (by omega)); (try have hs2 := hs (w.heap.size + 1 + 1) (by omega)); (try have hs3 := hs (w.heap.size + 1 + 1 + 1) (by omega))))
    refine region_grow (by kernel_rfl) (by kernel_rfl) ?_
    repeat (first | go_big_quiet_step (first | (go_at_call 20; exact callsGrow (HX.out _)) | (go_at_call 21; exact callsGrow (HO.out _)) | (go_at_call 22; exact callsGrow (HS.out _)) | (go_at_call 23; exact callsGrow (HN.out _)) | fail) | quiet_step (first | (go_at_call 20; exact callsGrow (HX.out _)) | (go_at_call 21; exact callsGrow (HO.out _)) | (go_at_call 22; exact callsGrow (HS.out _)) | (go_at_call 23; exact callsGrow (HN.out _)) | fail))
    refine wpQuiet_nil ?_
    intro w1 hb
    have hc := hb.ccell
    have hf := hb.frz
    have hs := hb.sz
    (try simp at hs); (try have hs0 := hs w.heap.size (by omega)); (try have hs1 := hs (w.heap.size + 1) (by omega)); (try have hs2 := hs (w.heap.size + 1 + 1) (by omega)); (try have hs3 := hs (w.heap.size + 1 + 1 + 1) (by omega))
    (try simp only [IntWalk.i64_left])
    go_wp2_with (first | (go_at_call 24; refine Calls.mono (rgood_c _ _ _) ?_; rintro e w1 ⟨rfl, hb⟩; have hc := hb.ccell; have hf := hb.frz; have hs := hb.sz; (try simp at hs); (try have hs0 := hs w.heap.size (by omega)); (try have hs1 := hs (w.heap.size + 1) (by omega)); (try have hs2 := hs (w.heap.size + 1 + 1) (by omega)); (try have hs3 := hs (w.heap.size + 1 + 1 + 1) (by omega))) | (go_at_call 25; refine Calls.mono (HRS.out _) ?_; rintro e w1 ⟨rfl, hb⟩; have hc := hb.ccell; have hf := hb.frz; have hs := hb.sz; (try simp at hs); (try have hs0 := hs w.heap.size (by omega)); (try have hs1 := hs (w.heap.size + 1) (by omega)); (try have hs2 := hs (w.heap.size + 1 + 1) (by omega)); (try have hs3 := hs (w.heap.size + 1 + 1 + 1) (by omega))) | (go_at_call 26; refine Calls.mono (HRN.out _) ?_; rintro e w1 ⟨rfl, hb⟩; have hc := hb.ccell; have hf := hb.frz; have hs := hb.sz; (try simp at hs); (try have hs0 := hs w.heap.size (by omega)); (try have hs1 := hs (w.heap.size + 1) (by omega)); (try have hs2 := hs (w.heap.size + 1 + 1) (by omega)); (try have hs3 := hs (w.heap.size + 1 + 1 + 1) (by omega))) | (go_at_call 27; refine Calls.mono (HRX.out _) ?_; rintro e w1 ⟨rfl, hb⟩; have hc := hb.ccell; have hf := hb.frz; have hs := hb.sz; (try simp at hs); (try have hs0 := hs w.heap.size (by omega)); (try have hs1 := hs (w.heap.size + 1) (by omega)); (try have hs2 := hs (w.heap.size + 1 + 1) (by omega)); (try have hs3 := hs (w.heap.size + 1 + 1 + 1) (by omega))) | (go_at_call 28; refine Calls.mono (HRO.out _) ?_; rintro e w1 ⟨rfl, hb⟩; have hc := hb.ccell; have hf := hb.frz; have hs := hb.sz; (try simp at hs); (try have hs0 := hs w.heap.size (by omega)); (try have hs1 := hs (w.heap.size + 1) (by omega)); (try have hs2 := hs (w.heap.size + 1 + 1) (by omega)); (try have hs3 := hs (w.heap.size + 1 + 1 + 1) (by omega))))
    all_goals (go_ret; exact ⟨by simp, by (repeat (first | with_reducible exact Ext.rfl' _ | with_reducible assumption | with_reducible refine Ext.al ?_ _ | with_reducible refine Ext.dr ?_ | with_reducible refine Ext.st ?_ (by simp) _ | with_reducible refine Ext.tr ?_ (by assumption)))⟩)
  case true.true.false =>
    rw [spanG_eq _ _ ga gb] at hN
    simp only [ga, gb, gc, Bool.and_self, Bool.and_false, Bool.false_eq_true, if_true, if_false] at hX hO hS
    rw [show cmpI 0 0 = 0 from rfl] at hO
    generalize dotW ⟨ax, ay⟩ ⟨bx, by_⟩ ⟨bx, by_⟩ = q at hS hRS
    generalize spanR ⟨ax, ay⟩ ⟨bx, by_⟩ = n at hN hRN
    have HX := Lib.hid hX
    have HO := Lib.hid hO
    have HS := Lib.hid hS
    have HN := Lib.hid hN
    have HRX := Lib.hid hRX
    have HRO := Lib.hid hRO
    have HRS := Lib.hid hRS
    have HRN := Lib.hid hRN
    clear hX hO hS hN hRX hRO hRS hRN
    go_enter Try.func3, Try.ntmps3
    go_wp2_with (first | (go_at_call 19; refine Calls.mono (awake_c _) ?_; rintro e w1 ⟨rfl, hb⟩; have hc := hb.ccell; have hf := hb.frz; have hs := hb.sz; (try simp at hs); (try have hs0 := hs w.heap.size (by omega)); (try have hs1 := hs (w.heap.size + 1) (by omega)); (try have hs2 := hs (w.heap.size + 1 + 1) (by omega)); (try have hs3 := hs (w.heap.size + 1 + 1 + 1) (by omega))))
    refine region_grow (by kernel_rfl) (by kernel_rfl) ?_
    repeat (first | go_big_quiet_step (first | (go_at_call 20; exact callsGrow (HX.out _)) | (go_at_call 21; exact callsGrow (HO.out _)) | (go_at_call 22; exact callsGrow (HS.out _)) | (go_at_call 23; exact callsGrow (HN.out _)) | fail) | quiet_step (first | (go_at_call 20; exact callsGrow (HX.out _)) | (go_at_call 21; exact callsGrow (HO.out _)) | (go_at_call 22; exact callsGrow (HS.out _)) | (go_at_call 23; exact callsGrow (HN.out _)) | fail))
    refine wpQuiet_nil ?_
    intro w1 hb
    have hc := hb.ccell
    have hf := hb.frz
    have hs := hb.sz
    (try simp at hs); (try have hs0 := hs w.heap.size (by omega)); (try have hs1 := hs (w.heap.size + 1) (by omega)); (try have hs2 := hs (w.heap.size + 1 + 1) (by omega)); (try have hs3 := hs (w.heap.size + 1 + 1 + 1) (by omega))
    (try simp only [IntWalk.i64_left])
    go_wp2_with (first | (go_at_call 24; refine Calls.mono (rgood_c _ _ _) ?_; rintro e w1 ⟨rfl, hb⟩; have hc := hb.ccell; have hf := hb.frz; have hs := hb.sz; (try simp at hs); (try have hs0 := hs w.heap.size (by omega)); (try have hs1 := hs (w.heap.size + 1) (by omega)); (try have hs2 := hs (w.heap.size + 1 + 1) (by omega)); (try have hs3 := hs (w.heap.size + 1 + 1 + 1) (by omega))) | (go_at_call 25; refine Calls.mono (HRS.out _) ?_; rintro e w1 ⟨rfl, hb⟩; have hc := hb.ccell; have hf := hb.frz; have hs := hb.sz; (try simp at hs); (try have hs0 := hs w.heap.size (by omega)); (try have hs1 := hs (w.heap.size + 1) (by omega)); (try have hs2 := hs (w.heap.size + 1 + 1) (by omega)); (try have hs3 := hs (w.heap.size + 1 + 1 + 1) (by omega))) | (go_at_call 26; refine Calls.mono (HRN.out _) ?_; rintro e w1 ⟨rfl, hb⟩; have hc := hb.ccell; have hf := hb.frz; have hs := hb.sz; (try simp at hs); (try have hs0 := hs w.heap.size (by omega)); (try have hs1 := hs (w.heap.size + 1) (by omega)); (try have hs2 := hs (w.heap.size + 1 + 1) (by omega)); (try have hs3 := hs (w.heap.size + 1 + 1 + 1) (by omega))) | (go_at_call 27; refine Calls.mono (HRX.out _) ?_; rintro e w1 ⟨rfl, hb⟩; have hc := hb.ccell; have hf := hb.frz; have hs := hb.sz; (try simp at hs); (try have hs0 := hs w.heap.size (by omega)); (try have hs1 := hs (w.heap.size + 1) (by omega)); (try have hs2 := hs (w.heap.size + 1 + 1) (by omega)); (try have hs3 := hs (w.heap.size + 1 + 1 + 1) (by omega))) | (go_at_call 28; refine Calls.mono (HRO.out _) ?_; rintro e w1 ⟨rfl, hb⟩; have hc := hb.ccell; have hf := hb.frz; have hs := hb.sz; (try simp at hs); (try have hs0 := hs w.heap.size (by omega)); (try have hs1 := hs (w.heap.size + 1) (by omega)); (try have hs2 := hs (w.heap.size + 1 + 1) (by omega)); (try have hs3 := hs (w.heap.size + 1 + 1 + 1) (by omega))))
    all_goals (go_ret; exact ⟨by simp, by (repeat (first | with_reducible exact Ext.rfl' _ | with_reducible assumption | with_reducible refine Ext.al ?_ _ | with_reducible refine Ext.dr ?_ | with_reducible refine Ext.st ?_ (by simp) _ | with_reducible refine Ext.tr ?_ (by assumption)))⟩)
  all_goals
    have hn : spanG ⟨ax, ay⟩ ⟨bx, by_⟩ = 0 := by unfold spanG; rw [allGood_two, ga, gb]; exact rootW_zero
    rw [hn] at hN
    clear hn
    simp only [ga, gb, gc, Bool.and_self, Bool.and_true, Bool.and_false, Bool.false_eq_true, if_false] at hX hO hS
    rw [show cmpI 0 0 = 0 from rfl] at hO
    have HX := Lib.hid hX
    have HO := Lib.hid hO
    have HS := Lib.hid hS
    have HN := Lib.hid hN
    have HRX := Lib.hid hRX
    have HRO := Lib.hid hRO
    have HRS := Lib.hid hRS
    have HRN := Lib.hid hRN
    clear hX hO hS hN hRX hRO hRS hRN
    go_enter Try.func3, Try.ntmps3
    go_wp2_with (first | (go_at_call 19; refine Calls.mono (awake_c _) ?_; rintro e w1 ⟨rfl, hb⟩; have hc := hb.ccell; have hf := hb.frz; have hs := hb.sz; (try simp at hs); (try have hs0 := hs w.heap.size (by omega)); (try have hs1 := hs (w.heap.size + 1) (by omega)); (try have hs2 := hs (w.heap.size + 1 + 1) (by omega)); (try have hs3 := hs (w.heap.size + 1 + 1 + 1) (by omega))))
    refine region_grow (by kernel_rfl) (by kernel_rfl) ?_
    repeat (first | go_big_quiet_step (first | (go_at_call 20; exact callsGrow (HX.out _)) | (go_at_call 21; exact callsGrow (HO.out _)) | (go_at_call 22; exact callsGrow (HS.out _)) | (go_at_call 23; exact callsGrow (HN.out _)) | fail) | quiet_step (first | (go_at_call 20; exact callsGrow (HX.out _)) | (go_at_call 21; exact callsGrow (HO.out _)) | (go_at_call 22; exact callsGrow (HS.out _)) | (go_at_call 23; exact callsGrow (HN.out _)) | fail))
    refine wpQuiet_nil ?_
    intro w1 hb
    have hc := hb.ccell
    have hf := hb.frz
    have hs := hb.sz
    (try simp at hs); (try have hs0 := hs w.heap.size (by omega)); (try have hs1 := hs (w.heap.size + 1) (by omega)); (try have hs2 := hs (w.heap.size + 1 + 1) (by omega)); (try have hs3 := hs (w.heap.size + 1 + 1 + 1) (by omega))
    (try simp only [IntWalk.i64_left])
    go_wp2_with (first | (go_at_call 24; refine Calls.mono (rgood_c _ _ _) ?_; rintro e w1 ⟨rfl, hb⟩; have hc := hb.ccell; have hf := hb.frz; have hs := hb.sz; (try simp at hs); (try have hs0 := hs w.heap.size (by omega)); (try have hs1 := hs (w.heap.size + 1) (by omega)); (try have hs2 := hs (w.heap.size + 1 + 1) (by omega)); (try have hs3 := hs (w.heap.size + 1 + 1 + 1) (by omega))) | (go_at_call 25; refine Calls.mono (HRS.out _) ?_; rintro e w1 ⟨rfl, hb⟩; have hc := hb.ccell; have hf := hb.frz; have hs := hb.sz; (try simp at hs); (try have hs0 := hs w.heap.size (by omega)); (try have hs1 := hs (w.heap.size + 1) (by omega)); (try have hs2 := hs (w.heap.size + 1 + 1) (by omega)); (try have hs3 := hs (w.heap.size + 1 + 1 + 1) (by omega))) | (go_at_call 26; refine Calls.mono (HRN.out _) ?_; rintro e w1 ⟨rfl, hb⟩; have hc := hb.ccell; have hf := hb.frz; have hs := hb.sz; (try simp at hs); (try have hs0 := hs w.heap.size (by omega)); (try have hs1 := hs (w.heap.size + 1) (by omega)); (try have hs2 := hs (w.heap.size + 1 + 1) (by omega)); (try have hs3 := hs (w.heap.size + 1 + 1 + 1) (by omega))) | (go_at_call 27; refine Calls.mono (HRX.out _) ?_; rintro e w1 ⟨rfl, hb⟩; have hc := hb.ccell; have hf := hb.frz; have hs := hb.sz; (try simp at hs); (try have hs0 := hs w.heap.size (by omega)); (try have hs1 := hs (w.heap.size + 1) (by omega)); (try have hs2 := hs (w.heap.size + 1 + 1) (by omega)); (try have hs3 := hs (w.heap.size + 1 + 1 + 1) (by omega))) | (go_at_call 28; refine Calls.mono (HRO.out _) ?_; rintro e w1 ⟨rfl, hb⟩; have hc := hb.ccell; have hf := hb.frz; have hs := hb.sz; (try simp at hs); (try have hs0 := hs w.heap.size (by omega)); (try have hs1 := hs (w.heap.size + 1) (by omega)); (try have hs2 := hs (w.heap.size + 1 + 1) (by omega)); (try have hs3 := hs (w.heap.size + 1 + 1 + 1) (by omega))))
    all_goals (go_ret; exact ⟨by simp, by (repeat (first | with_reducible exact Ext.rfl' _ | with_reducible assumption | with_reducible refine Ext.al ?_ _ | with_reducible refine Ext.dr ?_ | with_reducible refine Ext.st ?_ (by simp) _ | with_reducible refine Ext.tr ?_ (by assumption)))⟩)

end Go.Proofs.Ytcdbekmcobghbaa

/- Offsets and places along a line are as specified for any points: the law returns true for every input. Conditions: none. -/
import Derived.Test.YtcdbekmcobghbaaLawPoints
import Derived.Test.YtcdbekmcobghbaaOff
namespace Go.Proofs.Ytcdbekmcobghbaa
open Go Go.RowKit Go.IntWalk

theorem off_same (a b p : Pt) (ha : good a = true) (hb : good b = true) (hp : good p = true) : wrap64 ((absW (crossW a b p)).tdiv (spanR a b)) = wrap64 ((sizeW (crossW a b p)).tdiv (spanG a b)) := by
  rw [spanG_eq a b ha hb, crossW_good ha hb hp]
  have h := crossZ_bound ha hb hp
  have e : absW (crossZ a b p) = sizeW (crossZ a b p) := by
    unfold absW sizeW
    rw [wrap64_in _ (by omega)]
    split <;> omega
  rw [e]

theorem good_of_c (x y : Int) (b : Bool) (h : good ⟨x, y⟩ = b) (w : World) :
    Calls Try.prog 24 #[.agg #[.int .i64 x, .int .i64 y]] w fun e w' => e = .returned (.bool b) ∧ Ext w w' := by
  rw [← h]; exact rgood_c x y w

set_option maxHeartbeats 1000000 in
theorem offs_walk (ax ay bx by_ cx cy : Int) (w : World) :
    Calls Try.prog 4 #[.agg #[.int .i64 ax, .int .i64 ay], .agg #[.int .i64 bx, .int .i64 by_], .agg #[.int .i64 cx, .int .i64 cy]] w
      fun e w' => e = .returned (.bool true) ∧ Ext w w' := by
  have hO := fun w => goffset_c ax ay bx by_ cx cy w
  have hA := fun w => galong_c ax ay bx by_ cx cy w
  cases G : allGood [⟨ax, ay⟩, ⟨bx, by_⟩, ⟨cx, cy⟩]
  · have e := lineE_bad G
    unfold offV at hO
    unfold alongV at hA
    rw [e] at hO hA
    simp only [show (2 : Int) ≠ 0 by omega, if_false] at hO hA
    have HO := Lib.hid hO
    have HA := Lib.hid hA
    clear hO hA e
    rw [allGood_three] at G
    cases ga : good ⟨ax, ay⟩ <;> cases gb : good ⟨bx, by_⟩ <;> cases gc : good ⟨cx, cy⟩
    all_goals first | (exfalso; rw [ga, gb, gc] at G; exact Bool.noConfusion G) | skip
    all_goals
      have GA := Lib.hid (good_of_c _ _ _ ga)
      have GB := Lib.hid (good_of_c _ _ _ gb)
      have GC := Lib.hid (good_of_c _ _ _ gc)
      clear ga gb gc G
      go_enter Try.func4, Try.ntmps4
      go_wp2_with (first | (go_at_call 19; refine Calls.mono (awake_c _) ?_; rintro e w1 ⟨rfl, hb⟩; have hc := hb.ccell; have hf := hb.frz; have hs := hb.sz; (try simp at hs); (try have hs0 := hs w.heap.size (by omega)); (try have hs1 := hs (w.heap.size + 1) (by omega)); (try have hs2 := hs (w.heap.size + 1 + 1) (by omega)); (try have hs3 := hs (w.heap.size + 1 + 1 + 1) (by omega))) | (go_at_call 29; with_reducible refine Calls.mono (HO.out _) ?_; rintro e w1 ⟨rfl, hb⟩; have hc := hb.ccell; have hf := hb.frz; have hs := hb.sz; (try simp at hs); (try have hs0 := hs w.heap.size (by omega)); (try have hs1 := hs (w.heap.size + 1) (by omega)); (try have hs2 := hs (w.heap.size + 1 + 1) (by omega)); (try have hs3 := hs (w.heap.size + 1 + 1 + 1) (by omega))) | (go_at_call 30; with_reducible refine Calls.mono (HA.out _) ?_; rintro e w1 ⟨rfl, hb⟩; have hc := hb.ccell; have hf := hb.frz; have hs := hb.sz; (try simp at hs); (try have hs0 := hs w.heap.size (by omega)); (try have hs1 := hs (w.heap.size + 1) (by omega)); (try have hs2 := hs (w.heap.size + 1 + 1) (by omega)); (try have hs3 := hs (w.heap.size + 1 + 1 + 1) (by omega))) | (go_at_call 24; with_reducible refine Calls.mono (GA.out _) ?_; rintro e w1 ⟨rfl, hb⟩; have hc := hb.ccell; have hf := hb.frz; have hs := hb.sz; (try simp at hs); (try have hs0 := hs w.heap.size (by omega)); (try have hs1 := hs (w.heap.size + 1) (by omega)); (try have hs2 := hs (w.heap.size + 1 + 1) (by omega)); (try have hs3 := hs (w.heap.size + 1 + 1 + 1) (by omega))) | (go_at_call 24; with_reducible refine Calls.mono (GB.out _) ?_; rintro e w1 ⟨rfl, hb⟩; have hc := hb.ccell; have hf := hb.frz; have hs := hb.sz; (try simp at hs); (try have hs0 := hs w.heap.size (by omega)); (try have hs1 := hs (w.heap.size + 1) (by omega)); (try have hs2 := hs (w.heap.size + 1 + 1) (by omega)); (try have hs3 := hs (w.heap.size + 1 + 1 + 1) (by omega))) | (go_at_call 24; with_reducible refine Calls.mono (GC.out _) ?_; rintro e w1 ⟨rfl, hb⟩; have hc := hb.ccell; have hf := hb.frz; have hs := hb.sz; (try simp at hs); (try have hs0 := hs w.heap.size (by omega)); (try have hs1 := hs (w.heap.size + 1) (by omega)); (try have hs2 := hs (w.heap.size + 1 + 1) (by omega)); (try have hs3 := hs (w.heap.size + 1 + 1 + 1) (by omega))))
      go_ret
      exact ⟨rfl, by (repeat (first | with_reducible exact Ext.rfl' _ | with_reducible assumption | with_reducible refine Ext.al ?_ _ | with_reducible refine Ext.dr ?_ | with_reducible refine Ext.st ?_ (by simp) _ | with_reducible refine Ext.tr ?_ (by assumption)))⟩
  · have G' := G
    rw [allGood_three] at G'
    simp only [Bool.and_eq_true] at G'
    obtain ⟨ga, gb, gc⟩ := G'
    have GA := Lib.hid (good_of_c _ _ _ ga)
    have GB := Lib.hid (good_of_c _ _ _ gb)
    have GC := Lib.hid (good_of_c _ _ _ gc)
    by_cases hne : (⟨ax, ay⟩ : Pt) = ⟨bx, by_⟩
    · have hx : ax = bx := congrArg Pt.x hne
      have hy : ay = by_ := congrArg Pt.y hne
      subst hx hy
      have e := lineE_one G
      unfold offV at hO
      unfold alongV at hA
      rw [e] at hO hA
      simp only [show (11 : Int) ≠ 0 by omega, if_false] at hO hA
      have HO := Lib.hid hO
      have HA := Lib.hid hA
      clear hO hA e G ga gb gc hne
      go_enter Try.func4, Try.ntmps4
      go_wp2_with (first | (go_at_call 19; refine Calls.mono (awake_c _) ?_; rintro e w1 ⟨rfl, hb⟩; have hc := hb.ccell; have hf := hb.frz; have hs := hb.sz; (try simp at hs); (try have hs0 := hs w.heap.size (by omega)); (try have hs1 := hs (w.heap.size + 1) (by omega)); (try have hs2 := hs (w.heap.size + 1 + 1) (by omega)); (try have hs3 := hs (w.heap.size + 1 + 1 + 1) (by omega))) | (go_at_call 29; with_reducible refine Calls.mono (HO.out _) ?_; rintro e w1 ⟨rfl, hb⟩; have hc := hb.ccell; have hf := hb.frz; have hs := hb.sz; (try simp at hs); (try have hs0 := hs w.heap.size (by omega)); (try have hs1 := hs (w.heap.size + 1) (by omega)); (try have hs2 := hs (w.heap.size + 1 + 1) (by omega)); (try have hs3 := hs (w.heap.size + 1 + 1 + 1) (by omega))) | (go_at_call 30; with_reducible refine Calls.mono (HA.out _) ?_; rintro e w1 ⟨rfl, hb⟩; have hc := hb.ccell; have hf := hb.frz; have hs := hb.sz; (try simp at hs); (try have hs0 := hs w.heap.size (by omega)); (try have hs1 := hs (w.heap.size + 1) (by omega)); (try have hs2 := hs (w.heap.size + 1 + 1) (by omega)); (try have hs3 := hs (w.heap.size + 1 + 1 + 1) (by omega))) | (go_at_call 24; with_reducible refine Calls.mono (GA.out _) ?_; rintro e w1 ⟨rfl, hb⟩; have hc := hb.ccell; have hf := hb.frz; have hs := hb.sz; (try simp at hs); (try have hs0 := hs w.heap.size (by omega)); (try have hs1 := hs (w.heap.size + 1) (by omega)); (try have hs2 := hs (w.heap.size + 1 + 1) (by omega)); (try have hs3 := hs (w.heap.size + 1 + 1 + 1) (by omega))) | (go_at_call 24; with_reducible refine Calls.mono (GB.out _) ?_; rintro e w1 ⟨rfl, hb⟩; have hc := hb.ccell; have hf := hb.frz; have hs := hb.sz; (try simp at hs); (try have hs0 := hs w.heap.size (by omega)); (try have hs1 := hs (w.heap.size + 1) (by omega)); (try have hs2 := hs (w.heap.size + 1 + 1) (by omega)); (try have hs3 := hs (w.heap.size + 1 + 1 + 1) (by omega))) | (go_at_call 24; with_reducible refine Calls.mono (GC.out _) ?_; rintro e w1 ⟨rfl, hb⟩; have hc := hb.ccell; have hf := hb.frz; have hs := hb.sz; (try simp at hs); (try have hs0 := hs w.heap.size (by omega)); (try have hs1 := hs (w.heap.size + 1) (by omega)); (try have hs2 := hs (w.heap.size + 1 + 1) (by omega)); (try have hs3 := hs (w.heap.size + 1 + 1 + 1) (by omega))))
      go_ret
      exact ⟨rfl, by (repeat (first | with_reducible exact Ext.rfl' _ | with_reducible assumption | with_reducible refine Ext.al ?_ _ | with_reducible refine Ext.dr ?_ | with_reducible refine Ext.st ?_ (by simp) _ | with_reducible refine Ext.tr ?_ (by assumption)))⟩
    · have e := lineE_ok G hne
      have hp := spanG_pos ga gb hne
      have hd := dotZ_bound ga gb gc
      rw [← dotW_good ga gb gc] at hd
      have hes := spanG_eq _ _ ga gb
      have hRO := fun w => roffset_c ax ay bx by_ cx cy w (by rw [← hes]; omega)
      have hRA := fun w => ralong_c ax ay bx by_ cx cy w (by rw [← hes]; omega) (by rw [← hes]; omega) (by omega) (by omega)
      have hs := off_same _ _ _ ga gb gc
      unfold offV at hO
      unfold alongV at hA
      rw [e] at hO hA
      simp only [if_true] at hO hA
      rw [hs] at hRO
      rw [← hes] at hRA
      generalize wrap64 ((sizeW (crossW ⟨ax, ay⟩ ⟨bx, by_⟩ ⟨cx, cy⟩)).tdiv (spanG ⟨ax, ay⟩ ⟨bx, by_⟩)) = r at hO hRO
      generalize dotW ⟨ax, ay⟩ ⟨bx, by_⟩ ⟨cx, cy⟩ / spanG ⟨ax, ay⟩ ⟨bx, by_⟩ = q at hA hRA
      have HO := Lib.hid hO
      have HA := Lib.hid hA
      have HRO := Lib.hid hRO
      have HRA := Lib.hid hRA
      have hneq : ax = bx → ¬ ay = by_ := by
        intro h1 h2; exact hne (by rw [h1, h2])
      clear hO hA hRO hRA e G ga gb gc hne hp hd hes hs
      by_cases hx : ax = bx
      · subst hx
        have hy := hneq rfl
        clear hneq
        go_enter Try.func4, Try.ntmps4
        go_wp2_with (first | (go_at_call 19; refine Calls.mono (awake_c _) ?_; rintro e w1 ⟨rfl, hb⟩; have hc := hb.ccell; have hf := hb.frz; have hs := hb.sz; (try simp at hs); (try have hs0 := hs w.heap.size (by omega)); (try have hs1 := hs (w.heap.size + 1) (by omega)); (try have hs2 := hs (w.heap.size + 1 + 1) (by omega)); (try have hs3 := hs (w.heap.size + 1 + 1 + 1) (by omega))) | (go_at_call 29; with_reducible refine Calls.mono (HO.out _) ?_; rintro e w1 ⟨rfl, hb⟩; have hc := hb.ccell; have hf := hb.frz; have hs := hb.sz; (try simp at hs); (try have hs0 := hs w.heap.size (by omega)); (try have hs1 := hs (w.heap.size + 1) (by omega)); (try have hs2 := hs (w.heap.size + 1 + 1) (by omega)); (try have hs3 := hs (w.heap.size + 1 + 1 + 1) (by omega))) | (go_at_call 30; with_reducible refine Calls.mono (HA.out _) ?_; rintro e w1 ⟨rfl, hb⟩; have hc := hb.ccell; have hf := hb.frz; have hs := hb.sz; (try simp at hs); (try have hs0 := hs w.heap.size (by omega)); (try have hs1 := hs (w.heap.size + 1) (by omega)); (try have hs2 := hs (w.heap.size + 1 + 1) (by omega)); (try have hs3 := hs (w.heap.size + 1 + 1 + 1) (by omega))) | (go_at_call 24; with_reducible refine Calls.mono (GA.out _) ?_; rintro e w1 ⟨rfl, hb⟩; have hc := hb.ccell; have hf := hb.frz; have hs := hb.sz; (try simp at hs); (try have hs0 := hs w.heap.size (by omega)); (try have hs1 := hs (w.heap.size + 1) (by omega)); (try have hs2 := hs (w.heap.size + 1 + 1) (by omega)); (try have hs3 := hs (w.heap.size + 1 + 1 + 1) (by omega))) | (go_at_call 24; with_reducible refine Calls.mono (GB.out _) ?_; rintro e w1 ⟨rfl, hb⟩; have hc := hb.ccell; have hf := hb.frz; have hs := hb.sz; (try simp at hs); (try have hs0 := hs w.heap.size (by omega)); (try have hs1 := hs (w.heap.size + 1) (by omega)); (try have hs2 := hs (w.heap.size + 1 + 1) (by omega)); (try have hs3 := hs (w.heap.size + 1 + 1 + 1) (by omega))) | (go_at_call 24; with_reducible refine Calls.mono (GC.out _) ?_; rintro e w1 ⟨rfl, hb⟩; have hc := hb.ccell; have hf := hb.frz; have hs := hb.sz; (try simp at hs); (try have hs0 := hs w.heap.size (by omega)); (try have hs1 := hs (w.heap.size + 1) (by omega)); (try have hs2 := hs (w.heap.size + 1 + 1) (by omega)); (try have hs3 := hs (w.heap.size + 1 + 1 + 1) (by omega))) | (go_at_call 31; with_reducible refine Calls.mono (HRO.out _) ?_; rintro e w1 ⟨rfl, hb⟩; have hc := hb.ccell; have hf := hb.frz; have hs := hb.sz; (try simp at hs); (try have hs0 := hs w.heap.size (by omega)); (try have hs1 := hs (w.heap.size + 1) (by omega)); (try have hs2 := hs (w.heap.size + 1 + 1) (by omega)); (try have hs3 := hs (w.heap.size + 1 + 1 + 1) (by omega))) | (go_at_call 32; with_reducible refine Calls.mono (HRA.out _) ?_; rintro e w1 ⟨rfl, hb⟩; have hc := hb.ccell; have hf := hb.frz; have hs := hb.sz; (try simp at hs); (try have hs0 := hs w.heap.size (by omega)); (try have hs1 := hs (w.heap.size + 1) (by omega)); (try have hs2 := hs (w.heap.size + 1 + 1) (by omega)); (try have hs3 := hs (w.heap.size + 1 + 1 + 1) (by omega))))
        go_ret
        exact ⟨rfl, by (repeat (first | with_reducible exact Ext.rfl' _ | with_reducible assumption | with_reducible refine Ext.al ?_ _ | with_reducible refine Ext.dr ?_ | with_reducible refine Ext.st ?_ (by simp) _ | with_reducible refine Ext.tr ?_ (by assumption)))⟩
      · clear hneq
        go_enter Try.func4, Try.ntmps4
        go_wp2_with (first | (go_at_call 19; refine Calls.mono (awake_c _) ?_; rintro e w1 ⟨rfl, hb⟩; have hc := hb.ccell; have hf := hb.frz; have hs := hb.sz; (try simp at hs); (try have hs0 := hs w.heap.size (by omega)); (try have hs1 := hs (w.heap.size + 1) (by omega)); (try have hs2 := hs (w.heap.size + 1 + 1) (by omega)); (try have hs3 := hs (w.heap.size + 1 + 1 + 1) (by omega))) | (go_at_call 29; with_reducible refine Calls.mono (HO.out _) ?_; rintro e w1 ⟨rfl, hb⟩; have hc := hb.ccell; have hf := hb.frz; have hs := hb.sz; (try simp at hs); (try have hs0 := hs w.heap.size (by omega)); (try have hs1 := hs (w.heap.size + 1) (by omega)); (try have hs2 := hs (w.heap.size + 1 + 1) (by omega)); (try have hs3 := hs (w.heap.size + 1 + 1 + 1) (by omega))) | (go_at_call 30; with_reducible refine Calls.mono (HA.out _) ?_; rintro e w1 ⟨rfl, hb⟩; have hc := hb.ccell; have hf := hb.frz; have hs := hb.sz; (try simp at hs); (try have hs0 := hs w.heap.size (by omega)); (try have hs1 := hs (w.heap.size + 1) (by omega)); (try have hs2 := hs (w.heap.size + 1 + 1) (by omega)); (try have hs3 := hs (w.heap.size + 1 + 1 + 1) (by omega))) | (go_at_call 24; with_reducible refine Calls.mono (GA.out _) ?_; rintro e w1 ⟨rfl, hb⟩; have hc := hb.ccell; have hf := hb.frz; have hs := hb.sz; (try simp at hs); (try have hs0 := hs w.heap.size (by omega)); (try have hs1 := hs (w.heap.size + 1) (by omega)); (try have hs2 := hs (w.heap.size + 1 + 1) (by omega)); (try have hs3 := hs (w.heap.size + 1 + 1 + 1) (by omega))) | (go_at_call 24; with_reducible refine Calls.mono (GB.out _) ?_; rintro e w1 ⟨rfl, hb⟩; have hc := hb.ccell; have hf := hb.frz; have hs := hb.sz; (try simp at hs); (try have hs0 := hs w.heap.size (by omega)); (try have hs1 := hs (w.heap.size + 1) (by omega)); (try have hs2 := hs (w.heap.size + 1 + 1) (by omega)); (try have hs3 := hs (w.heap.size + 1 + 1 + 1) (by omega))) | (go_at_call 24; with_reducible refine Calls.mono (GC.out _) ?_; rintro e w1 ⟨rfl, hb⟩; have hc := hb.ccell; have hf := hb.frz; have hs := hb.sz; (try simp at hs); (try have hs0 := hs w.heap.size (by omega)); (try have hs1 := hs (w.heap.size + 1) (by omega)); (try have hs2 := hs (w.heap.size + 1 + 1) (by omega)); (try have hs3 := hs (w.heap.size + 1 + 1 + 1) (by omega))) | (go_at_call 31; with_reducible refine Calls.mono (HRO.out _) ?_; rintro e w1 ⟨rfl, hb⟩; have hc := hb.ccell; have hf := hb.frz; have hs := hb.sz; (try simp at hs); (try have hs0 := hs w.heap.size (by omega)); (try have hs1 := hs (w.heap.size + 1) (by omega)); (try have hs2 := hs (w.heap.size + 1 + 1) (by omega)); (try have hs3 := hs (w.heap.size + 1 + 1 + 1) (by omega))) | (go_at_call 32; with_reducible refine Calls.mono (HRA.out _) ?_; rintro e w1 ⟨rfl, hb⟩; have hc := hb.ccell; have hf := hb.frz; have hs := hb.sz; (try simp at hs); (try have hs0 := hs w.heap.size (by omega)); (try have hs1 := hs (w.heap.size + 1) (by omega)); (try have hs2 := hs (w.heap.size + 1 + 1) (by omega)); (try have hs3 := hs (w.heap.size + 1 + 1 + 1) (by omega))))
        go_ret
        exact ⟨rfl, by (repeat (first | with_reducible exact Ext.rfl' _ | with_reducible assumption | with_reducible refine Ext.al ?_ _ | with_reducible refine Ext.dr ?_ | with_reducible refine Ext.st ?_ (by simp) _ | with_reducible refine Ext.tr ?_ (by assumption)))⟩
end Go.Proofs.Ytcdbekmcobghbaa

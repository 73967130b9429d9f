/- Contracts of the functions of package soil that only compute, of its test of a place. -/
import Derived.Test.YtgbkjioajmnjbaaGreatSname
import Derived.Test.YtgbkjioajmnjbaaGreatPts2
namespace Go.Proofs.YtgbkjioajmnjbaaGreat
open Go Go.RowKit Go.IntWalk

theorem swithin_c (n lo hi : Int) (w : World) :
    Calls Tryz.prog 27 #[.int .i64 n, .int .i64 lo, .int .i64 hi] w fun e w' => e = .returned (.bool (withinB n lo hi)) ∧ w = w' := by
  unfold withinB
  go_enter Tryz.func27, Tryz.ntmps27
  by_cases h : lo ≤ n
  · go_wp2; go_ret; exact ⟨ret_bool (by first | (simp [h]; done) | (simp [h]; omega)), rfl⟩
  · go_wp2; go_ret; exact ⟨ret_bool (by first | (simp; done) | (simp; omega)), rfl⟩
theorem sLevel_c (n : Int) (w : World) :
    Calls Tryz.prog 26 #[.int .i64 n] w fun e w' => e = .returned (.bool (lvB n)) ∧ w = w' := by
  unfold lvB
  go_enter Tryz.func26, Tryz.ntmps26
  go_wp2_with (first | (go_at_call 27; refine Calls.mono (swithin_c _ _ _ _) ?_; rintro e w' ⟨rfl, rfl⟩))
  go_ret; exact ⟨rfl, rfl⟩
theorem isBulk_c (a b : Int) (w : World) :
    Calls Tryz.prog 113 #[.agg #[.int .i64 a, .int .i64 b]] w fun e w' => e = .returned (.bool (withinB a 1 1000 && (withinB b 1 1000 && decide (b ≤ a)))) ∧ Ext w w' := by
  have HA := Lib.hid (fun w => swithin_c a 1 1000 w)
  have HB := Lib.hid (fun w => swithin_c b 1 1000 w)
  cases h1 : withinB a 1 1000
  · rw [h1] at HA
    clear h1
    go_enter Tryz.func113, Tryz.ntmps113
    go_wp2_with (first | (go_at_call 27; with_reducible refine Calls.mono (HA.out _) ?_; rintro e w' ⟨rfl, rfl⟩) | (go_at_call 27; with_reducible refine Calls.mono (HB.out _) ?_; rintro e w' ⟨rfl, rfl⟩))
    go_ret; exact ⟨rfl, by (repeat (first | with_reducible exact Ext.rfl' _ | with_reducible assumption | with_reducible refine Ext.al ?_ _ | with_reducible refine Ext.dr ?_ | with_reducible refine Ext.st ?_ (by simp) _ | with_reducible refine Ext.tr ?_ (by assumption)))⟩
  rw [h1] at HA
  cases h2 : withinB b 1 1000
  · rw [h2] at HB
    clear h1 h2
    go_enter Tryz.func113, Tryz.ntmps113
    go_wp2_with (first | (go_at_call 27; with_reducible refine Calls.mono (HA.out _) ?_; rintro e w' ⟨rfl, rfl⟩) | (go_at_call 27; with_reducible refine Calls.mono (HB.out _) ?_; rintro e w' ⟨rfl, rfl⟩))
    all_goals (go_ret; exact ⟨rfl, by (repeat (first | with_reducible exact Ext.rfl' _ | with_reducible assumption | with_reducible refine Ext.al ?_ _ | with_reducible refine Ext.dr ?_ | with_reducible refine Ext.st ?_ (by simp) _ | with_reducible refine Ext.tr ?_ (by assumption)))⟩)
  rw [h2] at HB
  clear h1 h2
  go_enter Tryz.func113, Tryz.ntmps113
  go_wp2_with (first | (go_at_call 27; with_reducible refine Calls.mono (HA.out _) ?_; rintro e w' ⟨rfl, rfl⟩) | (go_at_call 27; with_reducible refine Calls.mono (HB.out _) ?_; rintro e w' ⟨rfl, rfl⟩))
  all_goals (go_ret; exact ⟨ret_bool (by simp), by (repeat (first | with_reducible exact Ext.rfl' _ | with_reducible assumption | with_reducible refine Ext.al ?_ _ | with_reducible refine Ext.dr ?_ | with_reducible refine Ext.st ?_ (by simp) _ | with_reducible refine Ext.tr ?_ (by assumption)))⟩)
theorem isNoName_c (s : ByteArray) (w : World) :
    Calls Tryz.prog 109 #[.string s] w fun e w' => e = .returned (.bool (!nameB s)) ∧ w = w' := by
  go_enter Tryz.func109, Tryz.ntmps109
  go_wp2_with (first | (go_at_call 24; refine Calls.mono (isName_c _ _) ?_; rintro e w' ⟨rfl, rfl⟩))
  go_ret; exact ⟨rfl, rfl⟩
theorem checkCount_c (n : Nat) (m : Int) (w : World) :
    Calls Tryz.prog 94 #[.int .i64 (n : Int), .int .i64 m] w fun e w' => e = .returned (.int .i64 (cntE n m)) ∧ w = w' := by
  unfold cntE
  by_cases h0 : n = 0
  · rw [if_pos h0]
    subst h0
    go_enter Tryz.func94, Tryz.ntmps94
    go_wp2
    go_ret; exact ⟨rfl, rfl⟩
  · rw [if_neg h0]
    have h0' : ((n : Int) == 0) = false := by rw [beq_eq_false_iff_ne]; omega
    by_cases h1 : m < (n : Int)
    · rw [if_pos h1]
      go_enter Tryz.func94, Tryz.ntmps94
      go_wp2
      go_ret; exact ⟨rfl, rfl⟩
    · rw [if_neg h1]
      go_enter Tryz.func94, Tryz.ntmps94
      go_wp2
      go_ret; exact ⟨rfl, rfl⟩
theorem gcheck_c (l : List Pt) (w : World) (A : Option Addr) (c : Nat) (hl : l.length ≤ maxLen) (hA : Row 2 encP w A l) :
    Calls Tryz.prog 47 #[.slice A l.length c] w
      fun e w' => e = .returned (.int .i64 (if 64 < l.length then 8 else if allGood l then 0 else 2)) ∧ Ext w w' := by
  by_cases h : 64 < l.length
  · have h' : (64 : Int) < (l.length : Int) := by omega
    rw [if_pos h]
    go_enter Tryz.func47, Tryz.ntmps47
    go_wp2
    go_ret
    exact ⟨rfl, Ext.rfl' _⟩
  · have h' : (l.length : Int) ≤ 64 := by omega
    rw [if_neg h]
    have HL := Lib.hid hl
    clear hl
    cases h2 : allGood l
    all_goals
      go_enter Tryz.func47, Tryz.ntmps47
      go_wp2_with (first | (go_at_call 69; refine Calls.mono (inRange_c l _ _ _ HL.out hA) ?_; rintro e w1 ⟨rfl, hb⟩; have hc := hb.ccell; have hf := hb.frz; have hs := hb.sz; (try simp at hs); (try have hs0 := hs w.heap.size (by omega)); (try have hs1 := hs (w.heap.size + 1) (by omega)); (try have hs2 := hs (w.heap.size + 1 + 1) (by omega)); (try have hs3 := hs (w.heap.size + 1 + 1 + 1) (by omega))))
      go_ret
      exact ⟨rfl, by (repeat (first | with_reducible exact Ext.rfl' _ | with_reducible assumption | with_reducible refine Ext.al ?_ _ | with_reducible refine Ext.dr ?_ | with_reducible refine Ext.st ?_ (by simp) _ | with_reducible refine Ext.tr ?_ (by assumption)))⟩
theorem plB_good (x y : Int) : allGood [⟨x, y⟩] = plB x y := by simp [allGood, good, plB]
theorem gcheck1_c (x y : Int) (w : World) (c n : Nat) (t : TypeId) (hn : n = w.heap.size) :
    Calls Tryz.prog 47 #[.slice (some ⟨n, 0, none⟩) 1 c] (w.alloc (.cells #[.int .i64 x, .int .i64 y] t))
      fun e w' => e = .returned (.int .i64 (if plB x y = true then 0 else 2)) ∧ Ext (w.alloc (.cells #[.int .i64 x, .int .i64 y] t)) w' := by
  have := gcheck_c [⟨x, y⟩] (w.alloc (.cells #[.int .i64 x, .int .i64 y] t)) (some ⟨n, 0, none⟩) c (small_len (by simp)) (Row.new' encP_len _ _ _ _ _ hn rfl)
  rw [plB_good] at this
  exact this
theorem sPlace_c (x y : Int) (w : World) :
    Calls Tryz.prog 25 #[.agg #[.int .i64 x, .int .i64 y]] w fun e w' => e = .returned (.bool (plB x y)) ∧ Ext w w' := by
  have H := Lib.hid (fun w c n t hn => gcheck1_c x y w c n t hn)
  cases h : plB x y
  all_goals
    rw [h] at H
    clear h
    go_enter Tryz.func25, Tryz.ntmps25
    go_wp2_with (first | (go_at_call 47; refine Calls.mono (H.out _ _ _ _ ?_) ?_; (focus simp); rintro e w1 ⟨rfl, hb⟩; have hc := hb.ccell; have hf := hb.frz; have hs := hb.sz; (try simp at hs); (try have hs0 := hs w.heap.size (by omega)); (try have hs1 := hs (w.heap.size + 1) (by omega)); (try have hs2 := hs (w.heap.size + 1 + 1) (by omega)); (try have hs3 := hs (w.heap.size + 1 + 1 + 1) (by omega))))
    go_ret
    exact ⟨rfl, by (repeat (first | with_reducible exact Ext.rfl' _ | with_reducible assumption | with_reducible refine Ext.al ?_ _ | with_reducible refine Ext.dr ?_ | with_reducible refine Ext.st ?_ (by simp) _ | with_reducible refine Ext.tr ?_ (by assumption)))⟩
end Go.Proofs.YtgbkjioajmnjbaaGreat

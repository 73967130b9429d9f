/- Between and Meet, the reference's Meet, and what they have in common. -/
import Derived.Test.YtgnakeemcccfjaaGreatSeg2
import Derived.Test.YtgnakeemcccfjaaGreatPure5
namespace Go.Proofs.YtgnakeemcccfjaaGreat
open Go Go.RowKit Go.IntWalk

def signsApart (x y : Int) : Bool := decide (wrap64 (cmpI x 0 * cmpI y 0) < 0)
def meetR (a b c d : Pt) : Bool := betweenW a b c || (betweenW a b d || (betweenW c d a || (betweenW c d b || (signsApart (crossW a b c) (crossW a b d) && signsApart (crossW c d a) (crossW c d b)))))
set_option maxHeartbeats 1000000 in
theorem rmeet_c (ax ay bx by_ cx cy dx dy : Int) (w : World) :
    Calls Tryz.prog 41 #[.agg #[.int .i64 ax, .int .i64 ay], .agg #[.int .i64 bx, .int .i64 by_], .agg #[.int .i64 cx, .int .i64 cy], .agg #[.int .i64 dx, .int .i64 dy]] w
      fun e w' => e = .returned (.bool (meetR ⟨ax, ay⟩ ⟨bx, by_⟩ ⟨cx, cy⟩ ⟨dx, dy⟩)) ∧ Ext w w' := by
  unfold meetR
  have HB1 := Lib.hid (fun w => rbetween_c ax ay bx by_ cx cy w)
  have HB2 := Lib.hid (fun w => rbetween_c ax ay bx by_ dx dy w)
  have HB3 := Lib.hid (fun w => rbetween_c cx cy dx dy ax ay w)
  have HB4 := Lib.hid (fun w => rbetween_c cx cy dx dy bx by_ w)
  have HO1 := Lib.hid (fun w => rorient_c ax ay bx by_ cx cy w)
  have HO2 := Lib.hid (fun w => rorient_c ax ay bx by_ dx dy w)
  have HO3 := Lib.hid (fun w => rorient_c cx cy dx dy ax ay w)
  have HO4 := Lib.hid (fun w => rorient_c cx cy dx dy bx by_ w)
  unfold signsApart
  generalize betweenW ⟨ax, ay⟩ ⟨bx, by_⟩ ⟨cx, cy⟩ = r1 at *
  generalize betweenW ⟨ax, ay⟩ ⟨bx, by_⟩ ⟨dx, dy⟩ = r2 at *
  generalize betweenW ⟨cx, cy⟩ ⟨dx, dy⟩ ⟨ax, ay⟩ = r3 at *
  generalize betweenW ⟨cx, cy⟩ ⟨dx, dy⟩ ⟨bx, by_⟩ = r4 at *
  generalize cmpI (crossW ⟨ax, ay⟩ ⟨bx, by_⟩ ⟨cx, cy⟩) 0 = o1 at *
  generalize cmpI (crossW ⟨ax, ay⟩ ⟨bx, by_⟩ ⟨dx, dy⟩) 0 = o2 at *
  generalize cmpI (crossW ⟨cx, cy⟩ ⟨dx, dy⟩ ⟨ax, ay⟩) 0 = o3 at *
  generalize cmpI (crossW ⟨cx, cy⟩ ⟨dx, dy⟩ ⟨bx, by_⟩) 0 = o4 at *
  cases r1
  · cases r2
    · cases r3
      · cases r4
        · cases hd : decide (wrap64 (o1 * o2) < 0)
          all_goals
            go_enter Tryz.func41, Tryz.ntmps41
            go_wp2_with (first | (go_at_call 40; with_reducible refine Calls.mono (HB1.out _) ?_; rintro e w1 ⟨rfl, hb⟩; have hc := hb.ccell; have hf := hb.frz; have hs := hb.sz; (try simp at hs); (try have hs0 := hs w.heap.size (by omega)); (try have hs1 := hs (w.heap.size + 1) (by omega)); (try have hs2 := hs (w.heap.size + 1 + 1) (by omega)); (try have hs3 := hs (w.heap.size + 1 + 1 + 1) (by omega))) | (go_at_call 40; with_reducible refine Calls.mono (HB2.out _) ?_; rintro e w1 ⟨rfl, hb⟩; have hc := hb.ccell; have hf := hb.frz; have hs := hb.sz; (try simp at hs); (try have hs0 := hs w.heap.size (by omega)); (try have hs1 := hs (w.heap.size + 1) (by omega)); (try have hs2 := hs (w.heap.size + 1 + 1) (by omega)); (try have hs3 := hs (w.heap.size + 1 + 1 + 1) (by omega))) | (go_at_call 40; with_reducible refine Calls.mono (HB3.out _) ?_; rintro e w1 ⟨rfl, hb⟩; have hc := hb.ccell; have hf := hb.frz; have hs := hb.sz; (try simp at hs); (try have hs0 := hs w.heap.size (by omega)); (try have hs1 := hs (w.heap.size + 1) (by omega)); (try have hs2 := hs (w.heap.size + 1 + 1) (by omega)); (try have hs3 := hs (w.heap.size + 1 + 1 + 1) (by omega))) | (go_at_call 40; with_reducible refine Calls.mono (HB4.out _) ?_; rintro e w1 ⟨rfl, hb⟩; have hc := hb.ccell; have hf := hb.frz; have hs := hb.sz; (try simp at hs); (try have hs0 := hs w.heap.size (by omega)); (try have hs1 := hs (w.heap.size + 1) (by omega)); (try have hs2 := hs (w.heap.size + 1 + 1) (by omega)); (try have hs3 := hs (w.heap.size + 1 + 1 + 1) (by omega))))
            refine region_grow (by kernel_rfl) (by kernel_rfl) ?_
            repeat (first | go_big_quiet_step (first | (go_at_call 52; with_reducible exact callsGrow (HO1.out _)) | (go_at_call 52; with_reducible exact callsGrow (HO2.out _)) | (go_at_call 52; with_reducible exact callsGrow (HO3.out _)) | (go_at_call 52; with_reducible exact callsGrow (HO4.out _)) | fail) | quiet_step (first | (go_at_call 52; with_reducible exact callsGrow (HO1.out _)) | (go_at_call 52; with_reducible exact callsGrow (HO2.out _)) | (go_at_call 52; with_reducible exact callsGrow (HO3.out _)) | (go_at_call 52; with_reducible exact callsGrow (HO4.out _)) | fail))
            refine wpQuiet_nil ?_
            intro w1 hb
            have hc := hb.ccell
            have hf := hb.frz
            have hs := hb.sz
            (try simp at hs); (try have hs0 := hs w.heap.size (by omega)); (try have hs1 := hs (w.heap.size + 1) (by omega)); (try have hs2 := hs (w.heap.size + 1 + 1) (by omega)); (try have hs3 := hs (w.heap.size + 1 + 1 + 1) (by omega))
            (try simp only [IntWalk.i64_left])
            go_wp2
            go_ret
            exact ⟨by first | (simp; done) | (simp; rfl), by (repeat (first | with_reducible exact Ext.rfl' _ | with_reducible assumption | with_reducible refine Ext.al ?_ _ | with_reducible refine Ext.dr ?_ | with_reducible refine Ext.st ?_ (by simp) _ | with_reducible refine Ext.tr ?_ (by assumption)))⟩
        · go_enter Tryz.func41, Tryz.ntmps41
          go_wp2_with (first | (go_at_call 40; with_reducible refine Calls.mono (HB1.out _) ?_; rintro e w1 ⟨rfl, hb⟩; have hc := hb.ccell; have hf := hb.frz; have hs := hb.sz; (try simp at hs); (try have hs0 := hs w.heap.size (by omega)); (try have hs1 := hs (w.heap.size + 1) (by omega)); (try have hs2 := hs (w.heap.size + 1 + 1) (by omega)); (try have hs3 := hs (w.heap.size + 1 + 1 + 1) (by omega))) | (go_at_call 40; with_reducible refine Calls.mono (HB2.out _) ?_; rintro e w1 ⟨rfl, hb⟩; have hc := hb.ccell; have hf := hb.frz; have hs := hb.sz; (try simp at hs); (try have hs0 := hs w.heap.size (by omega)); (try have hs1 := hs (w.heap.size + 1) (by omega)); (try have hs2 := hs (w.heap.size + 1 + 1) (by omega)); (try have hs3 := hs (w.heap.size + 1 + 1 + 1) (by omega))) | (go_at_call 40; with_reducible refine Calls.mono (HB3.out _) ?_; rintro e w1 ⟨rfl, hb⟩; have hc := hb.ccell; have hf := hb.frz; have hs := hb.sz; (try simp at hs); (try have hs0 := hs w.heap.size (by omega)); (try have hs1 := hs (w.heap.size + 1) (by omega)); (try have hs2 := hs (w.heap.size + 1 + 1) (by omega)); (try have hs3 := hs (w.heap.size + 1 + 1 + 1) (by omega))) | (go_at_call 40; with_reducible refine Calls.mono (HB4.out _) ?_; rintro e w1 ⟨rfl, hb⟩; have hc := hb.ccell; have hf := hb.frz; have hs := hb.sz; (try simp at hs); (try have hs0 := hs w.heap.size (by omega)); (try have hs1 := hs (w.heap.size + 1) (by omega)); (try have hs2 := hs (w.heap.size + 1 + 1) (by omega)); (try have hs3 := hs (w.heap.size + 1 + 1 + 1) (by omega))))
          go_ret
          exact ⟨by simp, by (repeat (first | with_reducible exact Ext.rfl' _ | with_reducible assumption | with_reducible refine Ext.al ?_ _ | with_reducible refine Ext.dr ?_ | with_reducible refine Ext.st ?_ (by simp) _ | with_reducible refine Ext.tr ?_ (by assumption)))⟩
      · go_enter Tryz.func41, Tryz.ntmps41
        go_wp2_with (first | (go_at_call 40; with_reducible refine Calls.mono (HB1.out _) ?_; rintro e w1 ⟨rfl, hb⟩; have hc := hb.ccell; have hf := hb.frz; have hs := hb.sz; (try simp at hs); (try have hs0 := hs w.heap.size (by omega)); (try have hs1 := hs (w.heap.size + 1) (by omega)); (try have hs2 := hs (w.heap.size + 1 + 1) (by omega)); (try have hs3 := hs (w.heap.size + 1 + 1 + 1) (by omega))) | (go_at_call 40; with_reducible refine Calls.mono (HB2.out _) ?_; rintro e w1 ⟨rfl, hb⟩; have hc := hb.ccell; have hf := hb.frz; have hs := hb.sz; (try simp at hs); (try have hs0 := hs w.heap.size (by omega)); (try have hs1 := hs (w.heap.size + 1) (by omega)); (try have hs2 := hs (w.heap.size + 1 + 1) (by omega)); (try have hs3 := hs (w.heap.size + 1 + 1 + 1) (by omega))) | (go_at_call 40; with_reducible refine Calls.mono (HB3.out _) ?_; rintro e w1 ⟨rfl, hb⟩; have hc := hb.ccell; have hf := hb.frz; have hs := hb.sz; (try simp at hs); (try have hs0 := hs w.heap.size (by omega)); (try have hs1 := hs (w.heap.size + 1) (by omega)); (try have hs2 := hs (w.heap.size + 1 + 1) (by omega)); (try have hs3 := hs (w.heap.size + 1 + 1 + 1) (by omega))))
        go_ret
        exact ⟨by simp, by (repeat (first | with_reducible exact Ext.rfl' _ | with_reducible assumption | with_reducible refine Ext.al ?_ _ | with_reducible refine Ext.dr ?_ | with_reducible refine Ext.st ?_ (by simp) _ | with_reducible refine Ext.tr ?_ (by assumption)))⟩
    · go_enter Tryz.func41, Tryz.ntmps41
      go_wp2_with (first | (go_at_call 40; with_reducible refine Calls.mono (HB1.out _) ?_; rintro e w1 ⟨rfl, hb⟩; have hc := hb.ccell; have hf := hb.frz; have hs := hb.sz; (try simp at hs); (try have hs0 := hs w.heap.size (by omega)); (try have hs1 := hs (w.heap.size + 1) (by omega)); (try have hs2 := hs (w.heap.size + 1 + 1) (by omega)); (try have hs3 := hs (w.heap.size + 1 + 1 + 1) (by omega))) | (go_at_call 40; with_reducible refine Calls.mono (HB2.out _) ?_; rintro e w1 ⟨rfl, hb⟩; have hc := hb.ccell; have hf := hb.frz; have hs := hb.sz; (try simp at hs); (try have hs0 := hs w.heap.size (by omega)); (try have hs1 := hs (w.heap.size + 1) (by omega)); (try have hs2 := hs (w.heap.size + 1 + 1) (by omega)); (try have hs3 := hs (w.heap.size + 1 + 1 + 1) (by omega))))
      go_ret
      exact ⟨by simp, by (repeat (first | with_reducible exact Ext.rfl' _ | with_reducible assumption | with_reducible refine Ext.al ?_ _ | with_reducible refine Ext.dr ?_ | with_reducible refine Ext.st ?_ (by simp) _ | with_reducible refine Ext.tr ?_ (by assumption)))⟩
  · go_enter Tryz.func41, Tryz.ntmps41
    go_wp2_with (first | (go_at_call 40; with_reducible refine Calls.mono (HB1.out _) ?_; rintro e w1 ⟨rfl, hb⟩; have hc := hb.ccell; have hf := hb.frz; have hs := hb.sz; (try simp at hs); (try have hs0 := hs w.heap.size (by omega)); (try have hs1 := hs (w.heap.size + 1) (by omega)); (try have hs2 := hs (w.heap.size + 1 + 1) (by omega)); (try have hs3 := hs (w.heap.size + 1 + 1 + 1) (by omega))))
    go_ret
    exact ⟨by simp, by (repeat (first | with_reducible exact Ext.rfl' _ | with_reducible assumption | with_reducible refine Ext.al ?_ _ | with_reducible refine Ext.dr ?_ | with_reducible refine Ext.st ?_ (by simp) _ | with_reducible refine Ext.tr ?_ (by assumption)))⟩

/-! ### What they have in common -/
section
variable {a b c d : Pt} (ga : good a = true) (gb : good b = true) (gc : good c = true) (gd : good d = true)
theorem betW_iff (ga : good a = true) (gb : good b = true) (gc : good c = true) : betweenW a b c = true ↔ betZ a b c := by
  unfold betweenW betZ withinB
  rw [crossW_good ga gb gc]
  simp
  omega
theorem betG_iff (ga : good a = true) (gb : good b = true) (gc : good c = true) : betweenG a b c = true ↔ betZ a b c := by
  unfold betweenG betZ ovl4
  rw [crossW_good ga gb gc]
  simp
  omega
theorem betG_W (ga : good a = true) (gb : good b = true) (gc : good c = true) : betweenG a b c = betweenW a b c := by
  rw [Bool.eq_iff_iff, betW_iff ga gb gc, betG_iff ga gb gc]
theorem reach_iff (ga : good a = true) (gb : good b = true) (gc : good c = true) (gd : good d = true) : reachB a b [c, d] = true ↔ rch (crossZ a b c) (crossZ a b d) := by
  unfold reachB rch
  simp only [List.any_cons, List.any_nil, Bool.or_false, Bool.and_eq_true, Bool.or_eq_true, decide_eq_true_eq]
  rw [crossW_good ga gb gc, crossW_good ga gb gd]
theorem meetG_iff (ga : good a = true) (gb : good b = true) (gc : good c = true) (gd : good d = true) : meetG a b c d = true ↔ ovlZ a b c d ∧ rch (crossZ a b c) (crossZ a b d) ∧ rch (crossZ c d a) (crossZ c d b) := by
  unfold meetG
  rw [Bool.and_eq_true, Bool.and_eq_true, reach_iff ga gb gc gd, reach_iff gc gd ga gb]
  have : ovl4 (min a.x b.x) (min a.y b.y) (max a.x b.x) (max a.y b.y) (min c.x d.x) (min c.y d.y) (max c.x d.x) (max c.y d.y) = true ↔ ovlZ a b c d := by
    unfold ovl4 ovlZ ovl1
    simp only [Bool.and_eq_true, decide_eq_true_eq]
    constructor
    · rintro ⟨h1, h2, h3, h4⟩; exact ⟨⟨h1, h2⟩, h3, h4⟩
    · rintro ⟨⟨h1, h2⟩, h3, h4⟩; exact ⟨h1, h2, h3, h4⟩
  rw [this]
theorem apart_iff (x y : Int) : signsApart x y = true ↔ x * y < 0 := by
  unfold signsApart cmpI
  rw [decide_eq_true_eq]
  rcases Int.lt_trichotomy x 0 with h | h | h <;> rcases Int.lt_trichotomy y 0 with k | k | k
  · have := Int.mul_pos_of_neg_of_neg h k
    simp only [h, k, if_true]; unfold wrap64; omega
  · subst k; simp; unfold wrap64; omega
  · have := Int.mul_neg_of_neg_of_pos h k
    simp only [h, k, show ¬ y < 0 by omega, if_true, if_false]; unfold wrap64; omega
  · subst h; simp; unfold wrap64; omega
  · subst h; simp; unfold wrap64; omega
  · subst h; simp; unfold wrap64; omega
  · have := Int.mul_neg_of_pos_of_neg h k
    simp only [h, k, show ¬ x < 0 by omega, if_true, if_false]; unfold wrap64; omega
  · subst k; simp; unfold wrap64; omega
  · have := Int.mul_pos h k
    simp only [h, k, show ¬ y < 0 by omega, show ¬ x < 0 by omega, if_true, if_false]; unfold wrap64; omega
theorem meetR_iff (ga : good a = true) (gb : good b = true) (gc : good c = true) (gd : good d = true) : meetR a b c d = true ↔ (betZ a b c ∨ betZ a b d ∨ betZ c d a ∨ betZ c d b ∨ (crossZ a b c * crossZ a b d < 0 ∧ crossZ c d a * crossZ c d b < 0)) := by
  unfold meetR
  rw [Bool.or_eq_true, Bool.or_eq_true, Bool.or_eq_true, Bool.or_eq_true, Bool.and_eq_true, betW_iff ga gb gc, betW_iff ga gb gd, betW_iff gc gd ga, betW_iff gc gd gb, apart_iff, apart_iff, crossW_good ga gb gc, crossW_good ga gb gd, crossW_good gc gd ga, crossW_good gc gd gb]
theorem meetR_G (ga : good a = true) (gb : good b = true) (gc : good c = true) (gd : good d = true) : meetR a b c d = meetG a b c d := by
  rw [Bool.eq_iff_iff, meetR_iff ga gb gc gd, meetG_iff ga gb gc gd, meet_iff]
theorem meetG_turn (ga : good a = true) (gb : good b = true) (gc : good c = true) (gd : good d = true) : meetG c d b a = meetG a b c d := by
  rw [Bool.eq_iff_iff, meetG_iff gc gd gb ga, meetG_iff ga gb gc gd, cross_anti a b c, cross_anti a b d, rch_neg, ovl_comm, ovl_swap', rch_swap (u := crossZ c d b)]
  exact ⟨fun ⟨h1, h2, h3⟩ => ⟨h1, h3, h2⟩, fun ⟨h1, h2, h3⟩ => ⟨h1, h3, h2⟩⟩
end
end Go.Proofs.YtgnakeemcccfjaaGreat

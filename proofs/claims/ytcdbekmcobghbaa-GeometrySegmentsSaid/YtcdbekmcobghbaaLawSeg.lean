/- Whether a point is on a segment, and whether two segments meet: the law returns true for every input. Conditions: none. -/
import Derived.Test.YtcdbekmcobghbaaSeg3
import Derived.Test.YtcdbekmcobghbaaCirc2
import Derived.Test.YtcdbekmcobghbaaAddsBad
import Derived.Deep.RegionHeld3
import Derived.Deep.DeepCutAuto
namespace Go.Proofs.Ytcdbekmcobghbaa
open Go Go.RowKit

theorem btw_is_c (ax ay bx by_ cx cy : Int) (v : Bool) (hv : (allGood [⟨ax, ay⟩, ⟨bx, by_⟩, ⟨cx, cy⟩] && betweenG ⟨ax, ay⟩ ⟨bx, by_⟩ ⟨cx, cy⟩) = v) (w : World) :
    Calls Try.prog 33 #[.agg #[.int .i64 ax, .int .i64 ay], .agg #[.int .i64 bx, .int .i64 by_], .agg #[.int .i64 cx, .int .i64 cy]] w
      fun e w' => e = .returned (.bool v) ∧ Ext w w' := by
  rw [← hv]; exact gbetween_c ax ay bx by_ cx cy w
theorem mt_is_c (ax ay bx by_ cx cy dx dy : Int) (v : Bool) (hv : (allGood [⟨ax, ay⟩, ⟨bx, by_⟩, ⟨cx, cy⟩, ⟨dx, dy⟩] && meetG ⟨ax, ay⟩ ⟨bx, by_⟩ ⟨cx, cy⟩ ⟨dx, dy⟩) = v) (w : World) :
    Calls Try.prog 34 #[.agg #[.int .i64 ax, .int .i64 ay], .agg #[.int .i64 bx, .int .i64 by_], .agg #[.int .i64 cx, .int .i64 cy], .agg #[.int .i64 dx, .int .i64 dy]] w
      fun e w' => e = .returned (.bool v) ∧ Ext w w' := by
  rw [← hv]; exact gmeet_c ax ay bx by_ cx cy dx dy w
theorem rbtw_is_c (ax ay bx by_ cx cy : Int) (v : Bool) (hv : betweenW ⟨ax, ay⟩ ⟨bx, by_⟩ ⟨cx, cy⟩ = v) (w : World) :
    Calls Try.prog 35 #[.agg #[.int .i64 ax, .int .i64 ay], .agg #[.int .i64 bx, .int .i64 by_], .agg #[.int .i64 cx, .int .i64 cy]] w
      fun e w' => e = .returned (.bool v) ∧ Ext w w' := by
  rw [← hv]; exact rbetween_c ax ay bx by_ cx cy w
theorem rmt_is_c (ax ay bx by_ cx cy dx dy : Int) (v : Bool) (hv : meetR ⟨ax, ay⟩ ⟨bx, by_⟩ ⟨cx, cy⟩ ⟨dx, dy⟩ = v) (w : World) :
    Calls Try.prog 36 #[.agg #[.int .i64 ax, .int .i64 ay], .agg #[.int .i64 bx, .int .i64 by_], .agg #[.int .i64 cx, .int .i64 cy], .agg #[.int .i64 dx, .int .i64 dy]] w
      fun e w' => e = .returned (.bool v) ∧ Ext w w' := by
  rw [← hv]; exact rmeet_c ax ay bx by_ cx cy dx dy w

set_option maxHeartbeats 8000000 in
theorem segs_walk (ax ay bx by_ cx cy dx dy : Int) (w : World) :
    Calls Try.prog 5 #[.agg #[.int .i64 ax, .int .i64 ay, .int .i64 bx, .int .i64 by_, .int .i64 cx, .int .i64 cy, .int .i64 dx, .int .i64 dy]] w
      fun e w' => e = .returned (.bool true) ∧ Ext w w' := by
  go_enter Try.func5, Try.ntmps5
  go_wp2_with (first | (go_at_call 19; refine Calls.mono (awake_c _) ?_; rintro e w1 ⟨rfl, hb⟩; have hc := hb.ccell; have hf := hb.frz; have hs := hb.sz; (try simp at hs); (try have hs0 := hs w.heap.size (by omega)); (try have hs1 := hs (w.heap.size + 1) (by omega)); (try have hs2 := hs (w.heap.size + 1 + 1) (by omega)); (try have hs3 := hs (w.heap.size + 1 + 1 + 1) (by omega))))
  obtain ⟨k0, k1, k2, k3, k4, k5, k6, k7⟩ : w1.cell? ⟨w.heap.size, 0, none⟩ = some (.int .i64 ax) ∧ w1.cell? ⟨w.heap.size, 1, none⟩ = some (.int .i64 ay) ∧ w1.cell? ⟨w.heap.size, 2, none⟩ = some (.int .i64 bx) ∧ w1.cell? ⟨w.heap.size, 3, none⟩ = some (.int .i64 by_) ∧ w1.cell? ⟨w.heap.size, 4, none⟩ = some (.int .i64 cx) ∧ w1.cell? ⟨w.heap.size, 5, none⟩ = some (.int .i64 cy) ∧ w1.cell? ⟨w.heap.size, 6, none⟩ = some (.int .i64 dx) ∧ w1.cell? ⟨w.heap.size, 7, none⟩ = some (.int .i64 dy) := by
    refine ⟨?_, ?_, ?_, ?_, ?_, ?_, ?_, ?_⟩ <;> simp [*, go_sem]
  have hb1 : Ext w w1 := by (repeat (first | with_reducible exact Ext.rfl' _ | with_reducible assumption | with_reducible refine Ext.al ?_ _ | with_reducible refine Ext.dr ?_ | with_reducible refine Ext.st ?_ (by simp) _ | with_reducible refine Ext.tr ?_ (by assumption)))
  clear hc hf hs hb
  go_cut [3, 4, 5, 6] (fun s4 s5 s6 s7 wx => ∃ b0 b1 b2 b3 : Nat, s4 = .pointer (some ⟨b0, 0, none⟩) ∧ s5 = .pointer (some ⟨b1, 0, none⟩) ∧ s6 = .pointer (some ⟨b2, 0, none⟩) ∧ s7 = .pointer (some ⟨b3, 0, none⟩) ∧ Ext w1 wx ∧ (b0 < wx.heap.size ∧ b1 < wx.heap.size ∧ b2 < wx.heap.size ∧ b3 < wx.heap.size) ∧
    (wx.cell? ⟨b0, 0, none⟩ = some (.int .i64 ax) ∧ wx.cell? ⟨b0, 1, none⟩ = some (.int .i64 ay)) ∧ (wx.cell? ⟨b1, 0, none⟩ = some (.int .i64 bx) ∧ wx.cell? ⟨b1, 1, none⟩ = some (.int .i64 by_)) ∧ (wx.cell? ⟨b2, 0, none⟩ = some (.int .i64 cx) ∧ wx.cell? ⟨b2, 1, none⟩ = some (.int .i64 cy)) ∧ (wx.cell? ⟨b3, 0, none⟩ = some (.int .i64 dx) ∧ wx.cell? ⟨b3, 1, none⟩ = some (.int .i64 dy)))
  case first =>
    go_region_held3 (fun w' => ∀ j : Nat, w'.cell? ⟨w.heap.size, j, none⟩ = w1.cell? ⟨w.heap.size, j, none⟩) ((intro j; (repeat (first | with_reducible rfl | (exact (by assumption : ∀ j : Nat, _) j) | rw [World.cell?_drew] | rw [World.cell?_alloc_past _ _ _ (by first | omega | (simp; omega) | (simp; done))] | rw [World.cell?_setCell_far _ _ _ _ (by first | omega | (simp; omega) | (simp; done))])))) (fail)
    all_goals
      rename_i hJ hK h1 h2 hH
      clear hH k0 k1 k2 k3 k4 k5 k6 k7
      refine h2 _ _ (Met.intro (h1 _ _ ?_))
      (repeat apply Exists.intro)
      refine ⟨?_, rfl⟩
      refine ⟨_, _, _, _, rfl, rfl, rfl, rfl, ?_, ⟨?_, ?_, ?_, ?_⟩, ?_⟩
      all_goals first | ((repeat (first | with_reducible exact Ext.rfl' _ | with_reducible assumption | with_reducible refine Ext.al ?_ _ | with_reducible refine Ext.dr ?_ | with_reducible refine Ext.st ?_ (by simp) _ | with_reducible refine Ext.tr ?_ (by assumption))); done) | (simp; done) | (simp; omega) | (simp [go_sem]; done) | (simp [World.cell?_alloc_past, World.cell?_alloc_new, go_sem]; done)
  case rest =>
    obtain ⟨b0, b1, b2, b3, rfl, rfl, rfl, rfl, hx, ⟨l0, l1, l2, l3⟩, ⟨m0, m1⟩, ⟨m2, m3⟩, ⟨m4, m5⟩, ⟨m6, m7⟩⟩ := hcut
    have hE := hb1.tr hx
    clear hx k0 k1 k2 k3 k4 k5 k6 k7 hb1
    cases ga : good ⟨ax, ay⟩ <;> cases gb : good ⟨bx, by_⟩ <;> cases gc : good ⟨cx, cy⟩
    case true.true.true =>
      have GA := Lib.hid (good_as_c _ _ _ ga)
      have GB := Lib.hid (good_as_c _ _ _ gb)
      have GC := Lib.hid (good_as_c _ _ _ gc)
      obtain ⟨r, hr⟩ : ∃ r, betweenW ⟨ax, ay⟩ ⟨bx, by_⟩ ⟨cx, cy⟩ = r := ⟨_, rfl⟩
      have HI := Lib.hid (btw_is_c ax ay bx by_ cx cy r (by rw [betG_W ga gb gc, hr]; simp [allGood, ga, gb, gc]))
      have HR := Lib.hid (rbtw_is_c ax ay bx by_ cx cy r hr)
      cases gd : good ⟨dx, dy⟩
      · have GD := Lib.hid (good_as_c _ _ _ gd)
        have HM := Lib.hid (mt_is_c ax ay bx by_ cx cy dx dy false (by simp [allGood, gd]))
        clear ga gb gc gd hr
        go_wp2_with fail
        refine region_grow (by kernel_rfl) (by kernel_rfl) ?_
        repeat (first | go_big_quiet_step (first | (go_at_call 33; with_reducible exact callsGrow (HI.out _)) | (go_at_call 34; with_reducible exact callsGrow (HM.out _)) | fail) | quiet_step (first | (go_at_call 33; with_reducible exact callsGrow (HI.out _)) | (go_at_call 34; with_reducible exact callsGrow (HM.out _)) | fail))
        refine wpQuiet_nil ?_
        intro w1 hb
        have hc := hb.ccell
        have hf := hb.frz
        have hs := hb.sz
        (try simp at hs); (try have hs0 := hs w.heap.size (by omega)); (try have hs1 := hs (w.heap.size + 1) (by omega)); (try have hs2 := hs (w.heap.size + 1 + 1) (by omega)); (try have hs3 := hs (w.heap.size + 1 + 1 + 1) (by omega))
        (try simp only [IntWalk.i64_left])
        have t0 := hs b0 (by assumption)
        have t1 := hs b1 (by assumption)
        have t2 := hs b2 (by assumption)
        have t3 := hs b3 (by assumption)
        cases r
        all_goals
          go_wp2_with (first | (go_at_call 24; with_reducible refine Calls.mono (GA.out _) ?_; rintro e w1 ⟨rfl, hb⟩; have hc := hb.ccell; have hf := hb.frz; have hs := hb.sz; (try simp at hs); (try have t0 := hs b0 (by assumption)); (try have t1 := hs b1 (by assumption)); (try have t2 := hs b2 (by assumption)); (try have t3 := hs b3 (by assumption))) | (go_at_call 24; with_reducible refine Calls.mono (GB.out _) ?_; rintro e w1 ⟨rfl, hb⟩; have hc := hb.ccell; have hf := hb.frz; have hs := hb.sz; (try simp at hs); (try have t0 := hs b0 (by assumption)); (try have t1 := hs b1 (by assumption)); (try have t2 := hs b2 (by assumption)); (try have t3 := hs b3 (by assumption))) | (go_at_call 24; with_reducible refine Calls.mono (GC.out _) ?_; rintro e w1 ⟨rfl, hb⟩; have hc := hb.ccell; have hf := hb.frz; have hs := hb.sz; (try simp at hs); (try have t0 := hs b0 (by assumption)); (try have t1 := hs b1 (by assumption)); (try have t2 := hs b2 (by assumption)); (try have t3 := hs b3 (by assumption))) | (go_at_call 24; with_reducible refine Calls.mono (GD.out _) ?_; rintro e w1 ⟨rfl, hb⟩; have hc := hb.ccell; have hf := hb.frz; have hs := hb.sz; (try simp at hs); (try have t0 := hs b0 (by assumption)); (try have t1 := hs b1 (by assumption)); (try have t2 := hs b2 (by assumption)); (try have t3 := hs b3 (by assumption))) | (go_at_call 35; with_reducible refine Calls.mono (HR.out _) ?_; rintro e w1 ⟨rfl, hb⟩; have hc := hb.ccell; have hf := hb.frz; have hs := hb.sz; (try simp at hs); (try have t0 := hs b0 (by assumption)); (try have t1 := hs b1 (by assumption)); (try have t2 := hs b2 (by assumption)); (try have t3 := hs b3 (by assumption))))
          go_ret
          exact ⟨ret_bool rfl, by (repeat (first | with_reducible exact Ext.rfl' _ | with_reducible assumption | with_reducible refine Ext.al ?_ _ | with_reducible refine Ext.dr ?_ | with_reducible refine Ext.st ?_ (by simp) _ | with_reducible refine Ext.tr ?_ (by assumption)))⟩
      · have GD := Lib.hid (good_as_c _ _ _ gd)
        obtain ⟨m, hm⟩ : ∃ m, meetG ⟨ax, ay⟩ ⟨bx, by_⟩ ⟨cx, cy⟩ ⟨dx, dy⟩ = m := ⟨_, rfl⟩
        have HM := Lib.hid (mt_is_c ax ay bx by_ cx cy dx dy m (by rw [hm]; simp [allGood, ga, gb, gc, gd]))
        have HM2 := Lib.hid (mt_is_c cx cy dx dy bx by_ ax ay m (by rw [meetG_turn ga gb gc gd, hm]; simp [allGood, ga, gb, gc, gd]))
        have HRM := Lib.hid (rmt_is_c ax ay bx by_ cx cy dx dy m (by rw [meetR_G ga gb gc gd, hm]))
        clear ga gb gc gd hr hm
        go_wp2_with fail
        refine region_grow (by kernel_rfl) (by kernel_rfl) ?_
        repeat (first | go_big_quiet_step (first | (go_at_call 33; with_reducible exact callsGrow (HI.out _)) | (go_at_call 34; with_reducible exact callsGrow (HM.out _)) | fail) | quiet_step (first | (go_at_call 33; with_reducible exact callsGrow (HI.out _)) | (go_at_call 34; with_reducible exact callsGrow (HM.out _)) | fail))
        refine wpQuiet_nil ?_
        intro w1 hb
        have hc := hb.ccell
        have hf := hb.frz
        have hs := hb.sz
        (try simp at hs); (try have hs0 := hs w.heap.size (by omega)); (try have hs1 := hs (w.heap.size + 1) (by omega)); (try have hs2 := hs (w.heap.size + 1 + 1) (by omega)); (try have hs3 := hs (w.heap.size + 1 + 1 + 1) (by omega))
        (try simp only [IntWalk.i64_left])
        have t0 := hs b0 (by assumption)
        have t1 := hs b1 (by assumption)
        have t2 := hs b2 (by assumption)
        have t3 := hs b3 (by assumption)
        cases r <;> cases m
        all_goals
          go_wp2_with (first | (go_at_call 24; with_reducible refine Calls.mono (GA.out _) ?_; rintro e w1 ⟨rfl, hb⟩; have hc := hb.ccell; have hf := hb.frz; have hs := hb.sz; (try simp at hs); (try have t0 := hs b0 (by assumption)); (try have t1 := hs b1 (by assumption)); (try have t2 := hs b2 (by assumption)); (try have t3 := hs b3 (by assumption))) | (go_at_call 24; with_reducible refine Calls.mono (GB.out _) ?_; rintro e w1 ⟨rfl, hb⟩; have hc := hb.ccell; have hf := hb.frz; have hs := hb.sz; (try simp at hs); (try have t0 := hs b0 (by assumption)); (try have t1 := hs b1 (by assumption)); (try have t2 := hs b2 (by assumption)); (try have t3 := hs b3 (by assumption))) | (go_at_call 24; with_reducible refine Calls.mono (GC.out _) ?_; rintro e w1 ⟨rfl, hb⟩; have hc := hb.ccell; have hf := hb.frz; have hs := hb.sz; (try simp at hs); (try have t0 := hs b0 (by assumption)); (try have t1 := hs b1 (by assumption)); (try have t2 := hs b2 (by assumption)); (try have t3 := hs b3 (by assumption))) | (go_at_call 24; with_reducible refine Calls.mono (GD.out _) ?_; rintro e w1 ⟨rfl, hb⟩; have hc := hb.ccell; have hf := hb.frz; have hs := hb.sz; (try simp at hs); (try have t0 := hs b0 (by assumption)); (try have t1 := hs b1 (by assumption)); (try have t2 := hs b2 (by assumption)); (try have t3 := hs b3 (by assumption))) | (go_at_call 35; with_reducible refine Calls.mono (HR.out _) ?_; rintro e w1 ⟨rfl, hb⟩; have hc := hb.ccell; have hf := hb.frz; have hs := hb.sz; (try simp at hs); (try have t0 := hs b0 (by assumption)); (try have t1 := hs b1 (by assumption)); (try have t2 := hs b2 (by assumption)); (try have t3 := hs b3 (by assumption))) | (go_at_call 36; with_reducible refine Calls.mono (HRM.out _) ?_; rintro e w1 ⟨rfl, hb⟩; have hc := hb.ccell; have hf := hb.frz; have hs := hb.sz; (try simp at hs); (try have t0 := hs b0 (by assumption)); (try have t1 := hs b1 (by assumption)); (try have t2 := hs b2 (by assumption)); (try have t3 := hs b3 (by assumption))) | (go_at_call 34; with_reducible refine Calls.mono (HM2.out _) ?_; rintro e w1 ⟨rfl, hb⟩; have hc := hb.ccell; have hf := hb.frz; have hs := hb.sz; (try simp at hs); (try have t0 := hs b0 (by assumption)); (try have t1 := hs b1 (by assumption)); (try have t2 := hs b2 (by assumption)); (try have t3 := hs b3 (by assumption))))
          go_ret
          exact ⟨ret_bool rfl, by (repeat (first | with_reducible exact Ext.rfl' _ | with_reducible assumption | with_reducible refine Ext.al ?_ _ | with_reducible refine Ext.dr ?_ | with_reducible refine Ext.st ?_ (by simp) _ | with_reducible refine Ext.tr ?_ (by assumption)))⟩
    all_goals
      have HI := Lib.hid (btw_is_c ax ay bx by_ cx cy false (by simp [allGood, ga, gb, gc]))
      have HM := Lib.hid (mt_is_c ax ay bx by_ cx cy dx dy false (by simp [allGood, ga, gb, gc]))
      have GA := Lib.hid (good_as_c _ _ _ ga)
      have GB := Lib.hid (good_as_c _ _ _ gb)
      have GC := Lib.hid (good_as_c _ _ _ gc)
      clear ga gb gc
      go_wp2_with fail
      refine region_grow (by kernel_rfl) (by kernel_rfl) ?_
      repeat (first | go_big_quiet_step (first | (go_at_call 33; with_reducible exact callsGrow (HI.out _)) | (go_at_call 34; with_reducible exact callsGrow (HM.out _)) | fail) | quiet_step (first | (go_at_call 33; with_reducible exact callsGrow (HI.out _)) | (go_at_call 34; with_reducible exact callsGrow (HM.out _)) | fail))
      refine wpQuiet_nil ?_
      intro w1 hb
      have hc := hb.ccell
      have hf := hb.frz
      have hs := hb.sz
      (try simp at hs); (try have hs0 := hs w.heap.size (by omega)); (try have hs1 := hs (w.heap.size + 1) (by omega)); (try have hs2 := hs (w.heap.size + 1 + 1) (by omega)); (try have hs3 := hs (w.heap.size + 1 + 1 + 1) (by omega))
      (try simp only [IntWalk.i64_left])
      have t0 := hs b0 (by assumption)
      have t1 := hs b1 (by assumption)
      have t2 := hs b2 (by assumption)
      have t3 := hs b3 (by assumption)
      go_wp2_with (first | (go_at_call 24; with_reducible refine Calls.mono (GA.out _) ?_; rintro e w1 ⟨rfl, hb⟩; have hc := hb.ccell; have hf := hb.frz; have hs := hb.sz; (try simp at hs); (try have t0 := hs b0 (by assumption)); (try have t1 := hs b1 (by assumption)); (try have t2 := hs b2 (by assumption)); (try have t3 := hs b3 (by assumption))) | (go_at_call 24; with_reducible refine Calls.mono (GB.out _) ?_; rintro e w1 ⟨rfl, hb⟩; have hc := hb.ccell; have hf := hb.frz; have hs := hb.sz; (try simp at hs); (try have t0 := hs b0 (by assumption)); (try have t1 := hs b1 (by assumption)); (try have t2 := hs b2 (by assumption)); (try have t3 := hs b3 (by assumption))) | (go_at_call 24; with_reducible refine Calls.mono (GC.out _) ?_; rintro e w1 ⟨rfl, hb⟩; have hc := hb.ccell; have hf := hb.frz; have hs := hb.sz; (try simp at hs); (try have t0 := hs b0 (by assumption)); (try have t1 := hs b1 (by assumption)); (try have t2 := hs b2 (by assumption)); (try have t3 := hs b3 (by assumption))))
      go_ret
      exact ⟨ret_bool rfl, by (repeat (first | with_reducible exact Ext.rfl' _ | with_reducible assumption | with_reducible refine Ext.al ?_ _ | with_reducible refine Ext.dr ?_ | with_reducible refine Ext.st ?_ (by simp) _ | with_reducible refine Ext.tr ?_ (by assumption)))⟩
end Go.Proofs.Ytcdbekmcobghbaa

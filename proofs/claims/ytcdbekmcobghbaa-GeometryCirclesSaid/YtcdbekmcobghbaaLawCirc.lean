/- Whether a point is inside of a circle: the law returns true for every input. Conditions: none. -/
import Derived.Test.YtcdbekmcobghbaaCirc2
import Derived.Test.YtcdbekmcobghbaaAddsBad
import Derived.Deep.RegionHeld3
import Derived.Deep.DeepCutAuto
namespace Go.Proofs.Ytcdbekmcobghbaa
open Go Go.RowKit

theorem inC_c (ax ay bx by_ cx cy dx dy v f : Int) (hv : icV ⟨ax, ay⟩ ⟨bx, by_⟩ ⟨cx, cy⟩ ⟨dx, dy⟩ = v) (hf : icE ⟨ax, ay⟩ ⟨bx, by_⟩ ⟨cx, cy⟩ ⟨dx, dy⟩ = f) (w : World) :
    Calls Try.prog 37 #[.agg #[.int .i64 ax, .int .i64 ay], .agg #[.int .i64 bx, .int .i64 by_], .agg #[.int .i64 cx, .int .i64 cy], .agg #[.int .i64 dx, .int .i64 dy]] w
      fun e w' => e = .returned (.tuple #[.int .i64 v, .int .i64 f]) ∧ Ext w w' := by
  have h := inCircle_c ax ay bx by_ cx cy dx dy w
  rw [hv, hf] at h
  exact h

theorem rclose4_c (ax ay bx by_ cx cy dx dy : Int) (w : World) (c n : Nat) (t : TypeId) (r : Bool) (hr : closeR [⟨ax, ay⟩, ⟨bx, by_⟩, ⟨cx, cy⟩, ⟨dx, dy⟩] = r) (hn : n = w.heap.size) :
    Calls Try.prog 38 #[.slice (some ⟨n, 0, none⟩) 4 c] (w.alloc (.cells #[.int .i64 ax, .int .i64 ay, .int .i64 bx, .int .i64 by_, .int .i64 cx, .int .i64 cy, .int .i64 dx, .int .i64 dy] t))
      fun e w' => e = .returned (.bool r) ∧ Ext (w.alloc (.cells #[.int .i64 ax, .int .i64 ay, .int .i64 bx, .int .i64 by_, .int .i64 cx, .int .i64 cy, .int .i64 dx, .int .i64 dy] t)) w' := by
  rw [← hr]
  exact rclose_c [⟨ax, ay⟩, ⟨bx, by_⟩, ⟨cx, cy⟩, ⟨dx, dy⟩] _ _ c (small_len (by simp)) (Row.new' encP_len _ _ _ _ _ hn rfl)
theorem rorient_is_c (ax ay bx by_ cx cy : Int) (z : Int) (hz : cmpI (crossW ⟨ax, ay⟩ ⟨bx, by_⟩ ⟨cx, cy⟩) 0 = z) (w : World) :
    Calls Try.prog 28 #[.agg #[.int .i64 ax, .int .i64 ay], .agg #[.int .i64 bx, .int .i64 by_], .agg #[.int .i64 cx, .int .i64 cy]] w
      fun e w' => e = .returned (.int .i64 z) ∧ Ext w w' := by
  rw [← hz]; exact rorient_c _ _ _ _ _ _ w
theorem rin_is_c (ax ay bx by_ cx cy dx dy v : Int) (hv : wrap64 (cmpI (detW ⟨ax, ay⟩ ⟨bx, by_⟩ ⟨cx, cy⟩ ⟨dx, dy⟩) 0 * cmpI (crossW ⟨ax, ay⟩ ⟨bx, by_⟩ ⟨cx, cy⟩) 0) = v) (w : World) :
    Calls Try.prog 39 #[.agg #[.int .i64 ax, .int .i64 ay], .agg #[.int .i64 bx, .int .i64 by_], .agg #[.int .i64 cx, .int .i64 cy], .agg #[.int .i64 dx, .int .i64 dy]] w
      fun e w' => e = .returned (.int .i64 v) ∧ Ext w w' := by
  rw [← hv]; exact rincircle_c _ _ _ _ _ _ _ _ w

set_option maxHeartbeats 8000000 in
theorem circ_walk (ax ay bx by_ cx cy dx dy : Int) (w : World) :
    Calls Try.prog 6 #[.agg #[.int .i64 ax, .int .i64 ay, .int .i64 bx, .int .i64 by_, .int .i64 cx, .int .i64 cy, .int .i64 dx, .int .i64 dy]] w
      fun e w' => e = .returned (.bool true) ∧ Ext w w' := by
  go_enter Try.func6, Try.ntmps6
  go_wp2_with (first | (go_at_call 19; refine Calls.mono (awake_c _) ?_; rintro e w1 ⟨rfl, hb⟩; have hc := hb.ccell; have hf := hb.frz; have hs := hb.sz; (try simp at hs); (try have hs0 := hs w.heap.size (by omega)); (try have hs1 := hs (w.heap.size + 1) (by omega)); (try have hs2 := hs (w.heap.size + 1 + 1) (by omega)); (try have hs3 := hs (w.heap.size + 1 + 1 + 1) (by omega))))
  obtain ⟨k0, k1, k2, k3, k4, k5, k6, k7⟩ : w1.cell? ⟨w.heap.size, 0, none⟩ = some (.int .i64 ax) ∧ w1.cell? ⟨w.heap.size, 1, none⟩ = some (.int .i64 ay) ∧ w1.cell? ⟨w.heap.size, 2, none⟩ = some (.int .i64 bx) ∧ w1.cell? ⟨w.heap.size, 3, none⟩ = some (.int .i64 by_) ∧ w1.cell? ⟨w.heap.size, 4, none⟩ = some (.int .i64 cx) ∧ w1.cell? ⟨w.heap.size, 5, none⟩ = some (.int .i64 cy) ∧ w1.cell? ⟨w.heap.size, 6, none⟩ = some (.int .i64 dx) ∧ w1.cell? ⟨w.heap.size, 7, none⟩ = some (.int .i64 dy) := by
    refine ⟨?_, ?_, ?_, ?_, ?_, ?_, ?_, ?_⟩ <;> simp [*, go_sem]
  have hb1 : Ext w w1 := by (repeat (first | with_reducible exact Ext.rfl' _ | with_reducible assumption | with_reducible refine Ext.al ?_ _ | with_reducible refine Ext.dr ?_ | with_reducible refine Ext.st ?_ (by simp) _ | with_reducible refine Ext.tr ?_ (by assumption)))
  clear hc hf hs hb
  go_cut [3, 4, 5, 6] (fun s4 s5 s6 s7 wx => ∃ b0 b1 b2 b3 : Nat, s4 = .pointer (some ⟨b0, 0, none⟩) ∧ s5 = .pointer (some ⟨b1, 0, none⟩) ∧ s6 = .pointer (some ⟨b2, 0, none⟩) ∧ s7 = .pointer (some ⟨b3, 0, none⟩) ∧ Ext w1 wx ∧ (b0 < wx.heap.size ∧ b1 < wx.heap.size ∧ b2 < wx.heap.size ∧ b3 < wx.heap.size) ∧
    (wx.cell? ⟨b0, 0, none⟩ = some (.int .i64 ax) ∧ wx.cell? ⟨b0, 1, none⟩ = some (.int .i64 ay)) ∧ (wx.cell? ⟨b1, 0, none⟩ = some (.int .i64 bx) ∧ wx.cell? ⟨b1, 1, none⟩ = some (.int .i64 by_)) ∧ (wx.cell? ⟨b2, 0, none⟩ = some (.int .i64 cx) ∧ wx.cell? ⟨b2, 1, none⟩ = some (.int .i64 cy)) ∧ (wx.cell? ⟨b3, 0, none⟩ = some (.int .i64 dx) ∧ wx.cell? ⟨b3, 1, none⟩ = some (.int .i64 dy)))
  case first =>
    go_region_held3 (fun w' => ∀ j : Nat, w'.cell? ⟨w.heap.size, j, none⟩ = w1.cell? ⟨w.heap.size, j, none⟩) ((intro j; (repeat (first | with_reducible rfl | (exact (by assumption : ∀ j : Nat, _) j) | rw [World.cell?_drew] | rw [World.cell?_alloc_past _ _ _ (by first | omega | (simp; omega) | (simp; done))] | rw [World.cell?_setCell_far _ _ _ _ (by first | omega | (simp; omega) | (simp; done))])))) (fail)
    all_goals
      rename_i hJ hK h1 h2 hH
      clear hH k0 k1 k2 k3 k4 k5 k6 k7
      refine h2 _ _ (Met.intro (h1 _ _ ?_))
      (repeat apply Exists.intro)
      refine ⟨?_, rfl⟩
      refine ⟨_, _, _, _, rfl, rfl, rfl, rfl, ?_, ⟨?_, ?_, ?_, ?_⟩, ?_⟩
      all_goals first | ((repeat (first | with_reducible exact Ext.rfl' _ | with_reducible assumption | with_reducible refine Ext.al ?_ _ | with_reducible refine Ext.dr ?_ | with_reducible refine Ext.st ?_ (by simp) _ | with_reducible refine Ext.tr ?_ (by assumption))); done) | (simp; done) | (simp; omega) | (simp [go_sem]; done) | (simp [World.cell?_alloc_past, World.cell?_alloc_new, go_sem]; done)
  case rest =>
    obtain ⟨b0, b1, b2, b3, rfl, rfl, rfl, rfl, hx, ⟨l0, l1, l2, l3⟩, ⟨m0, m1⟩, ⟨m2, m3⟩, ⟨m4, m5⟩, ⟨m6, m7⟩⟩ := hcut
    have hE := hb1.tr hx
    clear hx k0 k1 k2 k3 k4 k5 k6 k7 hb1
    cases G : allGood [⟨ax, ay⟩, ⟨bx, by_⟩, ⟨cx, cy⟩, ⟨dx, dy⟩]
    · obtain ⟨e1, e2⟩ := ic_bad _ _ _ _ G
      have HI := Lib.hid (inC_c _ _ _ _ _ _ _ _ _ _ e1 e2)
      clear e1 e2
      rw [allGood_four] at G
      cases ga : good ⟨ax, ay⟩ <;> cases gb : good ⟨bx, by_⟩ <;> cases gc : good ⟨cx, cy⟩ <;> cases gd : good ⟨dx, dy⟩
      all_goals first | (exfalso; rw [ga, gb, gc, gd] at G; exact Bool.noConfusion G) | skip
      all_goals
        have GA := Lib.hid (good_as_c _ _ _ ga)
        have GB := Lib.hid (good_as_c _ _ _ gb)
        have GC := Lib.hid (good_as_c _ _ _ gc)
        have GD := Lib.hid (good_as_c _ _ _ gd)
        clear ga gb gc gd G
        go_wp2_with (first | (go_at_call 37; with_reducible refine Calls.mono (HI.out _) ?_; rintro e w1 ⟨rfl, hb⟩; have hc := hb.ccell; have hf := hb.frz; have hs := hb.sz; (try simp at hs); (try have t0 := hs b0 (by assumption)); (try have t1 := hs b1 (by assumption)); (try have t2 := hs b2 (by assumption)); (try have t3 := hs b3 (by assumption))) | (go_at_call 24; with_reducible refine Calls.mono (GA.out _) ?_; rintro e w1 ⟨rfl, hb⟩; have hc := hb.ccell; have hf := hb.frz; have hs := hb.sz; (try simp at hs); (try have t0 := hs b0 (by assumption)); (try have t1 := hs b1 (by assumption)); (try have t2 := hs b2 (by assumption)); (try have t3 := hs b3 (by assumption))) | (go_at_call 24; with_reducible refine Calls.mono (GB.out _) ?_; rintro e w1 ⟨rfl, hb⟩; have hc := hb.ccell; have hf := hb.frz; have hs := hb.sz; (try simp at hs); (try have t0 := hs b0 (by assumption)); (try have t1 := hs b1 (by assumption)); (try have t2 := hs b2 (by assumption)); (try have t3 := hs b3 (by assumption))) | (go_at_call 24; with_reducible refine Calls.mono (GC.out _) ?_; rintro e w1 ⟨rfl, hb⟩; have hc := hb.ccell; have hf := hb.frz; have hs := hb.sz; (try simp at hs); (try have t0 := hs b0 (by assumption)); (try have t1 := hs b1 (by assumption)); (try have t2 := hs b2 (by assumption)); (try have t3 := hs b3 (by assumption))) | (go_at_call 24; with_reducible refine Calls.mono (GD.out _) ?_; rintro e w1 ⟨rfl, hb⟩; have hc := hb.ccell; have hf := hb.frz; have hs := hb.sz; (try simp at hs); (try have t0 := hs b0 (by assumption)); (try have t1 := hs b1 (by assumption)); (try have t2 := hs b2 (by assumption)); (try have t3 := hs b3 (by assumption))))
        go_ret
        exact ⟨ret_bool rfl, by (repeat (first | with_reducible exact Ext.rfl' _ | with_reducible assumption | with_reducible refine Ext.al ?_ _ | with_reducible refine Ext.dr ?_ | with_reducible refine Ext.st ?_ (by simp) _ | with_reducible refine Ext.tr ?_ (by assumption)))⟩
    · have G' := G
      rw [allGood_four] at G'
      simp only [Bool.and_eq_true] at G'
      obtain ⟨ga, gb, gc, gd⟩ := G'
      have GA := Lib.hid (good_as_c _ _ _ ga)
      have GB := Lib.hid (good_as_c _ _ _ gb)
      have GC := Lib.hid (good_as_c _ _ _ gc)
      have GD := Lib.hid (good_as_c _ _ _ gd)
      have hcl := closeR_eq _ G
      clear ga gb gc gd
      cases C : closeB [⟨ax, ay⟩, ⟨bx, by_⟩, ⟨cx, cy⟩, ⟨dx, dy⟩]
      · obtain ⟨e1, e2⟩ := ic_far _ _ _ _ G C
        have HI := Lib.hid (inC_c _ _ _ _ _ _ _ _ _ _ e1 e2)
        have HC := Lib.hid (hcl.trans C)
        clear e1 e2 hcl C G
        go_wp2_with (first | (go_at_call 37; with_reducible refine Calls.mono (HI.out _) ?_; rintro e w1 ⟨rfl, hb⟩; have hc := hb.ccell; have hf := hb.frz; have hs := hb.sz; (try simp at hs); (try have t0 := hs b0 (by assumption)); (try have t1 := hs b1 (by assumption)); (try have t2 := hs b2 (by assumption)); (try have t3 := hs b3 (by assumption))) | (go_at_call 24; with_reducible refine Calls.mono (GA.out _) ?_; rintro e w1 ⟨rfl, hb⟩; have hc := hb.ccell; have hf := hb.frz; have hs := hb.sz; (try simp at hs); (try have t0 := hs b0 (by assumption)); (try have t1 := hs b1 (by assumption)); (try have t2 := hs b2 (by assumption)); (try have t3 := hs b3 (by assumption))) | (go_at_call 24; with_reducible refine Calls.mono (GB.out _) ?_; rintro e w1 ⟨rfl, hb⟩; have hc := hb.ccell; have hf := hb.frz; have hs := hb.sz; (try simp at hs); (try have t0 := hs b0 (by assumption)); (try have t1 := hs b1 (by assumption)); (try have t2 := hs b2 (by assumption)); (try have t3 := hs b3 (by assumption))) | (go_at_call 24; with_reducible refine Calls.mono (GC.out _) ?_; rintro e w1 ⟨rfl, hb⟩; have hc := hb.ccell; have hf := hb.frz; have hs := hb.sz; (try simp at hs); (try have t0 := hs b0 (by assumption)); (try have t1 := hs b1 (by assumption)); (try have t2 := hs b2 (by assumption)); (try have t3 := hs b3 (by assumption))) | (go_at_call 24; with_reducible refine Calls.mono (GD.out _) ?_; rintro e w1 ⟨rfl, hb⟩; have hc := hb.ccell; have hf := hb.frz; have hs := hb.sz; (try simp at hs); (try have t0 := hs b0 (by assumption)); (try have t1 := hs b1 (by assumption)); (try have t2 := hs b2 (by assumption)); (try have t3 := hs b3 (by assumption))) | (go_at_call 38; refine Calls.mono (rclose4_c _ _ _ _ _ _ _ _ _ _ _ _ _ HC.out ?_) ?_; (focus simp); rintro e w1 ⟨rfl, hb⟩; have hc := hb.ccell; have hf := hb.frz; have hs := hb.sz; (try simp at hs); (try have t0 := hs b0 (by omega)); (try have t1 := hs b1 (by omega)); (try have t2 := hs b2 (by omega)); (try have t3 := hs b3 (by omega))))
        go_ret
        exact ⟨ret_bool rfl, by (repeat (first | with_reducible exact Ext.rfl' _ | with_reducible assumption | with_reducible refine Ext.al ?_ _ | with_reducible refine Ext.dr ?_ | with_reducible refine Ext.st ?_ (by simp) _ | with_reducible refine Ext.tr ?_ (by assumption)))⟩
      · by_cases h0 : cmpI (crossW ⟨ax, ay⟩ ⟨bx, by_⟩ ⟨cx, cy⟩) 0 = 0
        · obtain ⟨e1, e2⟩ := ic_flat _ _ _ _ G C h0
          have HI := Lib.hid (inC_c _ _ _ _ _ _ _ _ _ _ e1 e2)
          have HC := Lib.hid (hcl.trans C)
          have HO := Lib.hid (rorient_is_c _ _ _ _ _ _ _ h0)
          clear e1 e2 hcl C G h0
          go_wp2_with (first | (go_at_call 37; with_reducible refine Calls.mono (HI.out _) ?_; rintro e w1 ⟨rfl, hb⟩; have hc := hb.ccell; have hf := hb.frz; have hs := hb.sz; (try simp at hs); (try have t0 := hs b0 (by assumption)); (try have t1 := hs b1 (by assumption)); (try have t2 := hs b2 (by assumption)); (try have t3 := hs b3 (by assumption))) | (go_at_call 24; with_reducible refine Calls.mono (GA.out _) ?_; rintro e w1 ⟨rfl, hb⟩; have hc := hb.ccell; have hf := hb.frz; have hs := hb.sz; (try simp at hs); (try have t0 := hs b0 (by assumption)); (try have t1 := hs b1 (by assumption)); (try have t2 := hs b2 (by assumption)); (try have t3 := hs b3 (by assumption))) | (go_at_call 24; with_reducible refine Calls.mono (GB.out _) ?_; rintro e w1 ⟨rfl, hb⟩; have hc := hb.ccell; have hf := hb.frz; have hs := hb.sz; (try simp at hs); (try have t0 := hs b0 (by assumption)); (try have t1 := hs b1 (by assumption)); (try have t2 := hs b2 (by assumption)); (try have t3 := hs b3 (by assumption))) | (go_at_call 24; with_reducible refine Calls.mono (GC.out _) ?_; rintro e w1 ⟨rfl, hb⟩; have hc := hb.ccell; have hf := hb.frz; have hs := hb.sz; (try simp at hs); (try have t0 := hs b0 (by assumption)); (try have t1 := hs b1 (by assumption)); (try have t2 := hs b2 (by assumption)); (try have t3 := hs b3 (by assumption))) | (go_at_call 24; with_reducible refine Calls.mono (GD.out _) ?_; rintro e w1 ⟨rfl, hb⟩; have hc := hb.ccell; have hf := hb.frz; have hs := hb.sz; (try simp at hs); (try have t0 := hs b0 (by assumption)); (try have t1 := hs b1 (by assumption)); (try have t2 := hs b2 (by assumption)); (try have t3 := hs b3 (by assumption))) | (go_at_call 38; refine Calls.mono (rclose4_c _ _ _ _ _ _ _ _ _ _ _ _ _ HC.out ?_) ?_; (focus simp); rintro e w1 ⟨rfl, hb⟩; have hc := hb.ccell; have hf := hb.frz; have hs := hb.sz; (try simp at hs); (try have t0 := hs b0 (by omega)); (try have t1 := hs b1 (by omega)); (try have t2 := hs b2 (by omega)); (try have t3 := hs b3 (by omega))) | (go_at_call 28; with_reducible refine Calls.mono (HO.out _) ?_; rintro e w1 ⟨rfl, hb⟩; have hc := hb.ccell; have hf := hb.frz; have hs := hb.sz; (try simp at hs); (try have t0 := hs b0 (by assumption)); (try have t1 := hs b1 (by assumption)); (try have t2 := hs b2 (by assumption)); (try have t3 := hs b3 (by assumption))))
          go_ret
          exact ⟨ret_bool rfl, by (repeat (first | with_reducible exact Ext.rfl' _ | with_reducible assumption | with_reducible refine Ext.al ?_ _ | with_reducible refine Ext.dr ?_ | with_reducible refine Ext.st ?_ (by simp) _ | with_reducible refine Ext.tr ?_ (by assumption)))⟩
        · obtain ⟨e1, e2, e3, e4⟩ := ic_true _ _ _ _ G C h0
          obtain ⟨v, hv⟩ : ∃ v, icV ⟨ax, ay⟩ ⟨bx, by_⟩ ⟨cx, cy⟩ ⟨dx, dy⟩ = v := ⟨_, rfl⟩
          obtain ⟨z, hz⟩ : ∃ z, cmpI (crossW ⟨ax, ay⟩ ⟨bx, by_⟩ ⟨cx, cy⟩) 0 = z := ⟨_, rfl⟩
          have HI := Lib.hid (inC_c _ _ _ _ _ _ _ _ _ _ hv e2)
          have HI2 := Lib.hid (inC_c _ _ _ _ _ _ _ _ _ _ (e3.trans hv) e4)
          have HR := Lib.hid (rin_is_c _ _ _ _ _ _ _ _ _ (e1.symm.trans hv))
          have HC := Lib.hid (hcl.trans C)
          have HO := Lib.hid (rorient_is_c _ _ _ _ _ _ _ hz)
          have hz0 : ¬ z = 0 := by rw [← hz]; exact h0
          clear e1 e2 e3 e4 hcl C G h0 hv hz
          have hz1 : (z == 0) = false := by simp [hz0]
          go_wp2_with (first | (go_at_call 37; with_reducible refine Calls.mono (HI.out _) ?_; rintro e w1 ⟨rfl, hb⟩; have hc := hb.ccell; have hf := hb.frz; have hs := hb.sz; (try simp at hs); (try have t0 := hs b0 (by assumption)); (try have t1 := hs b1 (by assumption)); (try have t2 := hs b2 (by assumption)); (try have t3 := hs b3 (by assumption))) | (go_at_call 37; with_reducible refine Calls.mono (HI2.out _) ?_; rintro e w1 ⟨rfl, hb⟩; have hc := hb.ccell; have hf := hb.frz; have hs := hb.sz; (try simp at hs); (try have t0 := hs b0 (by assumption)); (try have t1 := hs b1 (by assumption)); (try have t2 := hs b2 (by assumption)); (try have t3 := hs b3 (by assumption))) | (go_at_call 24; with_reducible refine Calls.mono (GA.out _) ?_; rintro e w1 ⟨rfl, hb⟩; have hc := hb.ccell; have hf := hb.frz; have hs := hb.sz; (try simp at hs); (try have t0 := hs b0 (by assumption)); (try have t1 := hs b1 (by assumption)); (try have t2 := hs b2 (by assumption)); (try have t3 := hs b3 (by assumption))) | (go_at_call 24; with_reducible refine Calls.mono (GB.out _) ?_; rintro e w1 ⟨rfl, hb⟩; have hc := hb.ccell; have hf := hb.frz; have hs := hb.sz; (try simp at hs); (try have t0 := hs b0 (by assumption)); (try have t1 := hs b1 (by assumption)); (try have t2 := hs b2 (by assumption)); (try have t3 := hs b3 (by assumption))) | (go_at_call 24; with_reducible refine Calls.mono (GC.out _) ?_; rintro e w1 ⟨rfl, hb⟩; have hc := hb.ccell; have hf := hb.frz; have hs := hb.sz; (try simp at hs); (try have t0 := hs b0 (by assumption)); (try have t1 := hs b1 (by assumption)); (try have t2 := hs b2 (by assumption)); (try have t3 := hs b3 (by assumption))) | (go_at_call 24; with_reducible refine Calls.mono (GD.out _) ?_; rintro e w1 ⟨rfl, hb⟩; have hc := hb.ccell; have hf := hb.frz; have hs := hb.sz; (try simp at hs); (try have t0 := hs b0 (by assumption)); (try have t1 := hs b1 (by assumption)); (try have t2 := hs b2 (by assumption)); (try have t3 := hs b3 (by assumption))) | (go_at_call 38; refine Calls.mono (rclose4_c _ _ _ _ _ _ _ _ _ _ _ _ _ HC.out ?_) ?_; (focus simp); rintro e w1 ⟨rfl, hb⟩; have hc := hb.ccell; have hf := hb.frz; have hs := hb.sz; (try simp at hs); (try have t0 := hs b0 (by omega)); (try have t1 := hs b1 (by omega)); (try have t2 := hs b2 (by omega)); (try have t3 := hs b3 (by omega))) | (go_at_call 28; with_reducible refine Calls.mono (HO.out _) ?_; rintro e w1 ⟨rfl, hb⟩; have hc := hb.ccell; have hf := hb.frz; have hs := hb.sz; (try simp at hs); (try have t0 := hs b0 (by assumption)); (try have t1 := hs b1 (by assumption)); (try have t2 := hs b2 (by assumption)); (try have t3 := hs b3 (by assumption))) | (go_at_call 39; with_reducible refine Calls.mono (HR.out _) ?_; rintro e w1 ⟨rfl, hb⟩; have hc := hb.ccell; have hf := hb.frz; have hs := hb.sz; (try simp at hs); (try have t0 := hs b0 (by assumption)); (try have t1 := hs b1 (by assumption)); (try have t2 := hs b2 (by assumption)); (try have t3 := hs b3 (by assumption))))
          go_ret
          exact ⟨ret_bool rfl, by (repeat (first | with_reducible exact Ext.rfl' _ | with_reducible assumption | with_reducible refine Ext.al ?_ _ | with_reducible refine Ext.dr ?_ | with_reducible refine Ext.st ?_ (by simp) _ | with_reducible refine Ext.tr ?_ (by assumption)))⟩
end Go.Proofs.Ytcdbekmcobghbaa

/- The cross products with a fourth point add up, and turning all points by a quarter changes nothing: the law returns true for every input. Conditions: none. -/
import Derived.Test.YtcdbekmcobghbaaLawPoints
import Derived.Deep.RegionHeld3
import Derived.Deep.DeepCutAuto
namespace Go.Proofs.Ytcdbekmcobghbaa
open Go Go.RowKit

abbrev ccz (w : World) (ax ay bx by_ cx cy z : Int) : Prop :=
  Calls Try.prog 20 #[.agg #[.int .i64 ax, .int .i64 ay], .agg #[.int .i64 bx, .int .i64 by_], .agg #[.int .i64 cx, .int .i64 cy]] w
    fun e w' => e = .returned (.int .i64 z) ∧ Ext w w'
theorem cross_good_c (ax ay bx by_ cx cy : Int) (z : Int) (ga : good ⟨ax, ay⟩ = true) (gb : good ⟨bx, by_⟩ = true) (gc : good ⟨cx, cy⟩ = true) (hz : crossZ ⟨ax, ay⟩ ⟨bx, by_⟩ ⟨cx, cy⟩ = z) (w : World) : ccz w ax ay bx by_ cx cy z := by
  have h := gcross_c ax ay bx by_ cx cy w
  rw [allGood_three, ga, gb, gc] at h
  simp only [Bool.and_self, if_true] at h
  rw [crossW_good ga gb gc, hz] at h
  exact h
theorem square_good_c (ax ay bx by_ : Int) (z : Int) (ga : good ⟨ax, ay⟩ = true) (gb : good ⟨bx, by_⟩ = true) (hz : dotZ ⟨ax, ay⟩ ⟨bx, by_⟩ ⟨bx, by_⟩ = z) (w : World) :
    Calls Try.prog 22 #[.agg #[.int .i64 ax, .int .i64 ay], .agg #[.int .i64 bx, .int .i64 by_]] w
      fun e w' => e = .returned (.int .i64 z) ∧ Ext w w' := by
  have h := gsquare_c ax ay bx by_ w
  rw [allGood_two, ga, gb] at h
  simp only [Bool.and_self, if_true] at h
  rw [dotW_good ga gb gb, hz] at h
  exact h
theorem span_good_c (ax ay bx by_ : Int) (z n : Int) (ga : good ⟨ax, ay⟩ = true) (gb : good ⟨bx, by_⟩ = true) (hz : dotZ ⟨ax, ay⟩ ⟨bx, by_⟩ ⟨bx, by_⟩ = z) (hn : rootW 3000000 z = n) (w : World) :
    Calls Try.prog 23 #[.agg #[.int .i64 ax, .int .i64 ay], .agg #[.int .i64 bx, .int .i64 by_]] w
      fun e w' => e = .returned (.int .i64 n) ∧ Ext w w' := by
  have h := gspan_c ax ay bx by_ w
  unfold spanG at h
  rw [allGood_two, ga, gb] at h
  simp only [Bool.and_self, if_true] at h
  rw [dotW_good ga gb gb, hz, hn] at h
  exact h
theorem good_quarter {x y : Int} (h : good ⟨x, y⟩ = true) : good ⟨-y, x⟩ = true := by
  rw [good_iff] at *
  simp only at *
  omega

theorem z_sum (a b c d : Pt) : crossZ a b d + crossZ b c d + crossZ c a d = crossZ a b c := by unfold crossZ; grind
theorem z_swap (a b c : Pt) : crossZ b a c = -crossZ a b c := by unfold crossZ; grind
theorem z_quarter (ax ay bx by_ cx cy : Int) : crossZ ⟨-ay, ax⟩ ⟨-by_, bx⟩ ⟨-cy, cx⟩ = crossZ ⟨ax, ay⟩ ⟨bx, by_⟩ ⟨cx, cy⟩ := by unfold crossZ; grind
theorem d_quarter (ax ay bx by_ : Int) : dotZ ⟨-ay, ax⟩ ⟨-by_, bx⟩ ⟨-by_, bx⟩ = dotZ ⟨ax, ay⟩ ⟨bx, by_⟩ ⟨bx, by_⟩ := by unfold dotZ; grind
theorem good_is_c (x y : Int) (b : Bool) (h : good ⟨x, y⟩ = b) (w : World) :
    Calls Try.prog 24 #[.agg #[.int .i64 x, .int .i64 y]] w fun e w' => e = .returned (.bool b) ∧ Ext w w' := by
  rw [← h]; exact rgood_c x y w

set_option maxHeartbeats 8000000 in
theorem adds_good (ax ay bx by_ cx cy dx dy : Int) (w : World) (ga : good ⟨ax, ay⟩ = true) (gb : good ⟨bx, by_⟩ = true) (gc : good ⟨cx, cy⟩ = true) (gd : good ⟨dx, dy⟩ = true) :
    Calls Try.prog 16 #[.agg #[.int .i64 ax, .int .i64 ay, .int .i64 bx, .int .i64 by_, .int .i64 cx, .int .i64 cy, .int .i64 dx, .int .i64 dy]] w
      fun e w' => e = .returned (.bool true) ∧ Ext w w' := by
  obtain ⟨x, hx⟩ : ∃ x, crossZ ⟨ax, ay⟩ ⟨bx, by_⟩ ⟨cx, cy⟩ = x := ⟨_, rfl⟩
  obtain ⟨y1, hy1⟩ : ∃ x, crossZ ⟨ax, ay⟩ ⟨bx, by_⟩ ⟨dx, dy⟩ = x := ⟨_, rfl⟩
  obtain ⟨y2, hy2⟩ : ∃ x, crossZ ⟨bx, by_⟩ ⟨cx, cy⟩ ⟨dx, dy⟩ = x := ⟨_, rfl⟩
  obtain ⟨y3, hy3⟩ : ∃ x, crossZ ⟨cx, cy⟩ ⟨ax, ay⟩ ⟨dx, dy⟩ = x := ⟨_, rfl⟩
  obtain ⟨q, hq⟩ : ∃ x, dotZ ⟨ax, ay⟩ ⟨bx, by_⟩ ⟨bx, by_⟩ = x := ⟨_, rfl⟩
  obtain ⟨n, hn⟩ : ∃ n, rootW 3000000 q = n := ⟨_, rfl⟩
  have bx' := crossZ_bound ga gb gc
  have b1 := crossZ_bound ga gb gd
  have b2 := crossZ_bound gb gc gd
  have b3 := crossZ_bound gc ga gd
  have hsum : y1 + y2 + y3 = x := by rw [← hy1, ← hy2, ← hy3, ← hx]; exact z_sum _ _ _ _
  have HX := Lib.hid (cross_good_c _ _ _ _ _ _ x ga gb gc hx)
  have HY1 := Lib.hid (cross_good_c _ _ _ _ _ _ y1 ga gb gd hy1)
  have HY2 := Lib.hid (cross_good_c _ _ _ _ _ _ y2 gb gc gd hy2)
  have HY3 := Lib.hid (cross_good_c _ _ _ _ _ _ y3 gc ga gd hy3)
  have HXS := Lib.hid (cross_good_c _ _ _ _ _ _ (-x) gb ga gc (by rw [z_swap, hx]))
  have HXQ := Lib.hid (cross_good_c _ _ _ _ _ _ x (good_quarter ga) (good_quarter gb) (good_quarter gc) (by rw [← hx]; exact z_quarter _ _ _ _ _ _))
  have HS := Lib.hid (square_good_c _ _ _ _ q ga gb hq)
  have HSQ := Lib.hid (square_good_c _ _ _ _ q (good_quarter ga) (good_quarter gb) (by rw [← hq]; exact d_quarter _ _ _ _))
  have HN := Lib.hid (span_good_c _ _ _ _ q n ga gb hq hn)
  have HNQ := Lib.hid (span_good_c _ _ _ _ q n (good_quarter ga) (good_quarter gb) (by rw [← hq]; exact d_quarter _ _ _ _) hn)
  rw [hx] at bx'
  rw [hy1] at b1
  rw [hy2] at b2
  rw [hy3] at b3
  clear hx hy1 hy2 hy3 hq hn
  have GA := Lib.hid (good_is_c _ _ _ ga)
  have GB := Lib.hid (good_is_c _ _ _ gb)
  have GC := Lib.hid (good_is_c _ _ _ gc)
  have GD := Lib.hid (good_is_c _ _ _ gd)
  have RA := (good_iff _).1 ga
  have RB := (good_iff _).1 gb
  have RC := (good_iff _).1 gc
  have RD := (good_iff _).1 gd
  simp only at RA RB RC RD
  have QA := Lib.hid (fun w => quarter_c ax ay w (by omega) (by omega))
  have QB := Lib.hid (fun w => quarter_c bx by_ w (by omega) (by omega))
  have QC := Lib.hid (fun w => quarter_c cx cy w (by omega) (by omega))
  clear ga gb gc gd
  go_enter Try.func16, Try.ntmps16
  go_wp2_with (first | (go_at_call 19; refine Calls.mono (awake_c _) ?_; rintro e w1 ⟨rfl, hb⟩; have hc := hb.ccell; have hf := hb.frz; have hs := hb.sz; (try simp at hs); (try have hs0 := hs w.heap.size (by omega)); (try have hs1 := hs (w.heap.size + 1) (by omega)); (try have hs2 := hs (w.heap.size + 1 + 1) (by omega)); (try have hs3 := hs (w.heap.size + 1 + 1 + 1) (by omega))))
  refine wp_name (fun W hW => ?_)
  have hE : Ext w W := by rw [hW]; (repeat (first | with_reducible exact Ext.rfl' _ | with_reducible assumption | with_reducible refine Ext.al ?_ _ | with_reducible refine Ext.dr ?_ | with_reducible refine Ext.st ?_ (by simp) _ | with_reducible refine Ext.tr ?_ (by assumption)))
  have HW := Lib.hid hW
  clear hW
  go_loopw [3] (fun i wr => Ext W wr ∧ ∃ k : Nat, k ≤ 4 ∧ i = .int .i64 k) (fun i _ => 4 - (intOf i).toNat)
  case atStart => exact ⟨Ext.rfl' _, 0, by omega, rfl⟩
  case round =>
    obtain ⟨hr, k, hk, rfl⟩ := hrel
    have hc := hr.ccell
    have hf := hr.frz
    have hs := hr.sz
    rw [HW.out] at hc hf hs
    (try simp at hs); (try have hs0 := hs w.heap.size (by omega)); (try have hs1 := hs (w.heap.size + 1) (by omega)); (try have hs2 := hs (w.heap.size + 1 + 1) (by omega)); (try have hs3 := hs (w.heap.size + 1 + 1 + 1) (by omega))
    obtain rfl | rfl | rfl | rfl | rfl : k = 0 ∨ k = 1 ∨ k = 2 ∨ k = 3 ∨ k = 4 := by omega
    case inr.inr.inr.inr =>
      obtain ⟨k0, k1, k2, k3, k4, k5, k6, k7⟩ : wr.cell? ⟨w.heap.size, 0, none⟩ = some (.int .i64 ax) ∧ wr.cell? ⟨w.heap.size, 1, none⟩ = some (.int .i64 ay) ∧ wr.cell? ⟨w.heap.size, 2, none⟩ = some (.int .i64 bx) ∧ wr.cell? ⟨w.heap.size, 3, none⟩ = some (.int .i64 by_) ∧ wr.cell? ⟨w.heap.size, 4, none⟩ = some (.int .i64 cx) ∧ wr.cell? ⟨w.heap.size, 5, none⟩ = some (.int .i64 cy) ∧ wr.cell? ⟨w.heap.size, 6, none⟩ = some (.int .i64 dx) ∧ wr.cell? ⟨w.heap.size, 7, none⟩ = some (.int .i64 dy) := by
        refine ⟨?_, ?_, ?_, ?_, ?_, ?_, ?_, ?_⟩ <;> simp [*, go_sem]
      have n0 : wr.heap.size ≠ w.heap.size := by omega
      have n1 : wr.heap.size + 1 ≠ w.heap.size := by omega
      have n2 : wr.heap.size + 1 + 1 ≠ w.heap.size := by omega
      have n3 : wr.heap.size + 1 + 1 + 1 ≠ w.heap.size := by omega
      clear hc hf hs
      go_wp2_with fail
      go_cut [4, 5, 6, 7] (fun s4 s5 s6 s7 wx => ∃ b0 b1 b2 b3 : Nat, s4 = .pointer (some ⟨b0, 0, none⟩) ∧ s5 = .pointer (some ⟨b1, 0, none⟩) ∧ s6 = .pointer (some ⟨b2, 0, none⟩) ∧ s7 = .pointer (some ⟨b3, 0, none⟩) ∧ Ext wr wx ∧ (b0 < wx.heap.size ∧ b1 < wx.heap.size ∧ b2 < wx.heap.size ∧ b3 < wx.heap.size) ∧
        (wx.cell? ⟨b0, 0, none⟩ = some (.int .i64 ax) ∧ wx.cell? ⟨b0, 1, none⟩ = some (.int .i64 ay)) ∧ (wx.cell? ⟨b1, 0, none⟩ = some (.int .i64 bx) ∧ wx.cell? ⟨b1, 1, none⟩ = some (.int .i64 by_)) ∧ (wx.cell? ⟨b2, 0, none⟩ = some (.int .i64 cx) ∧ wx.cell? ⟨b2, 1, none⟩ = some (.int .i64 cy)) ∧ (wx.cell? ⟨b3, 0, none⟩ = some (.int .i64 dx) ∧ wx.cell? ⟨b3, 1, none⟩ = some (.int .i64 dy)))
      case first =>
        clear HX HY1 HY2 HY3 HXS HXQ HS HSQ HN HNQ GA GB GC GD RA RB RC RD bx' b1 b2 b3 hsum hb hE HW hr hk
        go_region_held3 (fun w' => ∀ j : Nat, w'.cell? ⟨w.heap.size, j, none⟩ = wr.cell? ⟨w.heap.size, j, none⟩) ((intro j; (repeat (first | with_reducible rfl | (exact (by assumption : ∀ j : Nat, _) j) | rw [World.cell?_drew] | rw [World.cell?_alloc_past _ _ _ (by first | omega | (simp; omega) | (simp; done))] | rw [World.cell?_setCell_far _ _ _ _ (by first | omega | (simp; omega) | (simp; done))])))) (fail)
        all_goals
          rename_i hJ hK h1 h2 hH
          clear hH hc hf hs k0 k1 k2 k3 k4 k5 k6 k7
          refine h2 _ _ (Met.intro (h1 _ _ ?_))
          (repeat apply Exists.intro)
          refine ⟨?_, rfl⟩
          refine ⟨_, _, _, _, rfl, rfl, rfl, rfl, ?_, ⟨?_, ?_, ?_, ?_⟩, ?_⟩
          all_goals first | ((repeat (first | with_reducible exact Ext.rfl' _ | with_reducible assumption | with_reducible refine Ext.al ?_ _ | with_reducible refine Ext.dr ?_ | with_reducible refine Ext.st ?_ (by simp) _ | with_reducible refine Ext.tr ?_ (by assumption))); done) | (simp; done) | (simp; omega) | (simp [go_sem]; done) | (simp [World.cell?_alloc_past, World.cell?_alloc_new, go_sem]; done)
      case rest =>
        obtain ⟨b0, b1, b2, b3, rfl, rfl, rfl, rfl, hx, ⟨l0, l1, l2, l3⟩, ⟨m0, m1⟩, ⟨m2, m3⟩, ⟨m4, m5⟩, ⟨m6, m7⟩⟩ := hcut
        have hcx := hx.ccell
        have hsx := hx.sz
        try clear hc hf hs
        go_wp2_with fail
        refine region_grow (by kernel_rfl) (by kernel_rfl) ?_
        repeat (first | go_big_quiet_step (first | (go_at_call 20; with_reducible exact callsGrow (HX.out _)) | (go_at_call 20; with_reducible exact callsGrow (HY1.out _)) | (go_at_call 20; with_reducible exact callsGrow (HY2.out _)) | (go_at_call 20; with_reducible exact callsGrow (HY3.out _)) | fail) | quiet_step (first | (go_at_call 20; with_reducible exact callsGrow (HX.out _)) | (go_at_call 20; with_reducible exact callsGrow (HY1.out _)) | (go_at_call 20; with_reducible exact callsGrow (HY2.out _)) | (go_at_call 20; with_reducible exact callsGrow (HY3.out _)) | fail))
        refine wpQuiet_nil ?_
        intro w1 hb
        have hc := hb.ccell
        have hf := hb.frz
        have hs := hb.sz
        (try simp at hs); (try have hs0 := hs w.heap.size (by omega)); (try have hs1 := hs (w.heap.size + 1) (by omega)); (try have hs2 := hs (w.heap.size + 1 + 1) (by omega)); (try have hs3 := hs (w.heap.size + 1 + 1 + 1) (by omega))
        (try simp only [IntWalk.i64_left])
        have hneg : IntKind.i64.wrap (-x) = -x := IntWalk.i64_in _ (by omega)
        go_wp2_with fail
        refine region_grow (by kernel_rfl) (by kernel_rfl) ?_
        repeat (first | go_big_quiet_step (first | (go_at_call 20; with_reducible exact callsGrow (HX.out _)) | (go_at_call 20; with_reducible exact callsGrow (HXS.out _)) | (go_at_call 20; with_reducible exact callsGrow (HXQ.out _)) | (go_at_call 23; with_reducible exact callsGrow (HN.out _)) | (go_at_call 23; with_reducible exact callsGrow (HNQ.out _)) | (go_at_call 22; with_reducible exact callsGrow (HS.out _)) | (go_at_call 22; with_reducible exact callsGrow (HSQ.out _)) | (go_at_call 69; with_reducible exact callsGrow (QA.out _)) | (go_at_call 69; with_reducible exact callsGrow (QB.out _)) | (go_at_call 69; with_reducible exact callsGrow (QC.out _)) | fail) | quiet_step (first | (go_at_call 20; with_reducible exact callsGrow (HX.out _)) | (go_at_call 20; with_reducible exact callsGrow (HXS.out _)) | (go_at_call 20; with_reducible exact callsGrow (HXQ.out _)) | (go_at_call 23; with_reducible exact callsGrow (HN.out _)) | (go_at_call 23; with_reducible exact callsGrow (HNQ.out _)) | (go_at_call 22; with_reducible exact callsGrow (HS.out _)) | (go_at_call 22; with_reducible exact callsGrow (HSQ.out _)) | (go_at_call 69; with_reducible exact callsGrow (QA.out _)) | (go_at_call 69; with_reducible exact callsGrow (QB.out _)) | (go_at_call 69; with_reducible exact callsGrow (QC.out _)) | fail))
        refine wpQuiet_nil ?_
        intro w1 hb
        have hc := hb.ccell
        have hf := hb.frz
        have hs := hb.sz
        (try simp at hs); (try have hs0 := hs w.heap.size (by omega)); (try have hs1 := hs (w.heap.size + 1) (by omega)); (try have hs2 := hs (w.heap.size + 1 + 1) (by omega)); (try have hs3 := hs (w.heap.size + 1 + 1 + 1) (by omega))
        (try simp only [IntWalk.i64_left])
        go_wp2
        go_ret
        exact ⟨ret_bool rfl, by (repeat (first | with_reducible exact Ext.rfl' _ | with_reducible assumption | with_reducible refine Ext.al ?_ _ | with_reducible refine Ext.dr ?_ | with_reducible refine Ext.st ?_ (by simp) _ | with_reducible refine Ext.tr ?_ (by assumption)))⟩
    all_goals
      go_wp2_with (first | (go_at_call 24; with_reducible refine Calls.mono (GA.out _) ?_; rintro e w1 ⟨rfl, hb⟩; have hc := hb.ccell; have hf := hb.frz; have hs := hb.sz; (try simp at hs); (try have hs0 := hs w.heap.size (by omega)); (try have hs1 := hs (w.heap.size + 1) (by omega)); (try have hs2 := hs (w.heap.size + 1 + 1) (by omega)); (try have hs3 := hs (w.heap.size + 1 + 1 + 1) (by omega))) | (go_at_call 24; with_reducible refine Calls.mono (GB.out _) ?_; rintro e w1 ⟨rfl, hb⟩; have hc := hb.ccell; have hf := hb.frz; have hs := hb.sz; (try simp at hs); (try have hs0 := hs w.heap.size (by omega)); (try have hs1 := hs (w.heap.size + 1) (by omega)); (try have hs2 := hs (w.heap.size + 1 + 1) (by omega)); (try have hs3 := hs (w.heap.size + 1 + 1 + 1) (by omega))) | (go_at_call 24; with_reducible refine Calls.mono (GC.out _) ?_; rintro e w1 ⟨rfl, hb⟩; have hc := hb.ccell; have hf := hb.frz; have hs := hb.sz; (try simp at hs); (try have hs0 := hs w.heap.size (by omega)); (try have hs1 := hs (w.heap.size + 1) (by omega)); (try have hs2 := hs (w.heap.size + 1 + 1) (by omega)); (try have hs3 := hs (w.heap.size + 1 + 1 + 1) (by omega))) | (go_at_call 24; with_reducible refine Calls.mono (GD.out _) ?_; rintro e w1 ⟨rfl, hb⟩; have hc := hb.ccell; have hf := hb.frz; have hs := hb.sz; (try simp at hs); (try have hs0 := hs w.heap.size (by omega)); (try have hs1 := hs (w.heap.size + 1) (by omega)); (try have hs2 := hs (w.heap.size + 1 + 1) (by omega)); (try have hs3 := hs (w.heap.size + 1 + 1 + 1) (by omega))))
    · exact ⟨⟨by (repeat (first | with_reducible exact Ext.rfl' _ | with_reducible assumption | with_reducible refine Ext.al ?_ _ | with_reducible refine Ext.dr ?_ | with_reducible refine Ext.st ?_ (by simp) _ | with_reducible refine Ext.tr ?_ (by assumption))), 1, by omega, rfl⟩, by simp only [intOf]; omega⟩
    · exact ⟨⟨by (repeat (first | with_reducible exact Ext.rfl' _ | with_reducible assumption | with_reducible refine Ext.al ?_ _ | with_reducible refine Ext.dr ?_ | with_reducible refine Ext.st ?_ (by simp) _ | with_reducible refine Ext.tr ?_ (by assumption))), 2, by omega, rfl⟩, by simp only [intOf]; omega⟩
    · exact ⟨⟨by (repeat (first | with_reducible exact Ext.rfl' _ | with_reducible assumption | with_reducible refine Ext.al ?_ _ | with_reducible refine Ext.dr ?_ | with_reducible refine Ext.st ?_ (by simp) _ | with_reducible refine Ext.tr ?_ (by assumption))), 3, by omega, rfl⟩, by simp only [intOf]; omega⟩
    · exact ⟨⟨by (repeat (first | with_reducible exact Ext.rfl' _ | with_reducible assumption | with_reducible refine Ext.al ?_ _ | with_reducible refine Ext.dr ?_ | with_reducible refine Ext.st ?_ (by simp) _ | with_reducible refine Ext.tr ?_ (by assumption))), 4, by omega, rfl⟩, by simp only [intOf]; omega⟩

end Go.Proofs.Ytcdbekmcobghbaa

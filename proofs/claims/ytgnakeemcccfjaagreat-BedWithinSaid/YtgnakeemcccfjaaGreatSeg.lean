/- Contracts of the functions on segments and boxes. -/
import Derived.Test.YtgnakeemcccfjaaGreatPts2
import Derived.Deep.RegionHeld3
import Derived.Deep.DeepCutAuto
namespace Go.Proofs.YtgnakeemcccfjaaGreat
open Go Go.RowKit Go.IntWalk

def ovl4 (a0 a1 a2 a3 b0 b1 b2 b3 : Int) : Bool := decide (a0 ≤ b2) && (decide (b0 ≤ a2) && (decide (a1 ≤ b3) && decide (b1 ≤ a3)))
theorem overlap_c (a0 a1 a2 a3 b0 b1 b2 b3 : Int) (w : World) :
    Calls Tryz.prog 120 #[.agg #[.int .i64 a0, .int .i64 a1, .int .i64 a2, .int .i64 a3], .agg #[.int .i64 b0, .int .i64 b1, .int .i64 b2, .int .i64 b3]] w
      fun e w' => e = .returned (.bool (ovl4 a0 a1 a2 a3 b0 b1 b2 b3)) ∧ Ext w w' := by
  unfold ovl4
  by_cases h1 : a0 ≤ b2
  · by_cases h2 : b0 ≤ a2
    · by_cases h3 : a1 ≤ b3
      · go_enter Tryz.func120, Tryz.ntmps120
        go_wp2
        go_ret
        exact ⟨ret_bool (by simp [h1, h2, h3]), by (repeat (first | with_reducible exact Ext.rfl' _ | with_reducible assumption | with_reducible refine Ext.al ?_ _ | with_reducible refine Ext.dr ?_ | with_reducible refine Ext.st ?_ (by simp) _ | with_reducible refine Ext.tr ?_ (by assumption)))⟩
      · go_enter Tryz.func120, Tryz.ntmps120
        go_wp2
        go_ret
        exact ⟨ret_bool (by simp; omega), by (repeat (first | with_reducible exact Ext.rfl' _ | with_reducible assumption | with_reducible refine Ext.al ?_ _ | with_reducible refine Ext.dr ?_ | with_reducible refine Ext.st ?_ (by simp) _ | with_reducible refine Ext.tr ?_ (by assumption)))⟩
    · go_enter Tryz.func120, Tryz.ntmps120
      go_wp2
      go_ret
      exact ⟨ret_bool (by simp; omega), by (repeat (first | with_reducible exact Ext.rfl' _ | with_reducible assumption | with_reducible refine Ext.al ?_ _ | with_reducible refine Ext.dr ?_ | with_reducible refine Ext.st ?_ (by simp) _ | with_reducible refine Ext.tr ?_ (by assumption)))⟩
  · go_enter Tryz.func120, Tryz.ntmps120
    go_wp2
    go_ret
    exact ⟨ret_bool (by simp; omega), by (repeat (first | with_reducible exact Ext.rfl' _ | with_reducible assumption | with_reducible refine Ext.al ?_ _ | with_reducible refine Ext.dr ?_ | with_reducible refine Ext.st ?_ (by simp) _ | with_reducible refine Ext.tr ?_ (by assumption)))⟩

set_option maxHeartbeats 4000000 in
theorem boxOf_c (ax ay bx by_ : Int) (w : World) :
    Calls Tryz.prog 121 #[.agg #[.int .i64 ax, .int .i64 ay, .int .i64 bx, .int .i64 by_]] w
      fun e w' => e = .returned (.agg #[.int .i64 (min ax bx), .int .i64 (min ay by_), .int .i64 (max ax bx), .int .i64 (max ay by_)]) ∧ Ext w w' := by
  go_enter Tryz.func121, Tryz.ntmps121
  go_wp2
  refine wp_name (fun W hW => ?_)
  have hE : Ext w W := by rw [hW]; (repeat (first | with_reducible exact Ext.rfl' _ | with_reducible assumption | with_reducible refine Ext.al ?_ _ | with_reducible refine Ext.dr ?_ | with_reducible refine Ext.st ?_ (by simp) _ | with_reducible refine Ext.tr ?_ (by assumption)))
  have HW := Lib.hid hW
  clear hW
  have k : W.cell? ⟨w.heap.size, 0, none⟩ = some (.int .i64 ax) ∧ W.cell? ⟨w.heap.size, 1, none⟩ = some (.int .i64 ay) ∧ W.cell? ⟨w.heap.size, 2, none⟩ = some (.int .i64 bx) ∧ W.cell? ⟨w.heap.size, 3, none⟩ = some (.int .i64 by_) := by
    rw [HW.out]; refine ⟨?_, ?_, ?_, ?_⟩ <;> simp [World.cell?_alloc_past, World.cell?_alloc_new, go_sem]
  have hz : w.heap.size + 1 < W.heap.size := by rw [HW.out]; simp
  have hz0 : w.heap.size < W.heap.size := by omega
  have zr : W.cell? ⟨w.heap.size + 1, 0, none⟩ = some (.int .i64 0) ∧ W.cell? ⟨w.heap.size + 1, 1, none⟩ = some (.int .i64 0) ∧ W.cell? ⟨w.heap.size + 1, 2, none⟩ = some (.int .i64 0) ∧ W.cell? ⟨w.heap.size + 1, 3, none⟩ = some (.int .i64 0) := by
    rw [HW.out]; refine ⟨?_, ?_, ?_, ?_⟩ <;> simp [go_sem]
  have ZR := Lib.hid zr
  clear zr
  have fr : ∀ j, W.frozen? ⟨w.heap.size + 1, j, none⟩ = false := by intro j; rw [HW.out]; simp [go_sem]
  have FR := Lib.hid fr
  clear fr
  obtain ⟨k0, k1, k2, k3⟩ := k
  clear HW
  go_cut [3, 4] (fun s3 s4 wx => ∃ b0 b1 : Nat, s3 = .pointer (some ⟨b0, 0, none⟩) ∧ s4 = .pointer (some ⟨b1, 0, none⟩) ∧ Ext W wx ∧ (b0 < wx.heap.size ∧ b1 < wx.heap.size) ∧
    (wx.cell? ⟨b0, 0, none⟩ = some (.int .i64 ax) ∧ wx.cell? ⟨b0, 1, none⟩ = some (.int .i64 ay)) ∧ (wx.cell? ⟨b1, 0, none⟩ = some (.int .i64 bx) ∧ wx.cell? ⟨b1, 1, none⟩ = some (.int .i64 by_)))
  case first =>
    clear hE
    go_region_held3 (fun w' => ∀ j : Nat, w'.cell? ⟨w.heap.size, j, none⟩ = W.cell? ⟨w.heap.size, j, none⟩) ((intro j; (repeat (first | with_reducible rfl | (exact (by assumption : ∀ j : Nat, _) j) | rw [World.cell?_drew] | rw [World.cell?_alloc_past _ _ _ (by first | omega | (simp; omega) | (simp; done))] | rw [World.cell?_setCell_far _ _ _ _ (by first | omega | (simp; omega) | (simp; done))])))) (fail)
    all_goals
      rename_i hJ hK h1 h2 hH
      clear hH k0 k1 k2 k3
      refine h2 _ _ (Met.intro (h1 _ _ ?_))
      (repeat apply Exists.intro)
      refine ⟨?_, rfl⟩
      refine ⟨_, _, rfl, rfl, ?_, ⟨?_, ?_⟩, ?_⟩
      all_goals first | ((repeat (first | with_reducible exact Ext.rfl' _ | with_reducible assumption | with_reducible refine Ext.al ?_ _ | with_reducible refine Ext.dr ?_ | with_reducible refine Ext.st ?_ (by simp) _ | with_reducible refine Ext.tr ?_ (by assumption))); done) | (simp; done) | (simp; omega) | (simp [go_sem]; done) | (simp [World.cell?_alloc_past, World.cell?_alloc_new, go_sem]; done)
  case rest =>
    obtain ⟨b0, b1, rfl, rfl, hx, ⟨l0, l1⟩, ⟨m0, m1⟩, ⟨m2, m3⟩⟩ := hcut
    have q := fun j => (hx.frz (w.heap.size + 1) j hz).trans (FR.out j)
    have q2 := hx.sz _ hz
    have q3 := hx.sz _ hz0
    obtain ⟨z0, z1, z2, z3⟩ := ZR.out
    have y0 := (hx.ccell (w.heap.size + 1) 0 hz).trans z0
    have y1 := (hx.ccell (w.heap.size + 1) 1 hz).trans z1
    have y2 := (hx.ccell (w.heap.size + 1) 2 hz).trans z2
    have y3 := (hx.ccell (w.heap.size + 1) 3 hz).trans z3
    clear k0 k1 k2 k3 z0 z1 z2 z3
    rcases Int.le_total ax bx with ox | ox <;> rcases Int.le_total ay by_ with oy | oy
    all_goals
      go_wp2
    all_goals
      have hEx := hE.tr hx
      refine bodyPost_ret (v := .agg #[.int .i64 (min ax bx), .int .i64 (min ay by_), .int .i64 (max ax bx), .int .i64 (max ay by_)]) (by (simp [results, Tryz.results121, go_sem, y0, y1, y2, y3]); omega) rfl ⟨rfl, ?_⟩
      exact Ext.st (Ext.st (Ext.st (Ext.st hEx (by simp) _) (by simp) _) (by simp) _) (by simp) _

def reachB (a b : Pt) (l : List Pt) : Bool := l.any (fun p => decide (0 ≤ crossW a b p)) && l.any (fun p => decide (crossW a b p ≤ 0))
theorem any_take_succ {α : Type} (f : α → Bool) (l : List α) (k : Nat) (hk : k < l.length) : (l.take (k + 1)).any f = ((l.take k).any f || f l[k]) := by
  rw [List.take_succ_eq_append_getElem hk, List.any_append]; simp
theorem any_take_all {α : Type} (f : α → Bool) (l : List α) (k : Nat) (hk : l.length ≤ k) : (l.take k).any f = l.any f := by
  rw [List.take_of_length_le hk]
theorem reaches_c (ax ay bx by_ : Int) (l : List Pt) (w : World) (A : Option Addr) (c : Nat) (hl : l.length ≤ maxLen) (hA : Row 2 encP w A l) :
    Calls Tryz.prog 154 #[.agg #[.int .i64 ax, .int .i64 ay, .int .i64 bx, .int .i64 by_], .slice A l.length c] w
      fun e w' => e = .returned (.bool (reachB ⟨ax, ay⟩ ⟨bx, by_⟩ l)) ∧ Ext w w' := by
  unfold maxLen at hl
  obtain ⟨f, hf0⟩ : ∃ f : Pt → Bool, f = fun p => decide (0 ≤ crossW ⟨ax, ay⟩ ⟨bx, by_⟩ p) := ⟨_, rfl⟩
  obtain ⟨g, hg0⟩ : ∃ g : Pt → Bool, g = fun p => decide (crossW ⟨ax, ay⟩ ⟨bx, by_⟩ p ≤ 0) := ⟨_, rfl⟩
  unfold reachB
  rw [← hf0, ← hg0]
  have F0 := Lib.hid hf0
  have G0 := Lib.hid hg0
  clear hf0 hg0
  go_enter Tryz.func154, Tryz.ntmps154
  go_wp2
  refine wp_name (fun W hW => ?_)
  have hE : Ext w W := by rw [hW]; (repeat (first | with_reducible exact Ext.rfl' _ | with_reducible assumption | with_reducible refine Ext.al ?_ _ | with_reducible refine Ext.dr ?_ | with_reducible refine Ext.st ?_ (by simp) _ | with_reducible refine Ext.tr ?_ (by assumption)))
  have HW := Lib.hid hW
  clear hW
  have k : W.cell? ⟨w.heap.size, 0, none⟩ = some (.int .i64 ax) ∧ W.cell? ⟨w.heap.size, 1, none⟩ = some (.int .i64 ay) ∧ W.cell? ⟨w.heap.size, 2, none⟩ = some (.int .i64 bx) ∧ W.cell? ⟨w.heap.size, 3, none⟩ = some (.int .i64 by_) := by
    rw [HW.out]; refine ⟨?_, ?_, ?_, ?_⟩ <;> simp [World.cell?_alloc_new, go_sem]
  have hz : w.heap.size < W.heap.size := by rw [HW.out]; simp
  have K := Lib.hid k
  have hAW := hA.ext hE
  clear k hA HW
  go_loopw [5, 6, 9, 12] (fun L R _ i wr => Ext W wr ∧ ∃ k : Nat, k ≤ l.length ∧ i = .int .i64 k ∧ ∃ x y : Bool, L = .bool x ∧ R = .bool y ∧ Hid (x = (l.take k).any f) ∧ Hid (y = (l.take k).any g)) (fun _ _ _ i _ => l.length - (intOf i).toNat)
  case atStart => exact ⟨Ext.rfl' _, 0, Nat.zero_le _, rfl, false, false, rfl, rfl, rfl, rfl⟩
  case round =>
    obtain ⟨hr, k, hk, rfl, x, y, rfl, rfl, hx, hy⟩ := hrel
    obtain ⟨k0, k1, k2, k3⟩ := K.out
    have e0 := (hr.ccell _ 0 hz).trans k0
    have e1 := (hr.ccell _ 1 hz).trans k1
    have e2 := (hr.ccell _ 2 hz).trans k2
    have e3 := (hr.ccell _ 3 hz).trans k3
    have hz2 := hr.sz _ hz
    clear k0 k1 k2 k3
    by_cases hlt : k < l.length
    · obtain ⟨b, off, rfl, hb0, hcell⟩ := hAW.p2 hlt
      have c := hcell _ hr
      clear hcell
      have hzb := hr.sz _ hb0
      have hF : f l[k] = decide (0 ≤ crossW ⟨ax, ay⟩ ⟨bx, by_⟩ l[k]) := by rw [F0.out]
      have hG : g l[k] = decide (crossW ⟨ax, ay⟩ ⟨bx, by_⟩ l[k] ≤ 0) := by rw [G0.out]
      have hlk : l[k] = ⟨l[k].x, l[k].y⟩ := rfl
      rw [hlk] at hF hG
      have hC := fun w => cross_c ax ay bx by_ l[k].x l[k].y w
      generalize crossW ⟨ax, ay⟩ ⟨bx, by_⟩ ⟨l[k].x, l[k].y⟩ = z at hF hG hC
      have HC := Lib.hid hC
      have HF := Lib.hid hF
      have HG := Lib.hid hG
      clear hF hG hC hlk
      cases x <;> cases y
      all_goals
        go_wp2_with (first | (go_at_call 106; with_reducible refine Calls.mono (HC.out _) ?_; rintro e w1 ⟨rfl, hb⟩; have hc := hb.ccell; have hf := hb.frz; have hs := hb.sz; (try simp at hs); (try have hs0 := hs w.heap.size (by omega)); (try have hs1 := hs (w.heap.size + 1) (by omega)); (try have hs2 := hs (w.heap.size + 1 + 1) (by omega)); (try have hs3 := hs (w.heap.size + 1 + 1 + 1) (by omega))))
        refine ⟨⟨by (repeat (first | with_reducible exact Ext.rfl' _ | with_reducible assumption | with_reducible refine Ext.al ?_ _ | with_reducible refine Ext.dr ?_ | with_reducible refine Ext.st ?_ (by simp) _ | with_reducible refine Ext.tr ?_ (by assumption))), k + 1, by omega, by go_num, _, _, rfl, rfl, ?_, ?_⟩, by simp [intOf]; omega⟩
      all_goals
        first
          | (show _ = (l.take (k + 1)).any f; rw [any_take_succ f l k hlt, ← hx.out]; first | (simp; done) | (simpa using HF.out.symm))
          | (show _ = (l.take (k + 1)).any g; rw [any_take_succ g l k hlt, ← hy.out]; first | (simp; done) | (simpa using HG.out.symm))
    · have hx' := hx.out.trans (any_take_all f l k (by omega))
      have hy' := hy.out.trans (any_take_all g l k (by omega))
      have HX := Lib.hid hx'
      have HY := Lib.hid hy'
      clear hx' hy' hx hy
      cases x
      all_goals
        go_wp2
        go_ret
        exact ⟨ret_bool (by rw [← HX.out, ← HY.out]; simp), hE.tr hr⟩

def betweenG (a b p : Pt) : Bool := ovl4 (min a.x b.x) (min a.y b.y) (max a.x b.x) (max a.y b.y) p.x p.y p.x p.y && decide (crossW a b p = 0)
theorem between_c (ax ay bx by_ cx cy : Int) (w : World) :
    Calls Tryz.prog 105 #[.agg #[.int .i64 ax, .int .i64 ay, .int .i64 bx, .int .i64 by_], .agg #[.int .i64 cx, .int .i64 cy]] w
      fun e w' => e = .returned (.bool (betweenG ⟨ax, ay⟩ ⟨bx, by_⟩ ⟨cx, cy⟩)) ∧ Ext w w' := by
  unfold betweenG
  simp only
  have hB := fun w => boxOf_c ax ay bx by_ w
  generalize min ax bx = m0 at *
  generalize min ay by_ = m1 at *
  generalize max ax bx = m2 at *
  generalize max ay by_ = m3 at *
  have hO := fun w => overlap_c m0 m1 m2 m3 cx cy cx cy w
  have HB := Lib.hid hB
  have HC := Lib.hid (fun w => cross_c ax ay bx by_ cx cy w)
  generalize crossW ⟨ax, ay⟩ ⟨bx, by_⟩ ⟨cx, cy⟩ = z at *
  cases h : ovl4 m0 m1 m2 m3 cx cy cx cy
  all_goals
    rw [h] at hO
    have HO := Lib.hid hO
    clear hO hB h
    go_enter Tryz.func105, Tryz.ntmps105
    go_wp2_with fail
    refine region_grow (by kernel_rfl) (by kernel_rfl) ?_
    repeat (first | go_big_quiet_step (first | (go_at_call 121; exact callsGrow (HB.out _)) | (go_at_call 120; exact callsGrow (HO.out _)) | (go_at_call 106; exact callsGrow (HC.out _)) | fail) | quiet_step (first | (go_at_call 121; exact callsGrow (HB.out _)) | (go_at_call 120; exact callsGrow (HO.out _)) | (go_at_call 106; exact callsGrow (HC.out _)) | fail))
    refine wpQuiet_nil ?_
    intro w1 hb
    have hc := hb.ccell
    have hf := hb.frz
    have hs := hb.sz
    (try simp at hs); (try have hs0 := hs w.heap.size (by omega)); (try have hs1 := hs (w.heap.size + 1) (by omega)); (try have hs2 := hs (w.heap.size + 1 + 1) (by omega)); (try have hs3 := hs (w.heap.size + 1 + 1 + 1) (by omega))
    (try simp only [IntWalk.i64_left])
    go_wp2
    go_ret
    exact ⟨ret_bool (by first | (simp; done) | (simp; exact Bool.eq_iff_iff.2 (by simp))), by (repeat (first | with_reducible exact Ext.rfl' _ | with_reducible assumption | with_reducible refine Ext.al ?_ _ | with_reducible refine Ext.dr ?_ | with_reducible refine Ext.st ?_ (by simp) _ | with_reducible refine Ext.tr ?_ (by assumption)))⟩

end Go.Proofs.YtgnakeemcccfjaaGreat

/- Contracts of meetsBox and Touches. -/
import Derived.Test.YtcdbekmcobghbaaNear2
import Derived.Test.YtcdbekmcobghbaaPure8
import Derived.Deep.RegionHeld3
import Derived.Deep.DeepCutAuto
namespace Go.Proofs.Ytcdbekmcobghbaa
open Go Go.RowKit Go.IntWalk

def boxG (c d a b : Pt) : Bool := ovl4 (min c.x d.x) (min c.y d.y) (max c.x d.x) (max c.y d.y) a.x a.y b.x b.y && reachB c d [a, ⟨b.x, a.y⟩, b, ⟨a.x, b.y⟩]
theorem keep4 {W w' : World} {b0 b1 b2 b3 : Nat} (h : Ext W w') (h0 : b0 < W.heap.size) (h1 : b1 < W.heap.size) (h2 : b2 < W.heap.size) (h3 : b3 < W.heap.size) :
    (∀ j : Nat, w'.cell? ⟨b0, j, none⟩ = W.cell? ⟨b0, j, none⟩) ∧ (∀ j : Nat, w'.cell? ⟨b1, j, none⟩ = W.cell? ⟨b1, j, none⟩) ∧ (∀ j : Nat, w'.cell? ⟨b2, j, none⟩ = W.cell? ⟨b2, j, none⟩) ∧ (∀ j : Nat, w'.cell? ⟨b3, j, none⟩ = W.cell? ⟨b3, j, none⟩) ∧ Ext W w' :=
  ⟨fun j => h.ccell _ j h0, fun j => h.ccell _ j h1, fun j => h.ccell _ j h2, fun j => h.ccell _ j h3, h⟩
theorem reaches4_c (ax ay bx by_ p0 p1 q0 q1 r0 r1 s0 s1 : Int) (r : Bool) (hr : reachB ⟨ax, ay⟩ ⟨bx, by_⟩ [⟨p0, p1⟩, ⟨q0, q1⟩, ⟨r0, r1⟩, ⟨s0, s1⟩] = r) (w w0 : World) (n c : Nat) (t : TypeId) (hw : Ext (w0.alloc (.cells #[.int .i64 p0, .int .i64 p1, .int .i64 q0, .int .i64 q1, .int .i64 r0, .int .i64 r1, .int .i64 s0, .int .i64 s1] t)) w) (hn : n = w0.heap.size) :
    Calls Try.prog 114 #[.agg #[.int .i64 ax, .int .i64 ay, .int .i64 bx, .int .i64 by_], .slice (some ⟨n, 0, none⟩) 4 c] w
      fun e w' => e = .returned (.bool r) ∧ Ext w w' := by
  rw [← hr]
  exact reaches_c ax ay bx by_ [⟨p0, p1⟩, ⟨q0, q1⟩, ⟨r0, r1⟩, ⟨s0, s1⟩] w _ c (small_len (by simp)) (Row.ext (Row.new' encP_len _ t _ _ _ hn rfl) hw)

set_option maxHeartbeats 8000000 in
theorem meetsBox_c (cx cy dx dy ax ay bx by_ : Int) (w : World) :
    Calls Try.prog 95 #[.agg #[.int .i64 cx, .int .i64 cy, .int .i64 dx, .int .i64 dy], .agg #[.int .i64 ax, .int .i64 ay, .int .i64 bx, .int .i64 by_]] w
      fun e w' => e = .returned (.bool (boxG ⟨cx, cy⟩ ⟨dx, dy⟩ ⟨ax, ay⟩ ⟨bx, by_⟩)) ∧ Ext w w' := by
  unfold boxG
  simp only
  have hB1 := fun w => boxOf_c cx cy dx dy w
  obtain ⟨r1, hr1⟩ : ∃ r, reachB ⟨cx, cy⟩ ⟨dx, dy⟩ [⟨ax, ay⟩, ⟨bx, ay⟩, ⟨bx, by_⟩, ⟨ax, by_⟩] = r := ⟨_, rfl⟩
  rw [hr1]
  generalize min cx dx = m0 at *
  generalize min cy dy = m1 at *
  generalize max cx dx = m2 at *
  generalize max cy dy = m3 at *
  have HR1 := Lib.hid hr1
  have HB1 := Lib.hid hB1
  have hO := fun w => overlap_c m0 m1 m2 m3 ax ay bx by_ w
  generalize ovl4 m0 m1 m2 m3 ax ay bx by_ = o at *
  have HO := Lib.hid hO
  clear hr1 hB1 hO
  go_enter Try.func95, Try.ntmps95
  go_wp2
  refine wp_name (fun W hW => ?_)
  have hE : Ext w W := by rw [hW]; (repeat (first | with_reducible exact Ext.rfl' _ | with_reducible assumption | with_reducible refine Ext.al ?_ _ | with_reducible refine Ext.dr ?_ | with_reducible refine Ext.st ?_ (by simp) _ | with_reducible refine Ext.tr ?_ (by assumption)))
  have HW := Lib.hid hW
  clear hW
  have k : W.cell? ⟨w.heap.size, 0, none⟩ = some (.int .i64 cx) ∧ W.cell? ⟨w.heap.size, 1, none⟩ = some (.int .i64 cy) ∧ W.cell? ⟨w.heap.size, 2, none⟩ = some (.int .i64 dx) ∧ W.cell? ⟨w.heap.size, 3, none⟩ = some (.int .i64 dy) := by
    rw [HW.out]; refine ⟨?_, ?_, ?_, ?_⟩ <;> simp [World.cell?_alloc_past, World.cell?_alloc_new, go_sem]
  have k' : W.cell? ⟨w.heap.size + 1, 0, none⟩ = some (.int .i64 ax) ∧ W.cell? ⟨w.heap.size + 1, 1, none⟩ = some (.int .i64 ay) ∧ W.cell? ⟨w.heap.size + 1, 2, none⟩ = some (.int .i64 bx) ∧ W.cell? ⟨w.heap.size + 1, 3, none⟩ = some (.int .i64 by_) := by
    rw [HW.out]; refine ⟨?_, ?_, ?_, ?_⟩ <;> simp [go_sem]
  have hz : w.heap.size + 1 < W.heap.size := by rw [HW.out]; simp
  have hz0 : w.heap.size < W.heap.size := by omega
  have K := Lib.hid k
  have K' := Lib.hid k'
  obtain ⟨k4, k5, k6, k7⟩ := k'
  clear HW k
  go_cut [5, 6] (fun s3 s4 wx => ∃ b2 b3 : Nat, s3 = .pointer (some ⟨b2, 0, none⟩) ∧ s4 = .pointer (some ⟨b3, 0, none⟩) ∧ Ext W wx ∧ (b2 < wx.heap.size ∧ b3 < wx.heap.size) ∧
    (wx.cell? ⟨b2, 0, none⟩ = some (.int .i64 ax) ∧ wx.cell? ⟨b2, 1, none⟩ = some (.int .i64 ay)) ∧ (wx.cell? ⟨b3, 0, none⟩ = some (.int .i64 bx) ∧ wx.cell? ⟨b3, 1, none⟩ = some (.int .i64 by_)))
  case first =>
    clear hE
    go_region_held3 (fun w' => ∀ j : Nat, w'.cell? ⟨w.heap.size + 1, j, none⟩ = W.cell? ⟨w.heap.size + 1, j, none⟩) ((intro j; (repeat (first | with_reducible rfl | (exact (by assumption : ∀ j : Nat, _) j) | rw [World.cell?_drew] | rw [World.cell?_alloc_past _ _ _ (by first | omega | (simp; omega) | (simp; done))] | rw [World.cell?_setCell_far _ _ _ _ (by first | omega | (simp; omega) | (simp; done))])))) (fail)
    all_goals
      rename_i hJ hK h1 h2 hH
      clear hH k4 k5 k6 k7
      refine h2 _ _ (Met.intro (h1 _ _ ?_))
      (repeat apply Exists.intro)
      refine ⟨?_, rfl⟩
      refine ⟨_, _, rfl, rfl, ?_, ⟨?_, ?_⟩, ?_⟩
      all_goals first | ((repeat (first | with_reducible exact Ext.rfl' _ | with_reducible assumption | with_reducible refine Ext.al ?_ _ | with_reducible refine Ext.dr ?_ | with_reducible refine Ext.st ?_ (by simp) _ | with_reducible refine Ext.tr ?_ (by assumption))); done) | (simp; done) | (simp; omega) | (simp [go_sem]; done) | (simp [World.cell?_alloc_past, World.cell?_alloc_new, go_sem]; done)
  case rest =>
    obtain ⟨b2, b3, rfl, rfl, hx, ⟨hb2, hb3⟩, ⟨m4, m5⟩, ⟨m6, m7⟩⟩ := hcut
    obtain ⟨W2, rfl⟩ : ∃ W2 : World, W2 = wc := ⟨_, rfl⟩
    have hb0 := hx.sz _ hz0
    have hb1 := hx.sz _ hz
    have hEw : Ext w W2 := hE.tr hx
    obtain ⟨q0, q1, q2, q3⟩ := K.out
    obtain ⟨q4, q5, q6, q7⟩ := K'.out
    have s0 := (hx.ccell _ 0 hz0).trans q0
    have s1 := (hx.ccell _ 1 hz0).trans q1
    have s2 := (hx.ccell _ 2 hz0).trans q2
    have s3 := (hx.ccell _ 3 hz0).trans q3
    have s4 := (hx.ccell _ 0 hz).trans q4
    have s5 := (hx.ccell _ 1 hz).trans q5
    have s6 := (hx.ccell _ 2 hz).trans q6
    have s7 := (hx.ccell _ 3 hz).trans q7
    clear q0 q1 q2 q3 q4 q5 q6 q7 k4 k5 k6 k7 hx hE hz hz0
    go_wp2
    cases o
    case false =>
      refine wp_region_held_drew (S := (fun w' => (∀ j : Nat, w'.cell? ⟨w.heap.size, j, none⟩ = W2.cell? ⟨w.heap.size, j, none⟩) ∧ (∀ j : Nat, w'.cell? ⟨w.heap.size + 1, j, none⟩ = W2.cell? ⟨w.heap.size + 1, j, none⟩) ∧ (∀ j : Nat, w'.cell? ⟨b2, j, none⟩ = W2.cell? ⟨b2, j, none⟩) ∧ (∀ j : Nat, w'.cell? ⟨b3, j, none⟩ = W2.cell? ⟨b3, j, none⟩) ∧ Ext W2 w')) (by kernel_rfl) ?_ (fun hHeld => ?_)
      · (try dsimp only); refine keep4 ?_ hb0 hb1 hb2 hb3; (repeat (first | with_reducible exact Ext.rfl' _ | with_reducible assumption | (exact (by assumption : _ ∧ _ ∧ _ ∧ _ ∧ Ext W2 _).2.2.2.2) | with_reducible refine Ext.al ?_ _ | with_reducible refine Ext.dr ?_ | with_reducible refine Ext.st ?_ (by simp) _ | with_reducible refine Ext.tr ?_ (by assumption)))
      refine wpAnyH_take (i := 0) (v := _) rfl (by kernel_rfl) (by kernel_rfl) (by kernel_rfl) (fun _ _ _ h => h) (Or.inl ⟨by kernel_rfl, by intro w hSw; (try dsimp only at hSw); go_simp; (try with_reducible rfl)⟩) (by assumption) ?_
      (try simp only [Act.put, List.getElem_toArray, List.getElem_cons_zero, List.getElem_cons_succ, List.setIfInBounds_toArray, List.set_cons_zero, List.set_cons_succ])
      refine wpAnyH_take (i := 2) (v := _) rfl (by kernel_rfl) (by kernel_rfl) (by kernel_rfl) (fun _ _ _ h => h) (Or.inl ⟨by kernel_rfl, by intro w hSw; (try dsimp only at hSw); go_simp; (try with_reducible rfl)⟩) (by assumption) ?_
      (try simp only [Act.put, List.getElem_toArray, List.getElem_cons_zero, List.getElem_cons_succ, List.setIfInBounds_toArray, List.set_cons_zero, List.set_cons_succ])
      refine wpAnyH_ready (rs := [1]) (by kernel_rfl) (by simp) ?_
      refine AllReadyH.cons (o := _) rfl (fun K hK => ?_) AllReadyH.nil
      go_simp
      (go_at_call 113; refine Calls.mono (HB1.out _) ?_; rintro e w1 ⟨rfl, hb⟩)
      refine hK.out _ _ ?_ (fun hHeld => ?_)
      · (try dsimp only); refine keep4 ?_ hb0 hb1 hb2 hb3; (repeat (first | with_reducible exact Ext.rfl' _ | with_reducible assumption | (exact (by assumption : _ ∧ _ ∧ _ ∧ _ ∧ Ext W2 _).2.2.2.2) | with_reducible refine Ext.al ?_ _ | with_reducible refine Ext.dr ?_ | with_reducible refine Ext.st ?_ (by simp) _ | with_reducible refine Ext.tr ?_ (by assumption)))
      clear hK K
      (try simp only [Act.put, List.getElem_toArray, List.getElem_cons_zero, List.getElem_cons_succ, List.setIfInBounds_toArray, List.set_cons_zero, List.set_cons_succ])
      refine wpAnyH_ready (rs := [3]) (by kernel_rfl) (by simp) ?_
      refine AllReadyH.cons (o := _) rfl (fun K hK => ?_) AllReadyH.nil
      go_simp
      (go_at_call 112; refine Calls.mono (HO.out _) ?_; rintro e w1 ⟨rfl, hb⟩)
      refine hK.out _ _ ?_ (fun hHeld => ?_)
      · (try dsimp only); refine keep4 ?_ hb0 hb1 hb2 hb3; (repeat (first | with_reducible exact Ext.rfl' _ | with_reducible assumption | (exact (by assumption : _ ∧ _ ∧ _ ∧ _ ∧ Ext W2 _).2.2.2.2) | with_reducible refine Ext.al ?_ _ | with_reducible refine Ext.dr ?_ | with_reducible refine Ext.st ?_ (by simp) _ | with_reducible refine Ext.tr ?_ (by assumption)))
      clear hK K
      (try simp only [Act.put, List.getElem_toArray, List.getElem_cons_zero, List.getElem_cons_succ, List.setIfInBounds_toArray, List.set_cons_zero, List.set_cons_succ])
      refine wpAnyH_take (i := 4) (v := _) rfl (by kernel_rfl) (by kernel_rfl) (by kernel_rfl) (fun _ _ _ h => h) (Or.inl ⟨by kernel_rfl, by intro w hSw; (try dsimp only at hSw); go_simp; (try with_reducible rfl)⟩) (by assumption) ?_
      (try simp only [Act.put, List.getElem_toArray, List.getElem_cons_zero, List.getElem_cons_succ, List.setIfInBounds_toArray, List.set_cons_zero, List.set_cons_succ])
      refine wpAnyH_take (i := 5) (v := undef) rfl (by kernel_rfl) (by kernel_rfl) (by kernel_rfl) (fun _ _ _ h => h) (Or.inr ⟨by kernel_rfl, rfl⟩) (by assumption) ?_
      (try simp only [Act.put, List.getElem_toArray, List.getElem_cons_zero, List.getElem_cons_succ, List.setIfInBounds_toArray, List.set_cons_zero, List.set_cons_succ])
      refine wpAnyH_take (i := 6) (v := undef) rfl (by kernel_rfl) (by kernel_rfl) (by kernel_rfl) (fun _ _ _ h => h) (Or.inr ⟨by kernel_rfl, rfl⟩) (by assumption) ?_
      (try simp only [Act.put, List.getElem_toArray, List.getElem_cons_zero, List.getElem_cons_succ, List.setIfInBounds_toArray, List.set_cons_zero, List.set_cons_succ])
      refine wpAnyH_take (i := 7) (v := undef) rfl (by kernel_rfl) (by kernel_rfl) (by kernel_rfl) (fun _ _ _ h => h) (Or.inr ⟨by kernel_rfl, rfl⟩) (by assumption) ?_
      (try simp only [Act.put, List.getElem_toArray, List.getElem_cons_zero, List.getElem_cons_succ, List.setIfInBounds_toArray, List.set_cons_zero, List.set_cons_succ])
      refine wpAnyH_take (i := 8) (v := undef) rfl (by kernel_rfl) (by kernel_rfl) (by kernel_rfl) (fun _ _ _ h => h) (Or.inr ⟨by kernel_rfl, rfl⟩) (by assumption) ?_
      (try simp only [Act.put, List.getElem_toArray, List.getElem_cons_zero, List.getElem_cons_succ, List.setIfInBounds_toArray, List.set_cons_zero, List.set_cons_succ])
      refine wpAnyH_take (i := 9) (v := undef) rfl (by kernel_rfl) (by kernel_rfl) (by kernel_rfl) (fun _ _ _ h => h) (Or.inr ⟨by kernel_rfl, rfl⟩) (by assumption) ?_
      (try simp only [Act.put, List.getElem_toArray, List.getElem_cons_zero, List.getElem_cons_succ, List.setIfInBounds_toArray, List.set_cons_zero, List.set_cons_succ])
      refine wpAnyH_take (i := 10) (v := undef) rfl (by kernel_rfl) (by kernel_rfl) (by kernel_rfl) (fun _ _ _ h => h) (Or.inr ⟨by kernel_rfl, rfl⟩) (by assumption) ?_
      (try simp only [Act.put, List.getElem_toArray, List.getElem_cons_zero, List.getElem_cons_succ, List.setIfInBounds_toArray, List.set_cons_zero, List.set_cons_succ])
      refine wpAnyH_take (i := 11) (v := undef) rfl (by kernel_rfl) (by kernel_rfl) (by kernel_rfl) (fun _ _ _ h => h) (Or.inr ⟨by kernel_rfl, rfl⟩) (by assumption) ?_
      (try simp only [Act.put, List.getElem_toArray, List.getElem_cons_zero, List.getElem_cons_succ, List.setIfInBounds_toArray, List.set_cons_zero, List.set_cons_succ])
      refine wpAnyH_take (i := 12) (v := undef) rfl (by kernel_rfl) (by kernel_rfl) (by kernel_rfl) (fun _ _ _ h => h) (Or.inr ⟨by kernel_rfl, rfl⟩) (by assumption) ?_
      (try simp only [Act.put, List.getElem_toArray, List.getElem_cons_zero, List.getElem_cons_succ, List.setIfInBounds_toArray, List.set_cons_zero, List.set_cons_succ])
      refine wpAnyH_take (i := 13) (v := undef) rfl (by kernel_rfl) (by kernel_rfl) (by kernel_rfl) (fun _ _ _ h => h) (Or.inr ⟨by kernel_rfl, rfl⟩) (by assumption) ?_
      (try simp only [Act.put, List.getElem_toArray, List.getElem_cons_zero, List.getElem_cons_succ, List.setIfInBounds_toArray, List.set_cons_zero, List.set_cons_succ])
      refine wpAnyH_take (i := 14) (v := undef) rfl (by kernel_rfl) (by kernel_rfl) (by kernel_rfl) (fun _ _ _ h => h) (Or.inr ⟨by kernel_rfl, rfl⟩) (by assumption) ?_
      (try simp only [Act.put, List.getElem_toArray, List.getElem_cons_zero, List.getElem_cons_succ, List.setIfInBounds_toArray, List.set_cons_zero, List.set_cons_succ])
      refine wpAnyH_take (i := 15) (v := undef) rfl (by kernel_rfl) (by kernel_rfl) (by kernel_rfl) (fun _ _ _ h => h) (Or.inr ⟨by kernel_rfl, rfl⟩) (by assumption) ?_
      (try simp only [Act.put, List.getElem_toArray, List.getElem_cons_zero, List.getElem_cons_succ, List.setIfInBounds_toArray, List.set_cons_zero, List.set_cons_succ])
      refine wpAnyH_take (i := 16) (v := undef) rfl (by kernel_rfl) (by kernel_rfl) (by kernel_rfl) (fun _ _ _ h => h) (Or.inr ⟨by kernel_rfl, rfl⟩) (by assumption) ?_
      (try simp only [Act.put, List.getElem_toArray, List.getElem_cons_zero, List.getElem_cons_succ, List.setIfInBounds_toArray, List.set_cons_zero, List.set_cons_succ])
      refine wpAnyH_take (i := 17) (v := undef) rfl (by kernel_rfl) (by kernel_rfl) (by kernel_rfl) (fun _ _ _ h => h) (Or.inr ⟨by kernel_rfl, rfl⟩) (by assumption) ?_
      (try simp only [Act.put, List.getElem_toArray, List.getElem_cons_zero, List.getElem_cons_succ, List.setIfInBounds_toArray, List.set_cons_zero, List.set_cons_succ])
      refine wpAnyH_take (i := 18) (v := undef) rfl (by kernel_rfl) (by kernel_rfl) (by kernel_rfl) (fun _ _ _ h => h) (Or.inr ⟨by kernel_rfl, rfl⟩) (by assumption) ?_
      (try simp only [Act.put, List.getElem_toArray, List.getElem_cons_zero, List.getElem_cons_succ, List.setIfInBounds_toArray, List.set_cons_zero, List.set_cons_succ])
      refine wpAnyH_take (i := 19) (v := undef) rfl (by kernel_rfl) (by kernel_rfl) (by kernel_rfl) (fun _ _ _ h => h) (Or.inr ⟨by kernel_rfl, rfl⟩) (by assumption) ?_
      (try simp only [Act.put, List.getElem_toArray, List.getElem_cons_zero, List.getElem_cons_succ, List.setIfInBounds_toArray, List.set_cons_zero, List.set_cons_succ])
      refine wpAnyH_take (i := 20) (v := _) rfl (by kernel_rfl) (by kernel_rfl) (by kernel_rfl) (fun _ _ _ h => h) (Or.inl ⟨by kernel_rfl, by intro w hSw; (try dsimp only at hSw); go_simp; (try with_reducible rfl)⟩) (by assumption) ?_
      (try simp only [Act.put, List.getElem_toArray, List.getElem_cons_zero, List.getElem_cons_succ, List.setIfInBounds_toArray, List.set_cons_zero, List.set_cons_succ])
      refine wpAnyH_take (i := 21) (v := _) rfl (by kernel_rfl) (by kernel_rfl) (by kernel_rfl) (fun _ _ _ h => h) (Or.inl ⟨by kernel_rfl, by intro w hSw; (try dsimp only at hSw); go_simp; (try with_reducible rfl)⟩) (by assumption) ?_
      (try simp only [Act.put, List.getElem_toArray, List.getElem_cons_zero, List.getElem_cons_succ, List.setIfInBounds_toArray, List.set_cons_zero, List.set_cons_succ])
      refine wpAnyH_done (by kernel_rfl) ?_ _
      have hEn := hHeld.2.2.2.2
      go_wp2
      go_ret
      exact ⟨by simp, hEw.tr hEn⟩
    case true =>
      refine wp_region_held_drew (S := (fun w' => (∀ j : Nat, w'.cell? ⟨w.heap.size, j, none⟩ = W2.cell? ⟨w.heap.size, j, none⟩) ∧ (∀ j : Nat, w'.cell? ⟨w.heap.size + 1, j, none⟩ = W2.cell? ⟨w.heap.size + 1, j, none⟩) ∧ (∀ j : Nat, w'.cell? ⟨b2, j, none⟩ = W2.cell? ⟨b2, j, none⟩) ∧ (∀ j : Nat, w'.cell? ⟨b3, j, none⟩ = W2.cell? ⟨b3, j, none⟩) ∧ Ext W2 w')) (by kernel_rfl) ?_ (fun hHeld => ?_)
      · (try dsimp only); refine keep4 ?_ hb0 hb1 hb2 hb3; (repeat (first | with_reducible exact Ext.rfl' _ | with_reducible assumption | (exact (by assumption : _ ∧ _ ∧ _ ∧ _ ∧ Ext W2 _).2.2.2.2) | with_reducible refine Ext.al ?_ _ | with_reducible refine Ext.dr ?_ | with_reducible refine Ext.st ?_ (by simp) _ | with_reducible refine Ext.tr ?_ (by assumption)))
      refine wpAnyH_take (i := 0) (v := _) rfl (by kernel_rfl) (by kernel_rfl) (by kernel_rfl) (fun _ _ _ h => h) (Or.inl ⟨by kernel_rfl, by intro w hSw; (try dsimp only at hSw); go_simp; (try with_reducible rfl)⟩) (by assumption) ?_
      (try simp only [Act.put, List.getElem_toArray, List.getElem_cons_zero, List.getElem_cons_succ, List.setIfInBounds_toArray, List.set_cons_zero, List.set_cons_succ])
      refine wpAnyH_take (i := 2) (v := _) rfl (by kernel_rfl) (by kernel_rfl) (by kernel_rfl) (fun _ _ _ h => h) (Or.inl ⟨by kernel_rfl, by intro w hSw; (try dsimp only at hSw); go_simp; (try with_reducible rfl)⟩) (by assumption) ?_
      (try simp only [Act.put, List.getElem_toArray, List.getElem_cons_zero, List.getElem_cons_succ, List.setIfInBounds_toArray, List.set_cons_zero, List.set_cons_succ])
      refine wpAnyH_ready (rs := [1]) (by kernel_rfl) (by simp) ?_
      refine AllReadyH.cons (o := _) rfl (fun K hK => ?_) AllReadyH.nil
      go_simp
      (go_at_call 113; refine Calls.mono (HB1.out _) ?_; rintro e w1 ⟨rfl, hb⟩)
      refine hK.out _ _ ?_ (fun hHeld => ?_)
      · (try dsimp only); refine keep4 ?_ hb0 hb1 hb2 hb3; (repeat (first | with_reducible exact Ext.rfl' _ | with_reducible assumption | (exact (by assumption : _ ∧ _ ∧ _ ∧ _ ∧ Ext W2 _).2.2.2.2) | with_reducible refine Ext.al ?_ _ | with_reducible refine Ext.dr ?_ | with_reducible refine Ext.st ?_ (by simp) _ | with_reducible refine Ext.tr ?_ (by assumption)))
      clear hK K
      (try simp only [Act.put, List.getElem_toArray, List.getElem_cons_zero, List.getElem_cons_succ, List.setIfInBounds_toArray, List.set_cons_zero, List.set_cons_succ])
      refine wpAnyH_ready (rs := [3]) (by kernel_rfl) (by simp) ?_
      refine AllReadyH.cons (o := _) rfl (fun K hK => ?_) AllReadyH.nil
      go_simp
      (go_at_call 112; refine Calls.mono (HO.out _) ?_; rintro e w1 ⟨rfl, hb⟩)
      refine hK.out _ _ ?_ (fun hHeld => ?_)
      · (try dsimp only); refine keep4 ?_ hb0 hb1 hb2 hb3; (repeat (first | with_reducible exact Ext.rfl' _ | with_reducible assumption | (exact (by assumption : _ ∧ _ ∧ _ ∧ _ ∧ Ext W2 _).2.2.2.2) | with_reducible refine Ext.al ?_ _ | with_reducible refine Ext.dr ?_ | with_reducible refine Ext.st ?_ (by simp) _ | with_reducible refine Ext.tr ?_ (by assumption)))
      clear hK K
      (try simp only [Act.put, List.getElem_toArray, List.getElem_cons_zero, List.getElem_cons_succ, List.setIfInBounds_toArray, List.set_cons_zero, List.set_cons_succ])
      refine wpAnyH_take (i := 4) (v := _) rfl (by kernel_rfl) (by kernel_rfl) (by kernel_rfl) (fun _ _ _ h => h) (Or.inl ⟨by kernel_rfl, by intro w hSw; (try dsimp only at hSw); go_simp; (try with_reducible rfl)⟩) (by assumption) ?_
      (try simp only [Act.put, List.getElem_toArray, List.getElem_cons_zero, List.getElem_cons_succ, List.setIfInBounds_toArray, List.set_cons_zero, List.set_cons_succ])
      refine wpAnyH_take (i := 5) (v := _) rfl (by kernel_rfl) (by kernel_rfl) (by kernel_rfl) (fun _ _ _ h => h) (Or.inl ⟨by kernel_rfl, by intro w hSw; (try dsimp only at hSw); go_simp; (try with_reducible rfl)⟩) (by assumption) ?_
      (try simp only [Act.put, List.getElem_toArray, List.getElem_cons_zero, List.getElem_cons_succ, List.setIfInBounds_toArray, List.set_cons_zero, List.set_cons_succ])
      refine wpAnyH_take (i := 6) (v := _) rfl (by kernel_rfl) (by kernel_rfl) (by kernel_rfl) (fun _ _ _ h => h) (Or.inl ⟨by kernel_rfl, by intro w hSw; (try dsimp only at hSw); go_simp; (try with_reducible rfl)⟩) (by assumption) ?_
      (try simp only [Act.put, List.getElem_toArray, List.getElem_cons_zero, List.getElem_cons_succ, List.setIfInBounds_toArray, List.set_cons_zero, List.set_cons_succ])
      refine wpAnyH_take (i := 7) (v := _) rfl (by kernel_rfl) (by kernel_rfl) (by kernel_rfl) (fun _ _ _ h => h) (Or.inl ⟨by kernel_rfl, by intro w hSw; (try dsimp only at hSw); go_simp; (try with_reducible rfl)⟩) (by assumption) ?_
      (try simp only [Act.put, List.getElem_toArray, List.getElem_cons_zero, List.getElem_cons_succ, List.setIfInBounds_toArray, List.set_cons_zero, List.set_cons_succ])
      refine wpAnyH_take (i := 8) (v := _) rfl (by kernel_rfl) (by kernel_rfl) (by kernel_rfl) (fun _ _ _ h => h) (Or.inl ⟨by kernel_rfl, by intro w hSw; (try dsimp only at hSw); go_simp; (try with_reducible rfl)⟩) (by assumption) ?_
      (try simp only [Act.put, List.getElem_toArray, List.getElem_cons_zero, List.getElem_cons_succ, List.setIfInBounds_toArray, List.set_cons_zero, List.set_cons_succ])
      refine wpAnyH_take (i := 9) (v := _) rfl (by kernel_rfl) (by kernel_rfl) (by kernel_rfl) (fun _ _ _ h => h) (Or.inl ⟨by kernel_rfl, by intro w hSw; (try dsimp only at hSw); go_simp; (try with_reducible rfl)⟩) (by assumption) ?_
      (try simp only [Act.put, List.getElem_toArray, List.getElem_cons_zero, List.getElem_cons_succ, List.setIfInBounds_toArray, List.set_cons_zero, List.set_cons_succ])
      refine wpAnyH_take (i := 10) (v := _) rfl (by kernel_rfl) (by kernel_rfl) (by kernel_rfl) (fun _ _ _ h => h) (Or.inl ⟨by kernel_rfl, by intro w hSw; (try dsimp only at hSw); go_simp; (try with_reducible rfl)⟩) (by assumption) ?_
      (try simp only [Act.put, List.getElem_toArray, List.getElem_cons_zero, List.getElem_cons_succ, List.setIfInBounds_toArray, List.set_cons_zero, List.set_cons_succ])
      refine wpAnyH_take (i := 11) (v := _) rfl (by kernel_rfl) (by kernel_rfl) (by kernel_rfl) (fun _ _ _ h => h) (Or.inl ⟨by kernel_rfl, by intro w hSw; (try dsimp only at hSw); go_simp; (try with_reducible rfl)⟩) (by assumption) ?_
      (try simp only [Act.put, List.getElem_toArray, List.getElem_cons_zero, List.getElem_cons_succ, List.setIfInBounds_toArray, List.set_cons_zero, List.set_cons_succ])
      refine wpAnyH_take (i := 12) (v := _) rfl (by kernel_rfl) (by kernel_rfl) (by kernel_rfl) (fun _ _ _ h => h) (Or.inl ⟨by kernel_rfl, by intro w hSw; (try dsimp only at hSw); go_simp; (try with_reducible rfl)⟩) (by assumption) ?_
      (try simp only [Act.put, List.getElem_toArray, List.getElem_cons_zero, List.getElem_cons_succ, List.setIfInBounds_toArray, List.set_cons_zero, List.set_cons_succ])
      refine wpAnyH_take (i := 13) (v := _) rfl (by kernel_rfl) (by kernel_rfl) (by kernel_rfl) (fun _ _ _ h => h) (Or.inl ⟨by kernel_rfl, by intro w hSw; (try dsimp only at hSw); go_simp; (try with_reducible rfl)⟩) (by assumption) ?_
      (try simp only [Act.put, List.getElem_toArray, List.getElem_cons_zero, List.getElem_cons_succ, List.setIfInBounds_toArray, List.set_cons_zero, List.set_cons_succ])
      refine wpAnyH_take (i := 14) (v := _) rfl (by kernel_rfl) (by kernel_rfl) (by kernel_rfl) (fun _ _ _ h => h) (Or.inl ⟨by kernel_rfl, by intro w hSw; (try dsimp only at hSw); go_simp; (try with_reducible rfl)⟩) (by assumption) ?_
      (try simp only [Act.put, List.getElem_toArray, List.getElem_cons_zero, List.getElem_cons_succ, List.setIfInBounds_toArray, List.set_cons_zero, List.set_cons_succ])
      refine wpAnyH_take (i := 15) (v := _) rfl (by kernel_rfl) (by kernel_rfl) (by kernel_rfl) (fun _ _ _ h => h) (Or.inl ⟨by kernel_rfl, by intro w hSw; (try dsimp only at hSw); go_simp; (try with_reducible rfl)⟩) (by assumption) ?_
      (try simp only [Act.put, List.getElem_toArray, List.getElem_cons_zero, List.getElem_cons_succ, List.setIfInBounds_toArray, List.set_cons_zero, List.set_cons_succ])
      refine wpAnyH_take (i := 16) (v := _) rfl (by kernel_rfl) (by kernel_rfl) (by kernel_rfl) (fun _ _ _ h => h) (Or.inl ⟨by kernel_rfl, by intro w hSw; (try dsimp only at hSw); go_simp; (try with_reducible rfl)⟩) (by assumption) ?_
      (try simp only [Act.put, List.getElem_toArray, List.getElem_cons_zero, List.getElem_cons_succ, List.setIfInBounds_toArray, List.set_cons_zero, List.set_cons_succ])
      refine wpAnyH_take (i := 17) (v := _) rfl (by kernel_rfl) (by kernel_rfl) (by kernel_rfl) (fun _ _ _ h => h) (Or.inl ⟨by kernel_rfl, by intro w hSw; (try dsimp only at hSw); go_simp; (try with_reducible rfl)⟩) (by assumption) ?_
      (try simp only [Act.put, List.getElem_toArray, List.getElem_cons_zero, List.getElem_cons_succ, List.setIfInBounds_toArray, List.set_cons_zero, List.set_cons_succ])
      refine wpAnyH_ready (rs := [18]) (by kernel_rfl) (by simp) ?_
      refine AllReadyH.cons (o := _) rfl (fun K hK => ?_) AllReadyH.nil
      go_simp
      skip
      refine hK.out _ _ ?_ (fun hHeld => ?_)
      · (try dsimp only); refine keep4 ?_ hb0 hb1 hb2 hb3; (repeat (first | with_reducible exact Ext.rfl' _ | with_reducible assumption | (exact (by assumption : _ ∧ _ ∧ _ ∧ _ ∧ Ext W2 _).2.2.2.2) | with_reducible refine Ext.al ?_ _ | with_reducible refine Ext.dr ?_ | with_reducible refine Ext.st ?_ (by simp) _ | with_reducible refine Ext.tr ?_ (by assumption)))
      clear hK K
      (try simp only [Act.put, List.getElem_toArray, List.getElem_cons_zero, List.getElem_cons_succ, List.setIfInBounds_toArray, List.set_cons_zero, List.set_cons_succ])
      refine wpAnyH_ready (rs := [19]) (by kernel_rfl) (by simp) ?_
      refine AllReadyH.cons (o := _) rfl (fun K hK => ?_) AllReadyH.nil
      go_simp
      (go_at_call 114; refine Calls.mono (reaches4_c _ _ _ _ _ _ _ _ _ _ _ _ _ HR1.out _ _ _ _ _ (Ext.rfl' _) (by simp)) ?_; rintro e w1 ⟨rfl, hb⟩)
      refine hK.out _ _ ?_ (fun hHeld => ?_)
      · (try dsimp only); refine keep4 ?_ hb0 hb1 hb2 hb3; (repeat (first | with_reducible exact Ext.rfl' _ | with_reducible assumption | (exact (by assumption : _ ∧ _ ∧ _ ∧ _ ∧ Ext W2 _).2.2.2.2) | with_reducible refine Ext.al ?_ _ | with_reducible refine Ext.dr ?_ | with_reducible refine Ext.st ?_ (by simp) _ | with_reducible refine Ext.tr ?_ (by assumption)))
      clear hK K
      (try simp only [Act.put, List.getElem_toArray, List.getElem_cons_zero, List.getElem_cons_succ, List.setIfInBounds_toArray, List.set_cons_zero, List.set_cons_succ])
      refine wpAnyH_take (i := 20) (v := _) rfl (by kernel_rfl) (by kernel_rfl) (by kernel_rfl) (fun _ _ _ h => h) (Or.inl ⟨by kernel_rfl, by intro w hSw; (try dsimp only at hSw); go_simp; (try with_reducible rfl)⟩) (by assumption) ?_
      (try simp only [Act.put, List.getElem_toArray, List.getElem_cons_zero, List.getElem_cons_succ, List.setIfInBounds_toArray, List.set_cons_zero, List.set_cons_succ])
      refine wpAnyH_take (i := 21) (v := _) rfl (by kernel_rfl) (by kernel_rfl) (by kernel_rfl) (fun _ _ _ h => h) (Or.inl ⟨by kernel_rfl, by intro w hSw; (try dsimp only at hSw); go_simp; (try with_reducible rfl)⟩) (by assumption) ?_
      (try simp only [Act.put, List.getElem_toArray, List.getElem_cons_zero, List.getElem_cons_succ, List.setIfInBounds_toArray, List.set_cons_zero, List.set_cons_succ])
      refine wpAnyH_done (by kernel_rfl) ?_ _
      have hEn := hHeld.2.2.2.2
      go_wp2
      go_ret
      exact ⟨by simp, hEw.tr hEn⟩

def sideBox (l : List Pt) (a b : Pt) (i : Nat) : Bool := boxG (cor l i) (cor l (i + 1)) a b
def touE (l : List Pt) (a b : Pt) : Int := if polyE l ≠ 0 then polyE l else if (good a && good b) = false then 2 else if b.x < a.x ∨ b.y < a.y then 9 else 0
def touL (l : List Pt) (a b : Pt) : Bool := anyN (sideBox l a b) l.length || decide (0 < placeG l a)
def touV (l : List Pt) (a b : Pt) : Bool := if touE l a b = 0 then touL l a b else false
theorem inRange2_of (ax ay bx by_ : Int) (r : Bool) (hr : (good ⟨ax, ay⟩ && good ⟨bx, by_⟩) = r) (w : World) (c n : Nat) (t : TypeId) (hn : n = w.heap.size) :
    Calls Try.prog 73 #[.slice (some ⟨n, 0, none⟩) 2 c] (w.alloc (.cells #[.int .i64 ax, .int .i64 ay, .int .i64 bx, .int .i64 by_] t))
      fun e w' => e = .returned (.bool r) ∧ Ext (w.alloc (.cells #[.int .i64 ax, .int .i64 ay, .int .i64 bx, .int .i64 by_] t)) w' := by
  have := inRange_c [⟨ax, ay⟩, ⟨bx, by_⟩] (w.alloc (.cells #[.int .i64 ax, .int .i64 ay, .int .i64 bx, .int .i64 by_] t)) (some ⟨n, 0, none⟩) c (small_len (by simp)) (Row.new' encP_len _ _ _ _ _ hn rfl)
  rw [show allGood [⟨ax, ay⟩, ⟨bx, by_⟩] = r by simp [allGood, hr]] at this
  exact this

set_option maxHeartbeats 4000000 in
theorem gtouches_ok (l : List Pt) (ax ay bx by_ : Int) (w : World) (A : Option Addr) (c : Nat) (hl : l.length ≤ 1000) (hA : Row 2 encP w A l) (h1 : polyE l = 0) (hg : (good ⟨ax, ay⟩ && good ⟨bx, by_⟩) = true) (hx : ax ≤ bx) (hy : ay ≤ by_) :
    Calls Try.prog 48 #[.slice A l.length c, .agg #[.int .i64 ax, .int .i64 ay], .agg #[.int .i64 bx, .int .i64 by_]] w
      fun e w' => e = .returned (.tuple #[.bool (touL l ⟨ax, ay⟩ ⟨bx, by_⟩), .int .i64 0]) ∧ Ext w w' := by
  have hC := (fun w' (hw : Ext w w') => checkPolygon_c l w' A c hl (hA.ext hw))
  rw [h1] at hC
  have HC := Lib.hid hC
  have HP := Lib.hid (fun w' (hw : Ext w w') => gplace_c l ax ay w' A c hl (hA.ext hw))
  have HSD := Lib.hid (fun w' (hw : Ext w w') => sides_c l w' A c hl (hA.ext hw))
  have HNS := Lib.hid (fun i w' => meetsBox_c (cor l i).x (cor l i).y (cor l (i + 1)).x (cor l (i + 1)).y ax ay bx by_ w')
  have HG := Lib.hid hg
  obtain ⟨E, hE0⟩ : ∃ E, touL l ⟨ax, ay⟩ ⟨bx, by_⟩ = E := ⟨_, rfl⟩
  rw [hE0]
  unfold touL at hE0
  have HT := Lib.hid hE0
  clear hE0 hC hg h1
  generalize placeG l ⟨ax, ay⟩ = r at *
  go_enter Try.func48, Try.ntmps48
  go_wp2_with (first | (go_at_call 42; with_reducible refine Calls.mono (HC.out _ (by (repeat (first | with_reducible exact Ext.rfl' _ | with_reducible assumption | with_reducible refine Ext.al ?_ _ | with_reducible refine Ext.dr ?_ | with_reducible refine Ext.st ?_ (by simp) _ | with_reducible refine Ext.tr ?_ (by assumption))))) ?_; rintro e w1 ⟨rfl, hb⟩; have hc := hb.ccell; have hf := hb.frz; have hs := hb.sz; (try simp at hs); (try have hs0 := hs w.heap.size (by omega)); (try have hs1 := hs (w.heap.size + 1) (by omega)); (try have hs2 := hs (w.heap.size + 1 + 1) (by omega)); (try have hs3 := hs (w.heap.size + 1 + 1 + 1) (by omega))) | (go_at_call 73; refine Calls.mono (inRange2_of _ _ _ _ _ HG.out _ _ _ _ ?_) ?_; (focus simp); rintro e w1 ⟨rfl, hb⟩; have hc := hb.ccell; have hf := hb.frz; have hs := hb.sz; (try simp at hs); (try have hs0 := hs w.heap.size (by omega)); (try have hs1 := hs (w.heap.size + 1) (by omega)); (try have hs2 := hs (w.heap.size + 1 + 1) (by omega)); (try have hs3 := hs (w.heap.size + 1 + 1 + 1) (by omega))) | (go_at_call 89; refine Calls.mono (HSD.out _ (by (repeat (first | with_reducible exact Ext.rfl' _ | with_reducible assumption | with_reducible refine Ext.al ?_ _ | with_reducible refine Ext.dr ?_ | with_reducible refine Ext.st ?_ (by simp) _ | with_reducible refine Ext.tr ?_ (by assumption))))) ?_; rintro e wS ⟨g, rfl, hbS, hrow⟩))
  have hE : Ext w wS := by (repeat (first | with_reducible exact Ext.rfl' _ | with_reducible assumption | with_reducible refine Ext.al ?_ _ | with_reducible refine Ext.dr ?_ | with_reducible refine Ext.st ?_ (by simp) _ | with_reducible refine Ext.tr ?_ (by assumption)))
  have hcS := hbS.ccell
  have k : wS.cell? ⟨w.heap.size, 0, none⟩ = some (.int .i64 ax) ∧ wS.cell? ⟨w.heap.size, 1, none⟩ = some (.int .i64 ay) := by
    refine ⟨?_, ?_⟩ <;> simp [*, go_sem]
  have k' : wS.cell? ⟨w.heap.size + 1, 0, none⟩ = some (.int .i64 bx) ∧ wS.cell? ⟨w.heap.size + 1, 1, none⟩ = some (.int .i64 by_) := by
    refine ⟨?_, ?_⟩ <;> simp [*, go_sem]
  have hzp : w.heap.size < wS.heap.size := hbS.sz _ hs0
  have hzq : w.heap.size + 1 < wS.heap.size := hbS.sz _ hs1
  have K := Lib.hid k
  have K' := Lib.hid k'
  have HROW := Lib.hid hrow
  clear hcS k k' hrow hbS hb hc hf hs hs0 hs1
  go_loopw [10, 36] (fun _ i wr => Ext wS wr ∧ ∃ k : Nat, k ≤ l.length ∧ i = .int .i64 k ∧ Hid (anyN (sideBox l ⟨ax, ay⟩ ⟨bx, by_⟩) k = false)) (fun _ i _ => l.length - (intOf i).toNat)
  case atStart => exact ⟨Ext.rfl' _, 0, Nat.zero_le _, rfl, rfl⟩
  case round =>
    obtain ⟨hr, k, hk, rfl, hN⟩ := hrel
    have e0 := (hr.ccell _ 0 hzp).trans K.out.1
    have e1 := (hr.ccell _ 1 hzp).trans K.out.2
    have e2 := (hr.ccell _ 0 hzq).trans K'.out.1
    have e3 := (hr.ccell _ 1 hzq).trans K'.out.2
    have hz0 := hr.sz _ hzp
    have hz1 := hr.sz _ hzq
    by_cases hlt : k < l.length
    · obtain ⟨hgs, hcell⟩ := HROW.out.r4 hlt
      have c := hcell _ hr
      simp only [Nat.zero_add] at c
      have hzg := hr.sz _ hgs
      clear hcell
      have HB := Lib.hid (HNS.out k)
      have HON := Lib.hid (show sideBox l ⟨ax, ay⟩ ⟨bx, by_⟩ k = boxG ⟨(cor l k).x, (cor l k).y⟩ ⟨(cor l (k + 1)).x, (cor l (k + 1)).y⟩ ⟨ax, ay⟩ ⟨bx, by_⟩ from rfl)
      generalize boxG ⟨(cor l k).x, (cor l k).y⟩ ⟨(cor l (k + 1)).x, (cor l (k + 1)).y⟩ ⟨ax, ay⟩ ⟨bx, by_⟩ = r2 at HB HON
      cases r2
      all_goals
        go_wp2_with (first | (go_at_call 95; with_reducible refine Calls.mono (HB.out _) ?_; rintro e w1 ⟨rfl, hb⟩; have hc := hb.ccell; have hf := hb.frz; have hs := hb.sz; (try simp at hs); (try have hs0 := hs w.heap.size (by omega)); (try have hs1 := hs (w.heap.size + 1) (by omega)); (try have hs2 := hs (w.heap.size + 1 + 1) (by omega)); (try have hs3 := hs (w.heap.size + 1 + 1 + 1) (by omega))))
      · exact ⟨⟨by (repeat (first | with_reducible exact Ext.rfl' _ | with_reducible assumption | with_reducible refine Ext.al ?_ _ | with_reducible refine Ext.dr ?_ | with_reducible refine Ext.st ?_ (by simp) _ | with_reducible refine Ext.tr ?_ (by assumption))), k + 1, by omega, by go_num, (by show anyN _ (k + 1) = false; rw [anyN, hN.out, HON.out]; rfl)⟩, by simp [intOf]; omega⟩
      · go_ret2
        exact ⟨by rw [← HT.out, anyN_at _ hlt HON.out]; simp, by (repeat (first | with_reducible exact Ext.rfl' _ | with_reducible assumption | with_reducible refine Ext.al ?_ _ | with_reducible refine Ext.dr ?_ | with_reducible refine Ext.st ?_ (by simp) _ | with_reducible refine Ext.tr ?_ (by assumption)))⟩
    · have hkl : k = l.length := by omega
      have hT := HT.out
      rw [← hkl, hN.out, Bool.false_or] at hT
      have HT2 := Lib.hid hT
      have hEr : Ext w wr := hE.tr hr
      clear hT hN
      go_wp2_with (first | (go_at_call 93; with_reducible refine Calls.mono (HP.out _ (by (repeat (first | with_reducible exact Ext.rfl' _ | with_reducible assumption | with_reducible refine Ext.al ?_ _ | with_reducible refine Ext.dr ?_ | with_reducible refine Ext.st ?_ (by simp) _ | with_reducible refine Ext.tr ?_ (by assumption))))) ?_; rintro e w1 ⟨rfl, hb⟩; have hc := hb.ccell; have hf := hb.frz; have hs := hb.sz; (try simp at hs); (try have hs0 := hs w.heap.size (by omega)); (try have hs1 := hs (w.heap.size + 1) (by omega)); (try have hs2 := hs (w.heap.size + 1 + 1) (by omega)); (try have hs3 := hs (w.heap.size + 1 + 1 + 1) (by omega))))
      go_ret2
      exact ⟨by rw [← HT2.out]; rfl, by (repeat (first | with_reducible exact Ext.rfl' _ | with_reducible assumption | with_reducible refine Ext.al ?_ _ | with_reducible refine Ext.dr ?_ | with_reducible refine Ext.st ?_ (by simp) _ | with_reducible refine Ext.tr ?_ (by assumption)))⟩

set_option maxHeartbeats 4000000 in
theorem gtouches_c (l : List Pt) (ax ay bx by_ : Int) (w : World) (A : Option Addr) (c : Nat) (hl : l.length ≤ 1000) (hA : Row 2 encP w A l) :
    Calls Try.prog 48 #[.slice A l.length c, .agg #[.int .i64 ax, .int .i64 ay], .agg #[.int .i64 bx, .int .i64 by_]] w
      fun e w' => e = .returned (.tuple #[.bool (touV l ⟨ax, ay⟩ ⟨bx, by_⟩), .int .i64 (touE l ⟨ax, ay⟩ ⟨bx, by_⟩)]) ∧ Ext w w' := by
  have HC := Lib.hid (fun w' (hw : Ext w w') => checkPolygon_c l w' A c hl (hA.ext hw))
  by_cases h1 : polyE l = 0
  · rw [h1] at HC
    cases hg : (good ⟨ax, ay⟩ && good ⟨bx, by_⟩)
    · have e1 : touE l ⟨ax, ay⟩ ⟨bx, by_⟩ = 2 := by unfold touE; rw [if_neg (by rw [h1]; simp), if_pos hg]
      have e2 : touV l ⟨ax, ay⟩ ⟨bx, by_⟩ = false := by unfold touV; rw [e1]; rfl
      rw [e1, e2]
      have HG := Lib.hid hg
      clear hg h1 e1 e2
      go_enter Try.func48, Try.ntmps48
      go_wp2_with (first | (go_at_call 42; with_reducible refine Calls.mono (HC.out _ (by (repeat (first | with_reducible exact Ext.rfl' _ | with_reducible assumption | with_reducible refine Ext.al ?_ _ | with_reducible refine Ext.dr ?_ | with_reducible refine Ext.st ?_ (by simp) _ | with_reducible refine Ext.tr ?_ (by assumption))))) ?_; rintro e w1 ⟨rfl, hb⟩; have hc := hb.ccell; have hf := hb.frz; have hs := hb.sz; (try simp at hs); (try have hs0 := hs w.heap.size (by omega)); (try have hs1 := hs (w.heap.size + 1) (by omega)); (try have hs2 := hs (w.heap.size + 1 + 1) (by omega)); (try have hs3 := hs (w.heap.size + 1 + 1 + 1) (by omega))) | (go_at_call 73; refine Calls.mono (inRange2_of _ _ _ _ _ HG.out _ _ _ _ ?_) ?_; (focus simp); rintro e w1 ⟨rfl, hb⟩; have hc := hb.ccell; have hf := hb.frz; have hs := hb.sz; (try simp at hs); (try have hs0 := hs w.heap.size (by omega)); (try have hs1 := hs (w.heap.size + 1) (by omega)); (try have hs2 := hs (w.heap.size + 1 + 1) (by omega)); (try have hs3 := hs (w.heap.size + 1 + 1 + 1) (by omega))))
      go_ret2
      exact ⟨rfl, by (repeat (first | with_reducible exact Ext.rfl' _ | with_reducible assumption | with_reducible refine Ext.al ?_ _ | with_reducible refine Ext.dr ?_ | with_reducible refine Ext.st ?_ (by simp) _ | with_reducible refine Ext.tr ?_ (by assumption)))⟩
    by_cases hx : ax ≤ bx
    · by_cases hy : ay ≤ by_
      · have e1 : touE l ⟨ax, ay⟩ ⟨bx, by_⟩ = 0 := by unfold touE; rw [if_neg (by rw [h1]; simp), if_neg (by rw [hg]; decide), if_neg (by simp only; omega)]
        have e2 : touV l ⟨ax, ay⟩ ⟨bx, by_⟩ = touL l ⟨ax, ay⟩ ⟨bx, by_⟩ := by unfold touV; rw [e1]; rfl
        rw [e1, e2]
        exact gtouches_ok l ax ay bx by_ w A c hl hA h1 hg hx hy
      · have e1 : touE l ⟨ax, ay⟩ ⟨bx, by_⟩ = 9 := by unfold touE; rw [if_neg (by rw [h1]; simp), if_neg (by rw [hg]; decide), if_pos (by simp only; omega)]
        have e2 : touV l ⟨ax, ay⟩ ⟨bx, by_⟩ = false := by unfold touV; rw [e1]; rfl
        rw [e1, e2]
        have HG := Lib.hid hg
        clear hg h1 e1 e2
        go_enter Try.func48, Try.ntmps48
        go_wp2_with (first | (go_at_call 42; with_reducible refine Calls.mono (HC.out _ (by (repeat (first | with_reducible exact Ext.rfl' _ | with_reducible assumption | with_reducible refine Ext.al ?_ _ | with_reducible refine Ext.dr ?_ | with_reducible refine Ext.st ?_ (by simp) _ | with_reducible refine Ext.tr ?_ (by assumption))))) ?_; rintro e w1 ⟨rfl, hb⟩; have hc := hb.ccell; have hf := hb.frz; have hs := hb.sz; (try simp at hs); (try have hs0 := hs w.heap.size (by omega)); (try have hs1 := hs (w.heap.size + 1) (by omega)); (try have hs2 := hs (w.heap.size + 1 + 1) (by omega)); (try have hs3 := hs (w.heap.size + 1 + 1 + 1) (by omega))) | (go_at_call 73; refine Calls.mono (inRange2_of _ _ _ _ _ HG.out _ _ _ _ ?_) ?_; (focus simp); rintro e w1 ⟨rfl, hb⟩; have hc := hb.ccell; have hf := hb.frz; have hs := hb.sz; (try simp at hs); (try have hs0 := hs w.heap.size (by omega)); (try have hs1 := hs (w.heap.size + 1) (by omega)); (try have hs2 := hs (w.heap.size + 1 + 1) (by omega)); (try have hs3 := hs (w.heap.size + 1 + 1 + 1) (by omega))))
        go_ret2
        exact ⟨rfl, by (repeat (first | with_reducible exact Ext.rfl' _ | with_reducible assumption | with_reducible refine Ext.al ?_ _ | with_reducible refine Ext.dr ?_ | with_reducible refine Ext.st ?_ (by simp) _ | with_reducible refine Ext.tr ?_ (by assumption)))⟩
    · have e1 : touE l ⟨ax, ay⟩ ⟨bx, by_⟩ = 9 := by unfold touE; rw [if_neg (by rw [h1]; simp), if_neg (by rw [hg]; decide), if_pos (by simp only; omega)]
      have e2 : touV l ⟨ax, ay⟩ ⟨bx, by_⟩ = false := by unfold touV; rw [e1]; rfl
      rw [e1, e2]
      have HG := Lib.hid hg
      clear hg h1 e1 e2
      go_enter Try.func48, Try.ntmps48
      go_wp2_with (first | (go_at_call 42; with_reducible refine Calls.mono (HC.out _ (by (repeat (first | with_reducible exact Ext.rfl' _ | with_reducible assumption | with_reducible refine Ext.al ?_ _ | with_reducible refine Ext.dr ?_ | with_reducible refine Ext.st ?_ (by simp) _ | with_reducible refine Ext.tr ?_ (by assumption))))) ?_; rintro e w1 ⟨rfl, hb⟩; have hc := hb.ccell; have hf := hb.frz; have hs := hb.sz; (try simp at hs); (try have hs0 := hs w.heap.size (by omega)); (try have hs1 := hs (w.heap.size + 1) (by omega)); (try have hs2 := hs (w.heap.size + 1 + 1) (by omega)); (try have hs3 := hs (w.heap.size + 1 + 1 + 1) (by omega))) | (go_at_call 73; refine Calls.mono (inRange2_of _ _ _ _ _ HG.out _ _ _ _ ?_) ?_; (focus simp); rintro e w1 ⟨rfl, hb⟩; have hc := hb.ccell; have hf := hb.frz; have hs := hb.sz; (try simp at hs); (try have hs0 := hs w.heap.size (by omega)); (try have hs1 := hs (w.heap.size + 1) (by omega)); (try have hs2 := hs (w.heap.size + 1 + 1) (by omega)); (try have hs3 := hs (w.heap.size + 1 + 1 + 1) (by omega))))
      go_ret2
      exact ⟨rfl, by (repeat (first | with_reducible exact Ext.rfl' _ | with_reducible assumption | with_reducible refine Ext.al ?_ _ | with_reducible refine Ext.dr ?_ | with_reducible refine Ext.st ?_ (by simp) _ | with_reducible refine Ext.tr ?_ (by assumption)))⟩
  · have e1 : touE l ⟨ax, ay⟩ ⟨bx, by_⟩ = polyE l := by unfold touE; rw [if_pos h1]
    have e2 : touV l ⟨ax, ay⟩ ⟨bx, by_⟩ = false := by unfold touV; rw [e1, if_neg h1]
    rw [e1, e2]
    clear e1 e2
    generalize polyE l = r at HC h1 ⊢
    have h' : (r == 0) = false := by simp [h1]
    go_enter Try.func48, Try.ntmps48
    go_wp2_with (first | (go_at_call 42; with_reducible refine Calls.mono (HC.out _ (by (repeat (first | with_reducible exact Ext.rfl' _ | with_reducible assumption | with_reducible refine Ext.al ?_ _ | with_reducible refine Ext.dr ?_ | with_reducible refine Ext.st ?_ (by simp) _ | with_reducible refine Ext.tr ?_ (by assumption))))) ?_; rintro e w1 ⟨rfl, hb⟩; have hc := hb.ccell; have hf := hb.frz; have hs := hb.sz; (try simp at hs); (try have hs0 := hs w.heap.size (by omega)); (try have hs1 := hs (w.heap.size + 1) (by omega)); (try have hs2 := hs (w.heap.size + 1 + 1) (by omega)); (try have hs3 := hs (w.heap.size + 1 + 1 + 1) (by omega))))
    go_ret2
    exact ⟨rfl, by (repeat (first | with_reducible exact Ext.rfl' _ | with_reducible assumption | with_reducible refine Ext.al ?_ _ | with_reducible refine Ext.dr ?_ | with_reducible refine Ext.st ?_ (by simp) _ | with_reducible refine Ext.tr ?_ (by assumption)))⟩
end Go.Proofs.Ytcdbekmcobghbaa

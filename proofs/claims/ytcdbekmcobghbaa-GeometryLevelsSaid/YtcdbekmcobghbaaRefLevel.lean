/- The contract of the reference's Level: its first region's orders, by the states that they pass. -/
import Derived.Test.YtcdbekmcobghbaaLevel
import Derived.Test.YtcdbekmcobghbaaSeg2
namespace Go.Proofs.Ytcdbekmcobghbaa
open Go Go.RowKit Go.IntWalk

/-- The walk's predicate and the activation under names. -/
theorem wpAnyH_nm {P : Program} {md : Region.Mode} {ops : Array Oper} {Q : Exit → Act → World → Prop} {S : World → Prop} {f : Nat} {l : Array Bool} {a : Act} {w : World} (f' : Nat) (l' : Array Bool) (hf : f = f') (hl : l = l')
    (h : ∀ (H : Nat → Array Bool → Act → World → Prop) (A : Act), H = wpAnyH P md ops Q S → A = a → H f' l' A w) : wpAnyH P md ops Q S f l a w := by subst hf hl; exact h _ _ rfl rfl

/-- A block that was made since W and holds a point of zeros. -/
def Fresh (W w : World) (n : Nat) : Prop := W.heap.size ≤ n ∧ n < w.heap.size ∧ Two w n 0 0 ∧ ∀ j, w.frozen? ⟨n, j, none⟩ = false
theorem Fresh.ext {W w w' : World} {n : Nat} (h : Fresh W w n) (hw : Ext w w') : Fresh W w' n :=
  ⟨h.1, hw.sz _ h.2.1, ⟨(hw.ccell _ 0 h.2.1).trans h.2.2.1.1, (hw.ccell _ 1 h.2.1).trans h.2.2.1.2⟩, fun j => (hw.frz _ j h.2.1).trans (h.2.2.2 j)⟩
theorem Fresh.new {W w : World} (h : Ext W w) (t : TypeId) : Fresh W (w.alloc (.cells #[.int .i64 0, .int .i64 0] t)) w.heap.size :=
  ⟨h.size, by simp, ⟨by simp [World.cell?_alloc_new, go_sem], by simp [World.cell?_alloc_new, go_sem]⟩, fun j => by simp [go_sem]⟩
theorem Fresh.ne {W w : World} {n : Nat} (h : Fresh W w n) : n ≠ w.heap.size := Nat.ne_of_lt h.2.1
theorem Two.far {w : World} {k l : Nat} {a b : Int} (h : Two w k a b) (hne : k ≠ l) (x y : Int) : Two (st2 w l x y) k a b := by
  obtain ⟨h3, h4⟩ := h
  refine ⟨?_, ?_⟩
  · unfold st2; rw [World.cell?_setCell_far _ _ _ _ (by simpa using Ne.symm hne), World.cell?_setCell_far _ _ _ _ (by simpa using Ne.symm hne)]; exact h3
  · unfold st2; rw [World.cell?_setCell_far _ _ _ _ (by simpa using Ne.symm hne), World.cell?_setCell_far _ _ _ _ (by simpa using Ne.symm hne)]; exact h4
theorem Fresh.store {W w : World} {n m : Nat} (h : Fresh W w n) (hne : n ≠ m) (x y : Int) : Fresh W (st2 w m x y) n := by
  obtain ⟨h1, h2, h3, h4⟩ := h
  refine ⟨h1, by rw [st2_size]; exact h2, h3.far hne x y, fun j => by unfold st2; simp [go_sem, h4]⟩

section
variable {ns : List I3} {a b c : Int} {i0 i1 i2 : Nat} {x0 y0 L0 x1 y1 L1 x2 y2 L2 : Int}
set_option maxHeartbeats 4000000 in
theorem rlevel_c (T : Three ns a b c i0 i1 i2 x0 y0 L0 x1 y1 L1 x2 y2 L2) (px py : Int) (hp : good ⟨px, py⟩ = true) (w : World) (A : Option Addr) (cA : Nat) (hA : Row 3 encI w A ns) :
    Calls Try.prog 67 #[.slice A ns.length cA, .agg #[.int .i64 a, .int .i64 b, .int .i64 c], .agg #[.int .i64 px, .int .i64 py]] w
      fun e w' => e = .returned (.agg #[.int .i64 (lowN (levS x0 y0 L0 x1 y1 L1 x2 y2 L2 px py) (crossZ ⟨x0, y0⟩ ⟨x1, y1⟩ ⟨x2, y2⟩)), .int .i64 (lowD (levS x0 y0 L0 x1 y1 L1 x2 y2 L2 px py) (crossZ ⟨x0, y0⟩ ⟨x1, y1⟩ ⟨x2, y2⟩))]) ∧ Ext w w' := by
  obtain ⟨a0, a1, a2, n0, n1, n2, g0, g1, g2, l0, l1, l2, p0, p1, p2, hcr, hlen⟩ := T
  have hi0 := (List.getElem?_eq_some_iff.1 n0).1
  have hi1 := (List.getElem?_eq_some_iff.1 n1).1
  have hi2 := (List.getElem?_eq_some_iff.1 n2).1
  subst a0 a1 a2
  have HP0 := Lib.hid (fun w => place_c x0 y0 L0 w)
  have HP1 := Lib.hid (fun w => place_c x1 y1 L1 w)
  have HP2 := Lib.hid (fun w => place_c x2 y2 L2 w)
  obtain ⟨bl, ol, rfl, hbl, d0⟩ := hA.q3 n0
  obtain ⟨c0, c1, c2⟩ := d0 _ (Ext.rfl' w)
  obtain ⟨c3, c4, c5⟩ := hA.q3' n1 _ (Ext.rfl' w)
  obtain ⟨c6, c7, c8⟩ := hA.q3' n2 _ (Ext.rfl' w)
  have hli : (ns.length : Int) ≤ 64 := by omega
  clear d0 p0 p1 p2
  have cyc : ∀ a b c : Pt, crossZ a b c = crossZ c a b := fun a b c => by unfold crossZ; grind
  have hC := fun w => rcross_c x0 y0 x1 y1 x2 y2 w
  rw [crossW_good g0 g1 g2] at hC
  have hC0 := fun w => rcross_c x1 y1 x2 y2 px py w
  have hC1 := fun w => rcross_c x2 y2 x0 y0 px py w
  have hC2 := fun w => rcross_c x0 y0 x1 y1 px py w
  rw [crossW_good g1 g2 hp, cyc] at hC0
  rw [crossW_good g2 g0 hp, cyc] at hC1
  rw [crossW_good g0 g1 hp, cyc] at hC2
  have b0 := crossZ_bound hp g1 g2
  have b1 := crossZ_bound hp g2 g0
  have b2 := crossZ_bound hp g0 g1
  have b3 := crossZ_bound g0 g1 g2
  have hF := rlow_c (levS x0 y0 L0 x1 y1 L1 x2 y2 L2 px py) (crossZ ⟨x0, y0⟩ ⟨x1, y1⟩ ⟨x2, y2⟩)
  unfold levS at *
  generalize crossZ ⟨x0, y0⟩ ⟨x1, y1⟩ ⟨x2, y2⟩ = D at *
  generalize crossZ ⟨px, py⟩ ⟨x1, y1⟩ ⟨x2, y2⟩ = z0 at *
  generalize crossZ ⟨px, py⟩ ⟨x2, y2⟩ ⟨x0, y0⟩ = z1 at *
  generalize crossZ ⟨px, py⟩ ⟨x0, y0⟩ ⟨x1, y1⟩ = z2 at *
  have m0 := lev_prod l0 b0
  have m1 := lev_prod l1 b1
  have m2 := lev_prod l2 b2
  have hw0 : IntKind.i64.wrap (z0 * L0) = L0 * z0 := by rw [Int.mul_comm]; exact IntWalk.i64_in _ (by omega)
  have hw1 : IntKind.i64.wrap (z1 * L1) = L1 * z1 := by rw [Int.mul_comm]; exact IntWalk.i64_in _ (by omega)
  have hw2 : IntKind.i64.wrap (z2 * L2) = L2 * z2 := by rw [Int.mul_comm]; exact IntWalk.i64_in _ (by omega)
  obtain ⟨M0, q0⟩ : ∃ M, L0 * z0 = M := ⟨_, rfl⟩
  obtain ⟨M1, q1⟩ : ∃ M, L1 * z1 = M := ⟨_, rfl⟩
  obtain ⟨M2, q2⟩ : ∃ M, L2 * z2 = M := ⟨_, rfl⟩
  rw [q0] at m0 hw0
  rw [q1] at m1 hw1
  rw [q2] at m2 hw2
  rw [q0, q1, q2] at hF ⊢
  have hF := fun w => hF w (by omega) (by omega) (by omega) (by omega) hcr
  clear q0 q1 q2
  have hw4 : IntKind.i64.wrap (M0 + M1) = M0 + M1 := IntWalk.i64_in _ (by omega)
  have hw5 : IntKind.i64.wrap (M0 + M1 + M2) = M0 + M1 + M2 := IntWalk.i64_in _ (by omega)
  generalize lowN (M0 + M1 + M2) D = q1 at *
  generalize lowD (M0 + M1 + M2) D = q2 at *
  have HC := Lib.hid hC
  have HC0 := Lib.hid hC0
  have HC1 := Lib.hid hC1
  have HC2 := Lib.hid hC2
  have HF := Lib.hid hF
  have HWR := Lib.hid (And.intro hw0 (And.intro hw1 (And.intro hw2 (And.intro hw4 hw5))))
  clear cyc hC hC0 hC1 hC2 hF hw0 hw1 hw2 hw4 hw5 b0 b1 b2 b3 m0 m1 m2 hp hcr g0 g1 g2
  have hli' := hlen
  clear hlen hli' l0 l1 l2 n0 n1 n2 hA
  go_enter Try.func67, Try.ntmps67
  go_wp2_with fail
  refine wp_name (fun W hW => ?_)
  have hE : Ext w W := by rw [hW]; (repeat (first | with_reducible exact Ext.rfl' _ | with_reducible assumption | with_reducible refine Ext.al ?_ _ | with_reducible refine Ext.dr ?_ | with_reducible refine Ext.st ?_ (by simp) _ | with_reducible refine Ext.tr ?_ (by assumption)))
  have HW := Lib.hid hW
  clear hW
  have kt : W.cell? ⟨w.heap.size, 0, none⟩ = some (.int .i64 (i0 : Nat)) ∧ W.cell? ⟨w.heap.size, 1, none⟩ = some (.int .i64 (i1 : Nat)) ∧ W.cell? ⟨w.heap.size, 2, none⟩ = some (.int .i64 (i2 : Nat)) := by
    rw [HW.out]; refine ⟨?_, ?_, ?_⟩ <;> simp [World.cell?_alloc_past, World.cell?_alloc_new, go_sem]
  have kp : W.cell? ⟨w.heap.size + 1, 0, none⟩ = some (.int .i64 px) ∧ W.cell? ⟨w.heap.size + 1, 1, none⟩ = some (.int .i64 py) := by
    rw [HW.out]; refine ⟨?_, ?_⟩ <;> simp [World.cell?_alloc_past, go_sem]
  have kz : Two W (w.heap.size + 1 + 1) 0 0 := by
    rw [HW.out]; refine ⟨?_, ?_⟩ <;> simp [go_sem]
  have kf : ∀ j, W.frozen? ⟨w.heap.size + 1 + 1, j, none⟩ = false := fun j => by rw [HW.out]; simp [go_sem]
  have hz : w.heap.size + 1 + 1 < W.heap.size := by rw [HW.out]; simp
  have hzt : w.heap.size < W.heap.size := by omega
  have hz0 : bl < W.heap.size := by omega
  obtain ⟨k0, k1, k2⟩ := id kt
  have e0 := (hE.ccell _ _ hbl).trans c0
  have e1 := (hE.ccell _ _ hbl).trans c1
  have e2 := (hE.ccell _ _ hbl).trans c2
  have e3 := (hE.ccell _ _ hbl).trans c3
  have e4 := (hE.ccell _ _ hbl).trans c4
  have e5 := (hE.ccell _ _ hbl).trans c5
  have e6 := (hE.ccell _ _ hbl).trans c6
  have e7 := (hE.ccell _ _ hbl).trans c7
  have e8 := (hE.ccell _ _ hbl).trans c8
  have C := Lib.hid (And.intro c2 (And.intro c5 c8))
  have K := Lib.hid (And.intro kt (And.intro kp (And.intro kz kf)))
  clear c0 c1 c2 c3 c4 c5 c6 c7 c8 HW kt kp kz kf
  go_cut [7, 8, 9] (fun s4 s5 s6 wx => ∃ b0 b1 b2 : Nat, s4 = .pointer (some ⟨b0, 0, none⟩) ∧ s5 = .pointer (some ⟨b1, 0, none⟩) ∧ s6 = .pointer (some ⟨b2, 0, none⟩) ∧ Ext W wx ∧ (b0 < wx.heap.size ∧ b1 < wx.heap.size ∧ b2 < wx.heap.size) ∧
    Two wx b0 x0 y0 ∧ Two wx b1 x1 y1 ∧ Two wx b2 x2 y2)
  case first =>
    rename_i J0 K0 h1 h2
    refine wp_region_held_drew (S := (fun w' => (∀ j : Nat, w'.cell? ⟨bl, j, none⟩ = W.cell? ⟨bl, j, none⟩) ∧ (∀ j : Nat, w'.cell? ⟨w.heap.size, j, none⟩ = W.cell? ⟨w.heap.size, j, none⟩) ∧ Ext W w')) (by kernel_rfl) ?_ (fun hHeld => ?_)
    · exact keep2 (Ext.dr (Ext.rfl' W)) hz0 hzt
    refine wpAnyH_take (i := 0) (v := _) rfl (by kernel_rfl) (by kernel_rfl) (by kernel_rfl) (fun _ _ _ h => h) (Or.inl ⟨by kernel_rfl, by intro w hSw; (try dsimp only at hSw); go_simp; (try with_reducible rfl)⟩) (by assumption) ?_
    (try simp only [Act.put, List.getElem_toArray, List.getElem_cons_zero, List.setIfInBounds_toArray, List.set_cons_zero, List.set_cons_succ])
    refine wpAnyH_take (i := 1) (v := _) rfl (by kernel_rfl) (by kernel_rfl) (by kernel_rfl) (fun _ _ _ h => h) (Or.inl ⟨by kernel_rfl, by intro w hSw; (try dsimp only at hSw); go_simp; (try with_reducible rfl)⟩) (by assumption) ?_
    (try simp only [Act.put, List.getElem_toArray, List.getElem_cons_zero, List.getElem_cons_succ, List.setIfInBounds_toArray, List.set_cons_zero, List.set_cons_succ])
    refine wpAnyH_take (i := 2) (v := _) rfl (by kernel_rfl) (by kernel_rfl) (by kernel_rfl) (fun _ _ _ h => h) (Or.inl ⟨by kernel_rfl, by intro w hSw; (try dsimp only at hSw); go_simp; (try with_reducible rfl)⟩) (by assumption) ?_
    (try simp only [Act.put, List.getElem_toArray, List.getElem_cons_zero, List.getElem_cons_succ, List.setIfInBounds_toArray, List.set_cons_zero, List.set_cons_succ])
    refine wpAnyH_take (i := 3) (v := _) rfl (by kernel_rfl) (by kernel_rfl) (by kernel_rfl) (fun _ _ _ h => h) (Or.inl ⟨by kernel_rfl, by intro w hSw; (try dsimp only at hSw); go_simp; (try with_reducible rfl)⟩) (by assumption) ?_
    (try simp only [Act.put, List.getElem_toArray, List.getElem_cons_zero, List.getElem_cons_succ, List.setIfInBounds_toArray, List.set_cons_zero, List.set_cons_succ])
    refine wpAnyH_take (i := 4) (v := _) rfl (by kernel_rfl) (by kernel_rfl) (by kernel_rfl) (fun _ _ _ h => h) (Or.inl ⟨by kernel_rfl, by intro w hSw; (try dsimp only at hSw); go_simp; (try with_reducible rfl)⟩) (by assumption) ?_
    (try simp only [Act.put, List.getElem_toArray, List.getElem_cons_zero, List.getElem_cons_succ, List.setIfInBounds_toArray, List.set_cons_zero, List.set_cons_succ])
    refine wpAnyH_take (i := 6) (v := _) rfl (by kernel_rfl) (by kernel_rfl) (by kernel_rfl) (fun _ _ _ h => h) (Or.inl ⟨by kernel_rfl, by intro w hSw; (try dsimp only at hSw); go_simp; (try with_reducible rfl)⟩) (by assumption) ?_
    (try simp only [Act.put, List.getElem_toArray, List.getElem_cons_zero, List.getElem_cons_succ, List.setIfInBounds_toArray, List.set_cons_zero, List.set_cons_succ])
    refine wpAnyH_take (i := 7) (v := _) rfl (by kernel_rfl) (by kernel_rfl) (by kernel_rfl) (fun _ _ _ h => h) (Or.inl ⟨by kernel_rfl, by intro w hSw; (try dsimp only at hSw); go_simp; (try with_reducible rfl)⟩) (by assumption) ?_
    (try simp only [Act.put, List.getElem_toArray, List.getElem_cons_zero, List.getElem_cons_succ, List.setIfInBounds_toArray, List.set_cons_zero, List.set_cons_succ])
    refine wpAnyH_take (i := 8) (v := _) rfl (by kernel_rfl) (by kernel_rfl) (by kernel_rfl) (fun _ _ _ h => h) (Or.inl ⟨by kernel_rfl, by intro w hSw; (try dsimp only at hSw); go_simp; (try with_reducible rfl)⟩) (by assumption) ?_
    (try simp only [Act.put, List.getElem_toArray, List.getElem_cons_zero, List.getElem_cons_succ, List.setIfInBounds_toArray, List.set_cons_zero, List.set_cons_succ])
    refine wpAnyH_take (i := 9) (v := _) rfl (by kernel_rfl) (by kernel_rfl) (by kernel_rfl) (fun _ _ _ h => h) (Or.inl ⟨by kernel_rfl, by intro w hSw; (try dsimp only at hSw); go_simp; (try with_reducible rfl)⟩) (by assumption) ?_
    (try simp only [Act.put, List.getElem_toArray, List.getElem_cons_zero, List.getElem_cons_succ, List.setIfInBounds_toArray, List.set_cons_zero, List.set_cons_succ])
    refine wpAnyH_take (i := 10) (v := _) rfl (by kernel_rfl) (by kernel_rfl) (by kernel_rfl) (fun _ _ _ h => h) (Or.inl ⟨by kernel_rfl, by intro w hSw; (try dsimp only at hSw); go_simp; (try with_reducible rfl)⟩) (by assumption) ?_
    (try simp only [Act.put, List.getElem_toArray, List.getElem_cons_zero, List.getElem_cons_succ, List.setIfInBounds_toArray, List.set_cons_zero, List.set_cons_succ])
    refine wpAnyH_take (i := 12) (v := _) rfl (by kernel_rfl) (by kernel_rfl) (by kernel_rfl) (fun _ _ _ h => h) (Or.inl ⟨by kernel_rfl, by intro w hSw; (try dsimp only at hSw); go_simp; (try with_reducible rfl)⟩) (by assumption) ?_
    (try simp only [Act.put, List.getElem_toArray, List.getElem_cons_zero, List.getElem_cons_succ, List.setIfInBounds_toArray, List.set_cons_zero, List.set_cons_succ])
    refine wpAnyH_take (i := 13) (v := _) rfl (by kernel_rfl) (by kernel_rfl) (by kernel_rfl) (fun _ _ _ h => h) (Or.inl ⟨by kernel_rfl, by intro w hSw; (try dsimp only at hSw); go_simp; (try with_reducible rfl)⟩) (by assumption) ?_
    (try simp only [Act.put, List.getElem_toArray, List.getElem_cons_zero, List.getElem_cons_succ, List.setIfInBounds_toArray, List.set_cons_zero, List.set_cons_succ])
    refine wpAnyH_take (i := 14) (v := _) rfl (by kernel_rfl) (by kernel_rfl) (by kernel_rfl) (fun _ _ _ h => h) (Or.inl ⟨by kernel_rfl, by intro w hSw; (try dsimp only at hSw); go_simp; (try with_reducible rfl)⟩) (by assumption) ?_
    (try simp only [Act.put, List.getElem_toArray, List.getElem_cons_zero, List.getElem_cons_succ, List.setIfInBounds_toArray, List.set_cons_zero, List.set_cons_succ])
    refine wpAnyH_take (i := 15) (v := _) rfl (by kernel_rfl) (by kernel_rfl) (by kernel_rfl) (fun _ _ _ h => h) (Or.inl ⟨by kernel_rfl, by intro w hSw; (try dsimp only at hSw); go_simp; (try with_reducible rfl)⟩) (by assumption) ?_
    (try simp only [Act.put, List.getElem_toArray, List.getElem_cons_zero, List.getElem_cons_succ, List.setIfInBounds_toArray, List.set_cons_zero, List.set_cons_succ])
    refine wpAnyH_take (i := 16) (v := _) rfl (by kernel_rfl) (by kernel_rfl) (by kernel_rfl) (fun _ _ _ h => h) (Or.inl ⟨by kernel_rfl, by intro w hSw; (try dsimp only at hSw); go_simp; (try with_reducible rfl)⟩) (by assumption) ?_
    (try simp only [Act.put, List.getElem_toArray, List.getElem_cons_zero, List.getElem_cons_succ, List.setIfInBounds_toArray, List.set_cons_zero, List.set_cons_succ])
    refine wpAnyH_nm 9 #[true, true, true, true, true, false, true, true, true, true, true, false, true, true, true, true, true, false, false, false, false, false, false, false] rfl (by kernel_rfl) (fun H A hH hA => ?_)
    have HH := Lib.hid hH
    have HA := Lib.hid hA
    clear hH hA
    have s3_012 : Hid (∀ (n0 n1 n2 : Nat) (w' : World), Ext W w' → Fresh W w' n0 → Fresh W w' n1 → Fresh W w' n2 → n0 ≠ n1 → n0 ≠ n2 → n1 ≠ n2 → H 3 #[true, true, true, true, true, true, true, true, true, true, true, true, true, true, true, true, true, true, true, true, true, false, false, false] ((((((A.put (some 16) (.agg #[.int .i64 x0, .int .i64 y0])).put (some 22) (.agg #[.int .i64 x1, .int .i64 y1])).put (some 28) (.agg #[.int .i64 x2, .int .i64 y2])).put (some 7) (.pointer (some ⟨n0, 0, none⟩))).put (some 8) (.pointer (some ⟨n1, 0, none⟩))).put (some 9) (.pointer (some ⟨n2, 0, none⟩))) w') := Lib.hid (by
      intro n0 n1 n2 w' hX f0 f1 f2 d01 d02 d12 
      have hHeld := keep2 hX hz0 hzt
      rw [HH.out, HA.out]
      simp only [Act.put, List.setIfInBounds_toArray, List.set_cons_zero, List.set_cons_succ]
      clear HH HA
      obtain ⟨b7, z7, ⟨p7, q7⟩, r7⟩ := f0
      refine wpAnyH_ready (rs := [21]) (by kernel_rfl) (by simp) ?_
      refine AllReadyH.cons (o := _) rfl (fun K hK => ?_) AllReadyH.nil
      go_simp
      skip
      refine hK.out _ _ ?_ (fun hHeld => ?_)
      · (try dsimp only); exact keep2 (Ext.store2 hX b7 x0 y0) hz0 hzt
      clear hK K
      simp only [List.setIfInBounds_toArray, List.set_cons_zero, List.set_cons_succ]
      have hX1 := Ext.store2 hX b7 x0 y0
      have t7 := Two.store ⟨p7, q7⟩ x0 y0
      have g8 := f1.store d01.symm x0 y0
      have g9 := f2.store d02.symm x0 y0
      have z7' : n0 < (st2 w' n0 x0 y0).heap.size := by rw [st2_size]; exact z7
      clear p7 q7 r7 z7 hHeld
      change wpAnyH _ _ _ _ _ _ _ _ (st2 w' n0 x0 y0)
      have hHeld := keep2 hX1 hz0 hzt
      generalize st2 w' n0 x0 y0 = u1 at *
      obtain ⟨b8, z8, ⟨p8, q8⟩, r8⟩ := g8
      refine wpAnyH_ready (rs := [22]) (by kernel_rfl) (by simp) ?_
      refine AllReadyH.cons (o := _) rfl (fun K hK => ?_) AllReadyH.nil
      go_simp
      skip
      refine hK.out _ _ ?_ (fun hHeld => ?_)
      · (try dsimp only); exact keep2 (Ext.store2 hX1 b8 x1 y1) hz0 hzt
      clear hK K
      simp only [List.setIfInBounds_toArray, List.set_cons_zero, List.set_cons_succ]
      have hX2 := Ext.store2 hX1 b8 x1 y1
      have t8 := Two.store ⟨p8, q8⟩ x1 y1
      have t7 := t7.far d01 x1 y1
      have g9 := g9.store d12.symm x1 y1
      have z7 : n0 < (st2 u1 n1 x1 y1).heap.size := by rw [st2_size]; exact z7'
      have z8' : n1 < (st2 u1 n1 x1 y1).heap.size := by rw [st2_size]; exact z8
      clear p8 q8 r8 z8 z7' hHeld
      change wpAnyH _ _ _ _ _ _ _ _ (st2 u1 n1 x1 y1)
      have hHeld := keep2 hX2 hz0 hzt
      generalize st2 u1 n1 x1 y1 = u2 at *
      obtain ⟨b9, z9, ⟨p9, q9⟩, r9⟩ := g9
      refine wpAnyH_ready (rs := [23]) (by kernel_rfl) (by simp) ?_
      refine AllReadyH.cons (o := _) rfl (fun K hK => ?_) AllReadyH.nil
      go_simp
      skip
      refine hK.out _ _ ?_ (fun hHeld => ?_)
      · (try dsimp only); exact keep2 (Ext.store2 hX2 b9 x2 y2) hz0 hzt
      clear hK K
      simp only [List.setIfInBounds_toArray, List.set_cons_zero, List.set_cons_succ]
      have hX3 := Ext.store2 hX2 b9 x2 y2
      have t9 := Two.store ⟨p9, q9⟩ x2 y2
      have t7 := t7.far d02 x2 y2
      have t8 := t8.far d12 x2 y2
      have z7 : n0 < (st2 u2 n2 x2 y2).heap.size := by rw [st2_size]; exact z7
      have z8 : n1 < (st2 u2 n2 x2 y2).heap.size := by rw [st2_size]; exact z8'
      have z9 : n2 < (st2 u2 n2 x2 y2).heap.size := by rw [st2_size]; exact z9
      refine wpAnyH_done (by kernel_rfl) ?_ _
      refine h2 _ _ (Met.intro (h1 _ _ ?_)); (repeat apply Exists.intro); refine ⟨?_, rfl⟩; exact ⟨_, _, _, rfl, rfl, rfl, hX3, ⟨z7, z8, z9⟩, t7, t8, t9⟩)
    have s3_01 : Hid (∀ (n0 n1 : Nat) (w' : World), Ext W w' → Fresh W w' n0 → Fresh W w' n1 → n0 ≠ n1 → H 4 #[true, true, true, true, true, true, true, true, true, true, true, true, true, true, true, true, true, true, true, true, false, false, false, false] (((((A.put (some 16) (.agg #[.int .i64 x0, .int .i64 y0])).put (some 22) (.agg #[.int .i64 x1, .int .i64 y1])).put (some 28) (.agg #[.int .i64 x2, .int .i64 y2])).put (some 7) (.pointer (some ⟨n0, 0, none⟩))).put (some 8) (.pointer (some ⟨n1, 0, none⟩))) w') := Lib.hid (by
      intro n0 n1 w' hX f0 f1 d01 
      have hHeld := keep2 hX hz0 hzt
      rw [HH.out, HA.out]
      (try simp only [Act.put, List.setIfInBounds_toArray, List.set_cons_zero, List.set_cons_succ])
      refine wpAnyH_ready (rs := [20]) (by kernel_rfl) (by simp) ?_
      refine AllReadyH.cons (o := _) rfl (fun K hK => ?_) ?_
      · go_simp
        have hX' := Ext.al hX (.cells #[.int .i64 0, .int .i64 0] 23)
        refine hK.out _ _ (keep2 hX' hz0 hzt) (fun _ => ?_)
        have t := s3_012.out n0 n1 _ _ hX' (f0.ext (Ext.al (Ext.rfl' _) _)) (f1.ext (Ext.al (Ext.rfl' _) _)) (Fresh.new hX _) d01 f0.ne f1.ne 
        rw [HH.out, HA.out] at t
        simp only [Act.put, List.setIfInBounds_toArray, List.set_cons_zero, List.set_cons_succ] at t ⊢
        exact t
      exact AllReadyH.nil)
    have s3_02 : Hid (∀ (n0 n2 : Nat) (w' : World), Ext W w' → Fresh W w' n0 → Fresh W w' n2 → n0 ≠ n2 → H 4 #[true, true, true, true, true, true, true, true, true, true, true, true, true, true, true, true, true, true, true, false, true, false, false, false] (((((A.put (some 16) (.agg #[.int .i64 x0, .int .i64 y0])).put (some 22) (.agg #[.int .i64 x1, .int .i64 y1])).put (some 28) (.agg #[.int .i64 x2, .int .i64 y2])).put (some 7) (.pointer (some ⟨n0, 0, none⟩))).put (some 9) (.pointer (some ⟨n2, 0, none⟩))) w') := Lib.hid (by
      intro n0 n2 w' hX f0 f2 d02 
      have hHeld := keep2 hX hz0 hzt
      rw [HH.out, HA.out]
      (try simp only [Act.put, List.setIfInBounds_toArray, List.set_cons_zero, List.set_cons_succ])
      refine wpAnyH_ready (rs := [19]) (by kernel_rfl) (by simp) ?_
      refine AllReadyH.cons (o := _) rfl (fun K hK => ?_) ?_
      · go_simp
        have hX' := Ext.al hX (.cells #[.int .i64 0, .int .i64 0] 23)
        refine hK.out _ _ (keep2 hX' hz0 hzt) (fun _ => ?_)
        have t := s3_012.out n0 _ n2 _ hX' (f0.ext (Ext.al (Ext.rfl' _) _)) (Fresh.new hX _) (f2.ext (Ext.al (Ext.rfl' _) _)) f0.ne d02 f2.ne.symm 
        rw [HH.out, HA.out] at t
        simp only [Act.put, List.setIfInBounds_toArray, List.set_cons_zero, List.set_cons_succ] at t ⊢
        exact t
      exact AllReadyH.nil)
    have s3_12 : Hid (∀ (n1 n2 : Nat) (w' : World), Ext W w' → Fresh W w' n1 → Fresh W w' n2 → n1 ≠ n2 → H 4 #[true, true, true, true, true, true, true, true, true, true, true, true, true, true, true, true, true, true, false, true, true, false, false, false] (((((A.put (some 16) (.agg #[.int .i64 x0, .int .i64 y0])).put (some 22) (.agg #[.int .i64 x1, .int .i64 y1])).put (some 28) (.agg #[.int .i64 x2, .int .i64 y2])).put (some 8) (.pointer (some ⟨n1, 0, none⟩))).put (some 9) (.pointer (some ⟨n2, 0, none⟩))) w') := Lib.hid (by
      intro n1 n2 w' hX f1 f2 d12 
      have hHeld := keep2 hX hz0 hzt
      rw [HH.out, HA.out]
      (try simp only [Act.put, List.setIfInBounds_toArray, List.set_cons_zero, List.set_cons_succ])
      refine wpAnyH_ready (rs := [18]) (by kernel_rfl) (by simp) ?_
      refine AllReadyH.cons (o := _) rfl (fun K hK => ?_) ?_
      · go_simp
        have hX' := Ext.al hX (.cells #[.int .i64 0, .int .i64 0] 23)
        refine hK.out _ _ (keep2 hX' hz0 hzt) (fun _ => ?_)
        have t := s3_012.out _ n1 n2 _ hX' (Fresh.new hX _) (f1.ext (Ext.al (Ext.rfl' _) _)) (f2.ext (Ext.al (Ext.rfl' _) _)) f1.ne.symm f2.ne.symm d12 
        rw [HH.out, HA.out] at t
        simp only [Act.put, List.setIfInBounds_toArray, List.set_cons_zero, List.set_cons_succ] at t ⊢
        exact t
      exact AllReadyH.nil)
    have s3_0 : Hid (∀ (n0 : Nat) (w' : World), Ext W w' → Fresh W w' n0 → H 5 #[true, true, true, true, true, true, true, true, true, true, true, true, true, true, true, true, true, true, true, false, false, false, false, false] ((((A.put (some 16) (.agg #[.int .i64 x0, .int .i64 y0])).put (some 22) (.agg #[.int .i64 x1, .int .i64 y1])).put (some 28) (.agg #[.int .i64 x2, .int .i64 y2])).put (some 7) (.pointer (some ⟨n0, 0, none⟩))) w') := Lib.hid (by
      intro n0 w' hX f0 
      have hHeld := keep2 hX hz0 hzt
      rw [HH.out, HA.out]
      (try simp only [Act.put, List.setIfInBounds_toArray, List.set_cons_zero, List.set_cons_succ])
      refine wpAnyH_ready (rs := [19, 20]) (by kernel_rfl) (by simp) ?_
      refine AllReadyH.cons (o := _) rfl (fun K hK => ?_) ?_
      · go_simp
        have hX' := Ext.al hX (.cells #[.int .i64 0, .int .i64 0] 23)
        refine hK.out _ _ (keep2 hX' hz0 hzt) (fun _ => ?_)
        have t := s3_01.out n0 _ _ hX' (f0.ext (Ext.al (Ext.rfl' _) _)) (Fresh.new hX _) f0.ne 
        rw [HH.out, HA.out] at t
        simp only [Act.put, List.setIfInBounds_toArray, List.set_cons_zero, List.set_cons_succ] at t ⊢
        exact t
      refine AllReadyH.cons (o := _) rfl (fun K hK => ?_) ?_
      · go_simp
        have hX' := Ext.al hX (.cells #[.int .i64 0, .int .i64 0] 23)
        refine hK.out _ _ (keep2 hX' hz0 hzt) (fun _ => ?_)
        have t := s3_02.out n0 _ _ hX' (f0.ext (Ext.al (Ext.rfl' _) _)) (Fresh.new hX _) f0.ne 
        rw [HH.out, HA.out] at t
        simp only [Act.put, List.setIfInBounds_toArray, List.set_cons_zero, List.set_cons_succ] at t ⊢
        exact t
      exact AllReadyH.nil)
    have s3_1 : Hid (∀ (n1 : Nat) (w' : World), Ext W w' → Fresh W w' n1 → H 5 #[true, true, true, true, true, true, true, true, true, true, true, true, true, true, true, true, true, true, false, true, false, false, false, false] ((((A.put (some 16) (.agg #[.int .i64 x0, .int .i64 y0])).put (some 22) (.agg #[.int .i64 x1, .int .i64 y1])).put (some 28) (.agg #[.int .i64 x2, .int .i64 y2])).put (some 8) (.pointer (some ⟨n1, 0, none⟩))) w') := Lib.hid (by
      intro n1 w' hX f1 
      have hHeld := keep2 hX hz0 hzt
      rw [HH.out, HA.out]
      (try simp only [Act.put, List.setIfInBounds_toArray, List.set_cons_zero, List.set_cons_succ])
      refine wpAnyH_ready (rs := [18, 20]) (by kernel_rfl) (by simp) ?_
      refine AllReadyH.cons (o := _) rfl (fun K hK => ?_) ?_
      · go_simp
        have hX' := Ext.al hX (.cells #[.int .i64 0, .int .i64 0] 23)
        refine hK.out _ _ (keep2 hX' hz0 hzt) (fun _ => ?_)
        have t := s3_01.out _ n1 _ hX' (Fresh.new hX _) (f1.ext (Ext.al (Ext.rfl' _) _)) f1.ne.symm 
        rw [HH.out, HA.out] at t
        simp only [Act.put, List.setIfInBounds_toArray, List.set_cons_zero, List.set_cons_succ] at t ⊢
        exact t
      refine AllReadyH.cons (o := _) rfl (fun K hK => ?_) ?_
      · go_simp
        have hX' := Ext.al hX (.cells #[.int .i64 0, .int .i64 0] 23)
        refine hK.out _ _ (keep2 hX' hz0 hzt) (fun _ => ?_)
        have t := s3_12.out n1 _ _ hX' (f1.ext (Ext.al (Ext.rfl' _) _)) (Fresh.new hX _) f1.ne 
        rw [HH.out, HA.out] at t
        simp only [Act.put, List.setIfInBounds_toArray, List.set_cons_zero, List.set_cons_succ] at t ⊢
        exact t
      exact AllReadyH.nil)
    have s3_2 : Hid (∀ (n2 : Nat) (w' : World), Ext W w' → Fresh W w' n2 → H 5 #[true, true, true, true, true, true, true, true, true, true, true, true, true, true, true, true, true, true, false, false, true, false, false, false] ((((A.put (some 16) (.agg #[.int .i64 x0, .int .i64 y0])).put (some 22) (.agg #[.int .i64 x1, .int .i64 y1])).put (some 28) (.agg #[.int .i64 x2, .int .i64 y2])).put (some 9) (.pointer (some ⟨n2, 0, none⟩))) w') := Lib.hid (by
      intro n2 w' hX f2 
      have hHeld := keep2 hX hz0 hzt
      rw [HH.out, HA.out]
      (try simp only [Act.put, List.setIfInBounds_toArray, List.set_cons_zero, List.set_cons_succ])
      refine wpAnyH_ready (rs := [18, 19]) (by kernel_rfl) (by simp) ?_
      refine AllReadyH.cons (o := _) rfl (fun K hK => ?_) ?_
      · go_simp
        have hX' := Ext.al hX (.cells #[.int .i64 0, .int .i64 0] 23)
        refine hK.out _ _ (keep2 hX' hz0 hzt) (fun _ => ?_)
        have t := s3_02.out _ n2 _ hX' (Fresh.new hX _) (f2.ext (Ext.al (Ext.rfl' _) _)) f2.ne.symm 
        rw [HH.out, HA.out] at t
        simp only [Act.put, List.setIfInBounds_toArray, List.set_cons_zero, List.set_cons_succ] at t ⊢
        exact t
      refine AllReadyH.cons (o := _) rfl (fun K hK => ?_) ?_
      · go_simp
        have hX' := Ext.al hX (.cells #[.int .i64 0, .int .i64 0] 23)
        refine hK.out _ _ (keep2 hX' hz0 hzt) (fun _ => ?_)
        have t := s3_12.out _ n2 _ hX' (Fresh.new hX _) (f2.ext (Ext.al (Ext.rfl' _) _)) f2.ne.symm 
        rw [HH.out, HA.out] at t
        simp only [Act.put, List.setIfInBounds_toArray, List.set_cons_zero, List.set_cons_succ] at t ⊢
        exact t
      exact AllReadyH.nil)
    have s3_ : Hid (∀ (w' : World), Ext W w' → H 6 #[true, true, true, true, true, true, true, true, true, true, true, true, true, true, true, true, true, true, false, false, false, false, false, false] (((A.put (some 16) (.agg #[.int .i64 x0, .int .i64 y0])).put (some 22) (.agg #[.int .i64 x1, .int .i64 y1])).put (some 28) (.agg #[.int .i64 x2, .int .i64 y2])) w') := Lib.hid (by
      intro  w' hX  
      have hHeld := keep2 hX hz0 hzt
      rw [HH.out, HA.out]
      (try simp only [Act.put, List.setIfInBounds_toArray, List.set_cons_zero, List.set_cons_succ])
      refine wpAnyH_ready (rs := [18, 19, 20]) (by kernel_rfl) (by simp) ?_
      refine AllReadyH.cons (o := _) rfl (fun K hK => ?_) ?_
      · go_simp
        have hX' := Ext.al hX (.cells #[.int .i64 0, .int .i64 0] 23)
        refine hK.out _ _ (keep2 hX' hz0 hzt) (fun _ => ?_)
        have t := s3_0.out _ _ hX' (Fresh.new hX _) 
        rw [HH.out, HA.out] at t
        simp only [Act.put, List.setIfInBounds_toArray, List.set_cons_zero, List.set_cons_succ] at t ⊢
        exact t
      refine AllReadyH.cons (o := _) rfl (fun K hK => ?_) ?_
      · go_simp
        have hX' := Ext.al hX (.cells #[.int .i64 0, .int .i64 0] 23)
        refine hK.out _ _ (keep2 hX' hz0 hzt) (fun _ => ?_)
        have t := s3_1.out _ _ hX' (Fresh.new hX _) 
        rw [HH.out, HA.out] at t
        simp only [Act.put, List.setIfInBounds_toArray, List.set_cons_zero, List.set_cons_succ] at t ⊢
        exact t
      refine AllReadyH.cons (o := _) rfl (fun K hK => ?_) ?_
      · go_simp
        have hX' := Ext.al hX (.cells #[.int .i64 0, .int .i64 0] 23)
        refine hK.out _ _ (keep2 hX' hz0 hzt) (fun _ => ?_)
        have t := s3_2.out _ _ hX' (Fresh.new hX _) 
        rw [HH.out, HA.out] at t
        simp only [Act.put, List.setIfInBounds_toArray, List.set_cons_zero, List.set_cons_succ] at t ⊢
        exact t
      exact AllReadyH.nil)
    have s2_012 : Hid (∀ (n0 n1 n2 : Nat) (w' : World), Ext W w' → Fresh W w' n0 → Fresh W w' n1 → Fresh W w' n2 → n0 ≠ n1 → n0 ≠ n2 → n1 ≠ n2 → H 4 #[true, true, true, true, true, true, true, true, true, true, true, true, true, true, true, true, true, false, true, true, true, false, false, false] (((((A.put (some 16) (.agg #[.int .i64 x0, .int .i64 y0])).put (some 22) (.agg #[.int .i64 x1, .int .i64 y1])).put (some 7) (.pointer (some ⟨n0, 0, none⟩))).put (some 8) (.pointer (some ⟨n1, 0, none⟩))).put (some 9) (.pointer (some ⟨n2, 0, none⟩))) w') := Lib.hid (by
      intro n0 n1 n2 w' hX f0 f1 f2 d01 d02 d12 
      have hHeld := keep2 hX hz0 hzt
      rw [HH.out, HA.out]
      (try simp only [Act.put, List.setIfInBounds_toArray, List.set_cons_zero, List.set_cons_succ])
      refine wpAnyH_ready (rs := [17]) (by kernel_rfl) (by simp) ?_
      refine AllReadyH.cons (o := _) rfl (fun K hK => ?_) ?_
      · go_simp
        (go_at_call 109; refine Calls.mono (HP2.out _) ?_; rintro e w1 ⟨rfl, hb⟩)
        have hX' := hX.tr hb
        refine hK.out _ _ (keep2 hX' hz0 hzt) (fun _ => ?_)
        have t := s3_012.out n0 n1 n2 _ hX' (f0.ext hb) (f1.ext hb) (f2.ext hb) d01 d02 d12 
        rw [HH.out, HA.out] at t
        simp only [Act.put, List.setIfInBounds_toArray, List.set_cons_zero, List.set_cons_succ] at t ⊢
        exact t
      exact AllReadyH.nil)
    have s2_01 : Hid (∀ (n0 n1 : Nat) (w' : World), Ext W w' → Fresh W w' n0 → Fresh W w' n1 → n0 ≠ n1 → H 5 #[true, true, true, true, true, true, true, true, true, true, true, true, true, true, true, true, true, false, true, true, false, false, false, false] ((((A.put (some 16) (.agg #[.int .i64 x0, .int .i64 y0])).put (some 22) (.agg #[.int .i64 x1, .int .i64 y1])).put (some 7) (.pointer (some ⟨n0, 0, none⟩))).put (some 8) (.pointer (some ⟨n1, 0, none⟩))) w') := Lib.hid (by
      intro n0 n1 w' hX f0 f1 d01 
      have hHeld := keep2 hX hz0 hzt
      rw [HH.out, HA.out]
      (try simp only [Act.put, List.setIfInBounds_toArray, List.set_cons_zero, List.set_cons_succ])
      refine wpAnyH_ready (rs := [17, 20]) (by kernel_rfl) (by simp) ?_
      refine AllReadyH.cons (o := _) rfl (fun K hK => ?_) ?_
      · go_simp
        (go_at_call 109; refine Calls.mono (HP2.out _) ?_; rintro e w1 ⟨rfl, hb⟩)
        have hX' := hX.tr hb
        refine hK.out _ _ (keep2 hX' hz0 hzt) (fun _ => ?_)
        have t := s3_01.out n0 n1 _ hX' (f0.ext hb) (f1.ext hb) d01 
        rw [HH.out, HA.out] at t
        simp only [Act.put, List.setIfInBounds_toArray, List.set_cons_zero, List.set_cons_succ] at t ⊢
        exact t
      refine AllReadyH.cons (o := _) rfl (fun K hK => ?_) ?_
      · go_simp
        have hX' := Ext.al hX (.cells #[.int .i64 0, .int .i64 0] 23)
        refine hK.out _ _ (keep2 hX' hz0 hzt) (fun _ => ?_)
        have t := s2_012.out n0 n1 _ _ hX' (f0.ext (Ext.al (Ext.rfl' _) _)) (f1.ext (Ext.al (Ext.rfl' _) _)) (Fresh.new hX _) d01 f0.ne f1.ne 
        rw [HH.out, HA.out] at t
        simp only [Act.put, List.setIfInBounds_toArray, List.set_cons_zero, List.set_cons_succ] at t ⊢
        exact t
      exact AllReadyH.nil)
    have s2_02 : Hid (∀ (n0 n2 : Nat) (w' : World), Ext W w' → Fresh W w' n0 → Fresh W w' n2 → n0 ≠ n2 → H 5 #[true, true, true, true, true, true, true, true, true, true, true, true, true, true, true, true, true, false, true, false, true, false, false, false] ((((A.put (some 16) (.agg #[.int .i64 x0, .int .i64 y0])).put (some 22) (.agg #[.int .i64 x1, .int .i64 y1])).put (some 7) (.pointer (some ⟨n0, 0, none⟩))).put (some 9) (.pointer (some ⟨n2, 0, none⟩))) w') := Lib.hid (by
      intro n0 n2 w' hX f0 f2 d02 
      have hHeld := keep2 hX hz0 hzt
      rw [HH.out, HA.out]
      (try simp only [Act.put, List.setIfInBounds_toArray, List.set_cons_zero, List.set_cons_succ])
      refine wpAnyH_ready (rs := [17, 19]) (by kernel_rfl) (by simp) ?_
      refine AllReadyH.cons (o := _) rfl (fun K hK => ?_) ?_
      · go_simp
        (go_at_call 109; refine Calls.mono (HP2.out _) ?_; rintro e w1 ⟨rfl, hb⟩)
        have hX' := hX.tr hb
        refine hK.out _ _ (keep2 hX' hz0 hzt) (fun _ => ?_)
        have t := s3_02.out n0 n2 _ hX' (f0.ext hb) (f2.ext hb) d02 
        rw [HH.out, HA.out] at t
        simp only [Act.put, List.setIfInBounds_toArray, List.set_cons_zero, List.set_cons_succ] at t ⊢
        exact t
      refine AllReadyH.cons (o := _) rfl (fun K hK => ?_) ?_
      · go_simp
        have hX' := Ext.al hX (.cells #[.int .i64 0, .int .i64 0] 23)
        refine hK.out _ _ (keep2 hX' hz0 hzt) (fun _ => ?_)
        have t := s2_012.out n0 _ n2 _ hX' (f0.ext (Ext.al (Ext.rfl' _) _)) (Fresh.new hX _) (f2.ext (Ext.al (Ext.rfl' _) _)) f0.ne d02 f2.ne.symm 
        rw [HH.out, HA.out] at t
        simp only [Act.put, List.setIfInBounds_toArray, List.set_cons_zero, List.set_cons_succ] at t ⊢
        exact t
      exact AllReadyH.nil)
    have s2_12 : Hid (∀ (n1 n2 : Nat) (w' : World), Ext W w' → Fresh W w' n1 → Fresh W w' n2 → n1 ≠ n2 → H 5 #[true, true, true, true, true, true, true, true, true, true, true, true, true, true, true, true, true, false, false, true, true, false, false, false] ((((A.put (some 16) (.agg #[.int .i64 x0, .int .i64 y0])).put (some 22) (.agg #[.int .i64 x1, .int .i64 y1])).put (some 8) (.pointer (some ⟨n1, 0, none⟩))).put (some 9) (.pointer (some ⟨n2, 0, none⟩))) w') := Lib.hid (by
      intro n1 n2 w' hX f1 f2 d12 
      have hHeld := keep2 hX hz0 hzt
      rw [HH.out, HA.out]
      (try simp only [Act.put, List.setIfInBounds_toArray, List.set_cons_zero, List.set_cons_succ])
      refine wpAnyH_ready (rs := [17, 18]) (by kernel_rfl) (by simp) ?_
      refine AllReadyH.cons (o := _) rfl (fun K hK => ?_) ?_
      · go_simp
        (go_at_call 109; refine Calls.mono (HP2.out _) ?_; rintro e w1 ⟨rfl, hb⟩)
        have hX' := hX.tr hb
        refine hK.out _ _ (keep2 hX' hz0 hzt) (fun _ => ?_)
        have t := s3_12.out n1 n2 _ hX' (f1.ext hb) (f2.ext hb) d12 
        rw [HH.out, HA.out] at t
        simp only [Act.put, List.setIfInBounds_toArray, List.set_cons_zero, List.set_cons_succ] at t ⊢
        exact t
      refine AllReadyH.cons (o := _) rfl (fun K hK => ?_) ?_
      · go_simp
        have hX' := Ext.al hX (.cells #[.int .i64 0, .int .i64 0] 23)
        refine hK.out _ _ (keep2 hX' hz0 hzt) (fun _ => ?_)
        have t := s2_012.out _ n1 n2 _ hX' (Fresh.new hX _) (f1.ext (Ext.al (Ext.rfl' _) _)) (f2.ext (Ext.al (Ext.rfl' _) _)) f1.ne.symm f2.ne.symm d12 
        rw [HH.out, HA.out] at t
        simp only [Act.put, List.setIfInBounds_toArray, List.set_cons_zero, List.set_cons_succ] at t ⊢
        exact t
      exact AllReadyH.nil)
    have s2_0 : Hid (∀ (n0 : Nat) (w' : World), Ext W w' → Fresh W w' n0 → H 6 #[true, true, true, true, true, true, true, true, true, true, true, true, true, true, true, true, true, false, true, false, false, false, false, false] (((A.put (some 16) (.agg #[.int .i64 x0, .int .i64 y0])).put (some 22) (.agg #[.int .i64 x1, .int .i64 y1])).put (some 7) (.pointer (some ⟨n0, 0, none⟩))) w') := Lib.hid (by
      intro n0 w' hX f0 
      have hHeld := keep2 hX hz0 hzt
      rw [HH.out, HA.out]
      (try simp only [Act.put, List.setIfInBounds_toArray, List.set_cons_zero, List.set_cons_succ])
      refine wpAnyH_ready (rs := [17, 19, 20]) (by kernel_rfl) (by simp) ?_
      refine AllReadyH.cons (o := _) rfl (fun K hK => ?_) ?_
      · go_simp
        (go_at_call 109; refine Calls.mono (HP2.out _) ?_; rintro e w1 ⟨rfl, hb⟩)
        have hX' := hX.tr hb
        refine hK.out _ _ (keep2 hX' hz0 hzt) (fun _ => ?_)
        have t := s3_0.out n0 _ hX' (f0.ext hb) 
        rw [HH.out, HA.out] at t
        simp only [Act.put, List.setIfInBounds_toArray, List.set_cons_zero, List.set_cons_succ] at t ⊢
        exact t
      refine AllReadyH.cons (o := _) rfl (fun K hK => ?_) ?_
      · go_simp
        have hX' := Ext.al hX (.cells #[.int .i64 0, .int .i64 0] 23)
        refine hK.out _ _ (keep2 hX' hz0 hzt) (fun _ => ?_)
        have t := s2_01.out n0 _ _ hX' (f0.ext (Ext.al (Ext.rfl' _) _)) (Fresh.new hX _) f0.ne 
        rw [HH.out, HA.out] at t
        simp only [Act.put, List.setIfInBounds_toArray, List.set_cons_zero, List.set_cons_succ] at t ⊢
        exact t
      refine AllReadyH.cons (o := _) rfl (fun K hK => ?_) ?_
      · go_simp
        have hX' := Ext.al hX (.cells #[.int .i64 0, .int .i64 0] 23)
        refine hK.out _ _ (keep2 hX' hz0 hzt) (fun _ => ?_)
        have t := s2_02.out n0 _ _ hX' (f0.ext (Ext.al (Ext.rfl' _) _)) (Fresh.new hX _) f0.ne 
        rw [HH.out, HA.out] at t
        simp only [Act.put, List.setIfInBounds_toArray, List.set_cons_zero, List.set_cons_succ] at t ⊢
        exact t
      exact AllReadyH.nil)
    have s2_1 : Hid (∀ (n1 : Nat) (w' : World), Ext W w' → Fresh W w' n1 → H 6 #[true, true, true, true, true, true, true, true, true, true, true, true, true, true, true, true, true, false, false, true, false, false, false, false] (((A.put (some 16) (.agg #[.int .i64 x0, .int .i64 y0])).put (some 22) (.agg #[.int .i64 x1, .int .i64 y1])).put (some 8) (.pointer (some ⟨n1, 0, none⟩))) w') := Lib.hid (by
      intro n1 w' hX f1 
      have hHeld := keep2 hX hz0 hzt
      rw [HH.out, HA.out]
      (try simp only [Act.put, List.setIfInBounds_toArray, List.set_cons_zero, List.set_cons_succ])
      refine wpAnyH_ready (rs := [17, 18, 20]) (by kernel_rfl) (by simp) ?_
      refine AllReadyH.cons (o := _) rfl (fun K hK => ?_) ?_
      · go_simp
        (go_at_call 109; refine Calls.mono (HP2.out _) ?_; rintro e w1 ⟨rfl, hb⟩)
        have hX' := hX.tr hb
        refine hK.out _ _ (keep2 hX' hz0 hzt) (fun _ => ?_)
        have t := s3_1.out n1 _ hX' (f1.ext hb) 
        rw [HH.out, HA.out] at t
        simp only [Act.put, List.setIfInBounds_toArray, List.set_cons_zero, List.set_cons_succ] at t ⊢
        exact t
      refine AllReadyH.cons (o := _) rfl (fun K hK => ?_) ?_
      · go_simp
        have hX' := Ext.al hX (.cells #[.int .i64 0, .int .i64 0] 23)
        refine hK.out _ _ (keep2 hX' hz0 hzt) (fun _ => ?_)
        have t := s2_01.out _ n1 _ hX' (Fresh.new hX _) (f1.ext (Ext.al (Ext.rfl' _) _)) f1.ne.symm 
        rw [HH.out, HA.out] at t
        simp only [Act.put, List.setIfInBounds_toArray, List.set_cons_zero, List.set_cons_succ] at t ⊢
        exact t
      refine AllReadyH.cons (o := _) rfl (fun K hK => ?_) ?_
      · go_simp
        have hX' := Ext.al hX (.cells #[.int .i64 0, .int .i64 0] 23)
        refine hK.out _ _ (keep2 hX' hz0 hzt) (fun _ => ?_)
        have t := s2_12.out n1 _ _ hX' (f1.ext (Ext.al (Ext.rfl' _) _)) (Fresh.new hX _) f1.ne 
        rw [HH.out, HA.out] at t
        simp only [Act.put, List.setIfInBounds_toArray, List.set_cons_zero, List.set_cons_succ] at t ⊢
        exact t
      exact AllReadyH.nil)
    have s2_2 : Hid (∀ (n2 : Nat) (w' : World), Ext W w' → Fresh W w' n2 → H 6 #[true, true, true, true, true, true, true, true, true, true, true, true, true, true, true, true, true, false, false, false, true, false, false, false] (((A.put (some 16) (.agg #[.int .i64 x0, .int .i64 y0])).put (some 22) (.agg #[.int .i64 x1, .int .i64 y1])).put (some 9) (.pointer (some ⟨n2, 0, none⟩))) w') := Lib.hid (by
      intro n2 w' hX f2 
      have hHeld := keep2 hX hz0 hzt
      rw [HH.out, HA.out]
      (try simp only [Act.put, List.setIfInBounds_toArray, List.set_cons_zero, List.set_cons_succ])
      refine wpAnyH_ready (rs := [17, 18, 19]) (by kernel_rfl) (by simp) ?_
      refine AllReadyH.cons (o := _) rfl (fun K hK => ?_) ?_
      · go_simp
        (go_at_call 109; refine Calls.mono (HP2.out _) ?_; rintro e w1 ⟨rfl, hb⟩)
        have hX' := hX.tr hb
        refine hK.out _ _ (keep2 hX' hz0 hzt) (fun _ => ?_)
        have t := s3_2.out n2 _ hX' (f2.ext hb) 
        rw [HH.out, HA.out] at t
        simp only [Act.put, List.setIfInBounds_toArray, List.set_cons_zero, List.set_cons_succ] at t ⊢
        exact t
      refine AllReadyH.cons (o := _) rfl (fun K hK => ?_) ?_
      · go_simp
        have hX' := Ext.al hX (.cells #[.int .i64 0, .int .i64 0] 23)
        refine hK.out _ _ (keep2 hX' hz0 hzt) (fun _ => ?_)
        have t := s2_02.out _ n2 _ hX' (Fresh.new hX _) (f2.ext (Ext.al (Ext.rfl' _) _)) f2.ne.symm 
        rw [HH.out, HA.out] at t
        simp only [Act.put, List.setIfInBounds_toArray, List.set_cons_zero, List.set_cons_succ] at t ⊢
        exact t
      refine AllReadyH.cons (o := _) rfl (fun K hK => ?_) ?_
      · go_simp
        have hX' := Ext.al hX (.cells #[.int .i64 0, .int .i64 0] 23)
        refine hK.out _ _ (keep2 hX' hz0 hzt) (fun _ => ?_)
        have t := s2_12.out _ n2 _ hX' (Fresh.new hX _) (f2.ext (Ext.al (Ext.rfl' _) _)) f2.ne.symm 
        rw [HH.out, HA.out] at t
        simp only [Act.put, List.setIfInBounds_toArray, List.set_cons_zero, List.set_cons_succ] at t ⊢
        exact t
      exact AllReadyH.nil)
    have s2_ : Hid (∀ (w' : World), Ext W w' → H 7 #[true, true, true, true, true, true, true, true, true, true, true, true, true, true, true, true, true, false, false, false, false, false, false, false] ((A.put (some 16) (.agg #[.int .i64 x0, .int .i64 y0])).put (some 22) (.agg #[.int .i64 x1, .int .i64 y1])) w') := Lib.hid (by
      intro  w' hX  
      have hHeld := keep2 hX hz0 hzt
      rw [HH.out, HA.out]
      (try simp only [Act.put, List.setIfInBounds_toArray, List.set_cons_zero, List.set_cons_succ])
      refine wpAnyH_ready (rs := [17, 18, 19, 20]) (by kernel_rfl) (by simp) ?_
      refine AllReadyH.cons (o := _) rfl (fun K hK => ?_) ?_
      · go_simp
        (go_at_call 109; refine Calls.mono (HP2.out _) ?_; rintro e w1 ⟨rfl, hb⟩)
        have hX' := hX.tr hb
        refine hK.out _ _ (keep2 hX' hz0 hzt) (fun _ => ?_)
        have t := s3_.out  _ hX' 
        rw [HH.out, HA.out] at t
        simp only [Act.put, List.setIfInBounds_toArray, List.set_cons_zero, List.set_cons_succ] at t ⊢
        exact t
      refine AllReadyH.cons (o := _) rfl (fun K hK => ?_) ?_
      · go_simp
        have hX' := Ext.al hX (.cells #[.int .i64 0, .int .i64 0] 23)
        refine hK.out _ _ (keep2 hX' hz0 hzt) (fun _ => ?_)
        have t := s2_0.out _ _ hX' (Fresh.new hX _) 
        rw [HH.out, HA.out] at t
        simp only [Act.put, List.setIfInBounds_toArray, List.set_cons_zero, List.set_cons_succ] at t ⊢
        exact t
      refine AllReadyH.cons (o := _) rfl (fun K hK => ?_) ?_
      · go_simp
        have hX' := Ext.al hX (.cells #[.int .i64 0, .int .i64 0] 23)
        refine hK.out _ _ (keep2 hX' hz0 hzt) (fun _ => ?_)
        have t := s2_1.out _ _ hX' (Fresh.new hX _) 
        rw [HH.out, HA.out] at t
        simp only [Act.put, List.setIfInBounds_toArray, List.set_cons_zero, List.set_cons_succ] at t ⊢
        exact t
      refine AllReadyH.cons (o := _) rfl (fun K hK => ?_) ?_
      · go_simp
        have hX' := Ext.al hX (.cells #[.int .i64 0, .int .i64 0] 23)
        refine hK.out _ _ (keep2 hX' hz0 hzt) (fun _ => ?_)
        have t := s2_2.out _ _ hX' (Fresh.new hX _) 
        rw [HH.out, HA.out] at t
        simp only [Act.put, List.setIfInBounds_toArray, List.set_cons_zero, List.set_cons_succ] at t ⊢
        exact t
      exact AllReadyH.nil)
    have s1_012 : Hid (∀ (n0 n1 n2 : Nat) (w' : World), Ext W w' → Fresh W w' n0 → Fresh W w' n1 → Fresh W w' n2 → n0 ≠ n1 → n0 ≠ n2 → n1 ≠ n2 → H 5 #[true, true, true, true, true, true, true, true, true, true, true, false, true, true, true, true, true, false, true, true, true, false, false, false] ((((A.put (some 16) (.agg #[.int .i64 x0, .int .i64 y0])).put (some 7) (.pointer (some ⟨n0, 0, none⟩))).put (some 8) (.pointer (some ⟨n1, 0, none⟩))).put (some 9) (.pointer (some ⟨n2, 0, none⟩))) w') := Lib.hid (by
      intro n0 n1 n2 w' hX f0 f1 f2 d01 d02 d12 
      have hHeld := keep2 hX hz0 hzt
      rw [HH.out, HA.out]
      (try simp only [Act.put, List.setIfInBounds_toArray, List.set_cons_zero, List.set_cons_succ])
      refine wpAnyH_ready (rs := [11]) (by kernel_rfl) (by simp) ?_
      refine AllReadyH.cons (o := _) rfl (fun K hK => ?_) ?_
      · go_simp
        (go_at_call 109; refine Calls.mono (HP1.out _) ?_; rintro e w1 ⟨rfl, hb⟩)
        have hX' := hX.tr hb
        refine hK.out _ _ (keep2 hX' hz0 hzt) (fun _ => ?_)
        have t := s2_012.out n0 n1 n2 _ hX' (f0.ext hb) (f1.ext hb) (f2.ext hb) d01 d02 d12 
        rw [HH.out, HA.out] at t
        simp only [Act.put, List.setIfInBounds_toArray, List.set_cons_zero, List.set_cons_succ] at t ⊢
        exact t
      exact AllReadyH.nil)
    have s1_01 : Hid (∀ (n0 n1 : Nat) (w' : World), Ext W w' → Fresh W w' n0 → Fresh W w' n1 → n0 ≠ n1 → H 6 #[true, true, true, true, true, true, true, true, true, true, true, false, true, true, true, true, true, false, true, true, false, false, false, false] (((A.put (some 16) (.agg #[.int .i64 x0, .int .i64 y0])).put (some 7) (.pointer (some ⟨n0, 0, none⟩))).put (some 8) (.pointer (some ⟨n1, 0, none⟩))) w') := Lib.hid (by
      intro n0 n1 w' hX f0 f1 d01 
      have hHeld := keep2 hX hz0 hzt
      rw [HH.out, HA.out]
      (try simp only [Act.put, List.setIfInBounds_toArray, List.set_cons_zero, List.set_cons_succ])
      refine wpAnyH_ready (rs := [11, 20]) (by kernel_rfl) (by simp) ?_
      refine AllReadyH.cons (o := _) rfl (fun K hK => ?_) ?_
      · go_simp
        (go_at_call 109; refine Calls.mono (HP1.out _) ?_; rintro e w1 ⟨rfl, hb⟩)
        have hX' := hX.tr hb
        refine hK.out _ _ (keep2 hX' hz0 hzt) (fun _ => ?_)
        have t := s2_01.out n0 n1 _ hX' (f0.ext hb) (f1.ext hb) d01 
        rw [HH.out, HA.out] at t
        simp only [Act.put, List.setIfInBounds_toArray, List.set_cons_zero, List.set_cons_succ] at t ⊢
        exact t
      refine AllReadyH.cons (o := _) rfl (fun K hK => ?_) ?_
      · go_simp
        have hX' := Ext.al hX (.cells #[.int .i64 0, .int .i64 0] 23)
        refine hK.out _ _ (keep2 hX' hz0 hzt) (fun _ => ?_)
        have t := s1_012.out n0 n1 _ _ hX' (f0.ext (Ext.al (Ext.rfl' _) _)) (f1.ext (Ext.al (Ext.rfl' _) _)) (Fresh.new hX _) d01 f0.ne f1.ne 
        rw [HH.out, HA.out] at t
        simp only [Act.put, List.setIfInBounds_toArray, List.set_cons_zero, List.set_cons_succ] at t ⊢
        exact t
      exact AllReadyH.nil)
    have s1_02 : Hid (∀ (n0 n2 : Nat) (w' : World), Ext W w' → Fresh W w' n0 → Fresh W w' n2 → n0 ≠ n2 → H 6 #[true, true, true, true, true, true, true, true, true, true, true, false, true, true, true, true, true, false, true, false, true, false, false, false] (((A.put (some 16) (.agg #[.int .i64 x0, .int .i64 y0])).put (some 7) (.pointer (some ⟨n0, 0, none⟩))).put (some 9) (.pointer (some ⟨n2, 0, none⟩))) w') := Lib.hid (by
      intro n0 n2 w' hX f0 f2 d02 
      have hHeld := keep2 hX hz0 hzt
      rw [HH.out, HA.out]
      (try simp only [Act.put, List.setIfInBounds_toArray, List.set_cons_zero, List.set_cons_succ])
      refine wpAnyH_ready (rs := [11, 19]) (by kernel_rfl) (by simp) ?_
      refine AllReadyH.cons (o := _) rfl (fun K hK => ?_) ?_
      · go_simp
        (go_at_call 109; refine Calls.mono (HP1.out _) ?_; rintro e w1 ⟨rfl, hb⟩)
        have hX' := hX.tr hb
        refine hK.out _ _ (keep2 hX' hz0 hzt) (fun _ => ?_)
        have t := s2_02.out n0 n2 _ hX' (f0.ext hb) (f2.ext hb) d02 
        rw [HH.out, HA.out] at t
        simp only [Act.put, List.setIfInBounds_toArray, List.set_cons_zero, List.set_cons_succ] at t ⊢
        exact t
      refine AllReadyH.cons (o := _) rfl (fun K hK => ?_) ?_
      · go_simp
        have hX' := Ext.al hX (.cells #[.int .i64 0, .int .i64 0] 23)
        refine hK.out _ _ (keep2 hX' hz0 hzt) (fun _ => ?_)
        have t := s1_012.out n0 _ n2 _ hX' (f0.ext (Ext.al (Ext.rfl' _) _)) (Fresh.new hX _) (f2.ext (Ext.al (Ext.rfl' _) _)) f0.ne d02 f2.ne.symm 
        rw [HH.out, HA.out] at t
        simp only [Act.put, List.setIfInBounds_toArray, List.set_cons_zero, List.set_cons_succ] at t ⊢
        exact t
      exact AllReadyH.nil)
    have s1_12 : Hid (∀ (n1 n2 : Nat) (w' : World), Ext W w' → Fresh W w' n1 → Fresh W w' n2 → n1 ≠ n2 → H 6 #[true, true, true, true, true, true, true, true, true, true, true, false, true, true, true, true, true, false, false, true, true, false, false, false] (((A.put (some 16) (.agg #[.int .i64 x0, .int .i64 y0])).put (some 8) (.pointer (some ⟨n1, 0, none⟩))).put (some 9) (.pointer (some ⟨n2, 0, none⟩))) w') := Lib.hid (by
      intro n1 n2 w' hX f1 f2 d12 
      have hHeld := keep2 hX hz0 hzt
      rw [HH.out, HA.out]
      (try simp only [Act.put, List.setIfInBounds_toArray, List.set_cons_zero, List.set_cons_succ])
      refine wpAnyH_ready (rs := [11, 18]) (by kernel_rfl) (by simp) ?_
      refine AllReadyH.cons (o := _) rfl (fun K hK => ?_) ?_
      · go_simp
        (go_at_call 109; refine Calls.mono (HP1.out _) ?_; rintro e w1 ⟨rfl, hb⟩)
        have hX' := hX.tr hb
        refine hK.out _ _ (keep2 hX' hz0 hzt) (fun _ => ?_)
        have t := s2_12.out n1 n2 _ hX' (f1.ext hb) (f2.ext hb) d12 
        rw [HH.out, HA.out] at t
        simp only [Act.put, List.setIfInBounds_toArray, List.set_cons_zero, List.set_cons_succ] at t ⊢
        exact t
      refine AllReadyH.cons (o := _) rfl (fun K hK => ?_) ?_
      · go_simp
        have hX' := Ext.al hX (.cells #[.int .i64 0, .int .i64 0] 23)
        refine hK.out _ _ (keep2 hX' hz0 hzt) (fun _ => ?_)
        have t := s1_012.out _ n1 n2 _ hX' (Fresh.new hX _) (f1.ext (Ext.al (Ext.rfl' _) _)) (f2.ext (Ext.al (Ext.rfl' _) _)) f1.ne.symm f2.ne.symm d12 
        rw [HH.out, HA.out] at t
        simp only [Act.put, List.setIfInBounds_toArray, List.set_cons_zero, List.set_cons_succ] at t ⊢
        exact t
      exact AllReadyH.nil)
    have s1_0 : Hid (∀ (n0 : Nat) (w' : World), Ext W w' → Fresh W w' n0 → H 7 #[true, true, true, true, true, true, true, true, true, true, true, false, true, true, true, true, true, false, true, false, false, false, false, false] ((A.put (some 16) (.agg #[.int .i64 x0, .int .i64 y0])).put (some 7) (.pointer (some ⟨n0, 0, none⟩))) w') := Lib.hid (by
      intro n0 w' hX f0 
      have hHeld := keep2 hX hz0 hzt
      rw [HH.out, HA.out]
      (try simp only [Act.put, List.setIfInBounds_toArray, List.set_cons_zero, List.set_cons_succ])
      refine wpAnyH_ready (rs := [11, 19, 20]) (by kernel_rfl) (by simp) ?_
      refine AllReadyH.cons (o := _) rfl (fun K hK => ?_) ?_
      · go_simp
        (go_at_call 109; refine Calls.mono (HP1.out _) ?_; rintro e w1 ⟨rfl, hb⟩)
        have hX' := hX.tr hb
        refine hK.out _ _ (keep2 hX' hz0 hzt) (fun _ => ?_)
        have t := s2_0.out n0 _ hX' (f0.ext hb) 
        rw [HH.out, HA.out] at t
        simp only [Act.put, List.setIfInBounds_toArray, List.set_cons_zero, List.set_cons_succ] at t ⊢
        exact t
      refine AllReadyH.cons (o := _) rfl (fun K hK => ?_) ?_
      · go_simp
        have hX' := Ext.al hX (.cells #[.int .i64 0, .int .i64 0] 23)
        refine hK.out _ _ (keep2 hX' hz0 hzt) (fun _ => ?_)
        have t := s1_01.out n0 _ _ hX' (f0.ext (Ext.al (Ext.rfl' _) _)) (Fresh.new hX _) f0.ne 
        rw [HH.out, HA.out] at t
        simp only [Act.put, List.setIfInBounds_toArray, List.set_cons_zero, List.set_cons_succ] at t ⊢
        exact t
      refine AllReadyH.cons (o := _) rfl (fun K hK => ?_) ?_
      · go_simp
        have hX' := Ext.al hX (.cells #[.int .i64 0, .int .i64 0] 23)
        refine hK.out _ _ (keep2 hX' hz0 hzt) (fun _ => ?_)
        have t := s1_02.out n0 _ _ hX' (f0.ext (Ext.al (Ext.rfl' _) _)) (Fresh.new hX _) f0.ne 
        rw [HH.out, HA.out] at t
        simp only [Act.put, List.setIfInBounds_toArray, List.set_cons_zero, List.set_cons_succ] at t ⊢
        exact t
      exact AllReadyH.nil)
    have s1_1 : Hid (∀ (n1 : Nat) (w' : World), Ext W w' → Fresh W w' n1 → H 7 #[true, true, true, true, true, true, true, true, true, true, true, false, true, true, true, true, true, false, false, true, false, false, false, false] ((A.put (some 16) (.agg #[.int .i64 x0, .int .i64 y0])).put (some 8) (.pointer (some ⟨n1, 0, none⟩))) w') := Lib.hid (by
      intro n1 w' hX f1 
      have hHeld := keep2 hX hz0 hzt
      rw [HH.out, HA.out]
      (try simp only [Act.put, List.setIfInBounds_toArray, List.set_cons_zero, List.set_cons_succ])
      refine wpAnyH_ready (rs := [11, 18, 20]) (by kernel_rfl) (by simp) ?_
      refine AllReadyH.cons (o := _) rfl (fun K hK => ?_) ?_
      · go_simp
        (go_at_call 109; refine Calls.mono (HP1.out _) ?_; rintro e w1 ⟨rfl, hb⟩)
        have hX' := hX.tr hb
        refine hK.out _ _ (keep2 hX' hz0 hzt) (fun _ => ?_)
        have t := s2_1.out n1 _ hX' (f1.ext hb) 
        rw [HH.out, HA.out] at t
        simp only [Act.put, List.setIfInBounds_toArray, List.set_cons_zero, List.set_cons_succ] at t ⊢
        exact t
      refine AllReadyH.cons (o := _) rfl (fun K hK => ?_) ?_
      · go_simp
        have hX' := Ext.al hX (.cells #[.int .i64 0, .int .i64 0] 23)
        refine hK.out _ _ (keep2 hX' hz0 hzt) (fun _ => ?_)
        have t := s1_01.out _ n1 _ hX' (Fresh.new hX _) (f1.ext (Ext.al (Ext.rfl' _) _)) f1.ne.symm 
        rw [HH.out, HA.out] at t
        simp only [Act.put, List.setIfInBounds_toArray, List.set_cons_zero, List.set_cons_succ] at t ⊢
        exact t
      refine AllReadyH.cons (o := _) rfl (fun K hK => ?_) ?_
      · go_simp
        have hX' := Ext.al hX (.cells #[.int .i64 0, .int .i64 0] 23)
        refine hK.out _ _ (keep2 hX' hz0 hzt) (fun _ => ?_)
        have t := s1_12.out n1 _ _ hX' (f1.ext (Ext.al (Ext.rfl' _) _)) (Fresh.new hX _) f1.ne 
        rw [HH.out, HA.out] at t
        simp only [Act.put, List.setIfInBounds_toArray, List.set_cons_zero, List.set_cons_succ] at t ⊢
        exact t
      exact AllReadyH.nil)
    have s1_2 : Hid (∀ (n2 : Nat) (w' : World), Ext W w' → Fresh W w' n2 → H 7 #[true, true, true, true, true, true, true, true, true, true, true, false, true, true, true, true, true, false, false, false, true, false, false, false] ((A.put (some 16) (.agg #[.int .i64 x0, .int .i64 y0])).put (some 9) (.pointer (some ⟨n2, 0, none⟩))) w') := Lib.hid (by
      intro n2 w' hX f2 
      have hHeld := keep2 hX hz0 hzt
      rw [HH.out, HA.out]
      (try simp only [Act.put, List.setIfInBounds_toArray, List.set_cons_zero, List.set_cons_succ])
      refine wpAnyH_ready (rs := [11, 18, 19]) (by kernel_rfl) (by simp) ?_
      refine AllReadyH.cons (o := _) rfl (fun K hK => ?_) ?_
      · go_simp
        (go_at_call 109; refine Calls.mono (HP1.out _) ?_; rintro e w1 ⟨rfl, hb⟩)
        have hX' := hX.tr hb
        refine hK.out _ _ (keep2 hX' hz0 hzt) (fun _ => ?_)
        have t := s2_2.out n2 _ hX' (f2.ext hb) 
        rw [HH.out, HA.out] at t
        simp only [Act.put, List.setIfInBounds_toArray, List.set_cons_zero, List.set_cons_succ] at t ⊢
        exact t
      refine AllReadyH.cons (o := _) rfl (fun K hK => ?_) ?_
      · go_simp
        have hX' := Ext.al hX (.cells #[.int .i64 0, .int .i64 0] 23)
        refine hK.out _ _ (keep2 hX' hz0 hzt) (fun _ => ?_)
        have t := s1_02.out _ n2 _ hX' (Fresh.new hX _) (f2.ext (Ext.al (Ext.rfl' _) _)) f2.ne.symm 
        rw [HH.out, HA.out] at t
        simp only [Act.put, List.setIfInBounds_toArray, List.set_cons_zero, List.set_cons_succ] at t ⊢
        exact t
      refine AllReadyH.cons (o := _) rfl (fun K hK => ?_) ?_
      · go_simp
        have hX' := Ext.al hX (.cells #[.int .i64 0, .int .i64 0] 23)
        refine hK.out _ _ (keep2 hX' hz0 hzt) (fun _ => ?_)
        have t := s1_12.out _ n2 _ hX' (Fresh.new hX _) (f2.ext (Ext.al (Ext.rfl' _) _)) f2.ne.symm 
        rw [HH.out, HA.out] at t
        simp only [Act.put, List.setIfInBounds_toArray, List.set_cons_zero, List.set_cons_succ] at t ⊢
        exact t
      exact AllReadyH.nil)
    have s1_ : Hid (∀ (w' : World), Ext W w' → H 8 #[true, true, true, true, true, true, true, true, true, true, true, false, true, true, true, true, true, false, false, false, false, false, false, false] (A.put (some 16) (.agg #[.int .i64 x0, .int .i64 y0])) w') := Lib.hid (by
      intro  w' hX  
      have hHeld := keep2 hX hz0 hzt
      rw [HH.out, HA.out]
      (try simp only [Act.put, List.setIfInBounds_toArray, List.set_cons_zero, List.set_cons_succ])
      refine wpAnyH_ready (rs := [11, 18, 19, 20]) (by kernel_rfl) (by simp) ?_
      refine AllReadyH.cons (o := _) rfl (fun K hK => ?_) ?_
      · go_simp
        (go_at_call 109; refine Calls.mono (HP1.out _) ?_; rintro e w1 ⟨rfl, hb⟩)
        have hX' := hX.tr hb
        refine hK.out _ _ (keep2 hX' hz0 hzt) (fun _ => ?_)
        have t := s2_.out  _ hX' 
        rw [HH.out, HA.out] at t
        simp only [Act.put, List.setIfInBounds_toArray, List.set_cons_zero, List.set_cons_succ] at t ⊢
        exact t
      refine AllReadyH.cons (o := _) rfl (fun K hK => ?_) ?_
      · go_simp
        have hX' := Ext.al hX (.cells #[.int .i64 0, .int .i64 0] 23)
        refine hK.out _ _ (keep2 hX' hz0 hzt) (fun _ => ?_)
        have t := s1_0.out _ _ hX' (Fresh.new hX _) 
        rw [HH.out, HA.out] at t
        simp only [Act.put, List.setIfInBounds_toArray, List.set_cons_zero, List.set_cons_succ] at t ⊢
        exact t
      refine AllReadyH.cons (o := _) rfl (fun K hK => ?_) ?_
      · go_simp
        have hX' := Ext.al hX (.cells #[.int .i64 0, .int .i64 0] 23)
        refine hK.out _ _ (keep2 hX' hz0 hzt) (fun _ => ?_)
        have t := s1_1.out _ _ hX' (Fresh.new hX _) 
        rw [HH.out, HA.out] at t
        simp only [Act.put, List.setIfInBounds_toArray, List.set_cons_zero, List.set_cons_succ] at t ⊢
        exact t
      refine AllReadyH.cons (o := _) rfl (fun K hK => ?_) ?_
      · go_simp
        have hX' := Ext.al hX (.cells #[.int .i64 0, .int .i64 0] 23)
        refine hK.out _ _ (keep2 hX' hz0 hzt) (fun _ => ?_)
        have t := s1_2.out _ _ hX' (Fresh.new hX _) 
        rw [HH.out, HA.out] at t
        simp only [Act.put, List.setIfInBounds_toArray, List.set_cons_zero, List.set_cons_succ] at t ⊢
        exact t
      exact AllReadyH.nil)
    have s0_012 : Hid (∀ (n0 n1 n2 : Nat) (w' : World), Ext W w' → Fresh W w' n0 → Fresh W w' n1 → Fresh W w' n2 → n0 ≠ n1 → n0 ≠ n2 → n1 ≠ n2 → H 6 #[true, true, true, true, true, false, true, true, true, true, true, false, true, true, true, true, true, false, true, true, true, false, false, false] (((A.put (some 7) (.pointer (some ⟨n0, 0, none⟩))).put (some 8) (.pointer (some ⟨n1, 0, none⟩))).put (some 9) (.pointer (some ⟨n2, 0, none⟩))) w') := Lib.hid (by
      intro n0 n1 n2 w' hX f0 f1 f2 d01 d02 d12 
      have hHeld := keep2 hX hz0 hzt
      rw [HH.out, HA.out]
      (try simp only [Act.put, List.setIfInBounds_toArray, List.set_cons_zero, List.set_cons_succ])
      refine wpAnyH_ready (rs := [5]) (by kernel_rfl) (by simp) ?_
      refine AllReadyH.cons (o := _) rfl (fun K hK => ?_) ?_
      · go_simp
        (go_at_call 109; refine Calls.mono (HP0.out _) ?_; rintro e w1 ⟨rfl, hb⟩)
        have hX' := hX.tr hb
        refine hK.out _ _ (keep2 hX' hz0 hzt) (fun _ => ?_)
        have t := s1_012.out n0 n1 n2 _ hX' (f0.ext hb) (f1.ext hb) (f2.ext hb) d01 d02 d12 
        rw [HH.out, HA.out] at t
        simp only [Act.put, List.setIfInBounds_toArray, List.set_cons_zero, List.set_cons_succ] at t ⊢
        exact t
      exact AllReadyH.nil)
    have s0_01 : Hid (∀ (n0 n1 : Nat) (w' : World), Ext W w' → Fresh W w' n0 → Fresh W w' n1 → n0 ≠ n1 → H 7 #[true, true, true, true, true, false, true, true, true, true, true, false, true, true, true, true, true, false, true, true, false, false, false, false] ((A.put (some 7) (.pointer (some ⟨n0, 0, none⟩))).put (some 8) (.pointer (some ⟨n1, 0, none⟩))) w') := Lib.hid (by
      intro n0 n1 w' hX f0 f1 d01 
      have hHeld := keep2 hX hz0 hzt
      rw [HH.out, HA.out]
      (try simp only [Act.put, List.setIfInBounds_toArray, List.set_cons_zero, List.set_cons_succ])
      refine wpAnyH_ready (rs := [5, 20]) (by kernel_rfl) (by simp) ?_
      refine AllReadyH.cons (o := _) rfl (fun K hK => ?_) ?_
      · go_simp
        (go_at_call 109; refine Calls.mono (HP0.out _) ?_; rintro e w1 ⟨rfl, hb⟩)
        have hX' := hX.tr hb
        refine hK.out _ _ (keep2 hX' hz0 hzt) (fun _ => ?_)
        have t := s1_01.out n0 n1 _ hX' (f0.ext hb) (f1.ext hb) d01 
        rw [HH.out, HA.out] at t
        simp only [Act.put, List.setIfInBounds_toArray, List.set_cons_zero, List.set_cons_succ] at t ⊢
        exact t
      refine AllReadyH.cons (o := _) rfl (fun K hK => ?_) ?_
      · go_simp
        have hX' := Ext.al hX (.cells #[.int .i64 0, .int .i64 0] 23)
        refine hK.out _ _ (keep2 hX' hz0 hzt) (fun _ => ?_)
        have t := s0_012.out n0 n1 _ _ hX' (f0.ext (Ext.al (Ext.rfl' _) _)) (f1.ext (Ext.al (Ext.rfl' _) _)) (Fresh.new hX _) d01 f0.ne f1.ne 
        rw [HH.out, HA.out] at t
        simp only [Act.put, List.setIfInBounds_toArray, List.set_cons_zero, List.set_cons_succ] at t ⊢
        exact t
      exact AllReadyH.nil)
    have s0_02 : Hid (∀ (n0 n2 : Nat) (w' : World), Ext W w' → Fresh W w' n0 → Fresh W w' n2 → n0 ≠ n2 → H 7 #[true, true, true, true, true, false, true, true, true, true, true, false, true, true, true, true, true, false, true, false, true, false, false, false] ((A.put (some 7) (.pointer (some ⟨n0, 0, none⟩))).put (some 9) (.pointer (some ⟨n2, 0, none⟩))) w') := Lib.hid (by
      intro n0 n2 w' hX f0 f2 d02 
      have hHeld := keep2 hX hz0 hzt
      rw [HH.out, HA.out]
      (try simp only [Act.put, List.setIfInBounds_toArray, List.set_cons_zero, List.set_cons_succ])
      refine wpAnyH_ready (rs := [5, 19]) (by kernel_rfl) (by simp) ?_
      refine AllReadyH.cons (o := _) rfl (fun K hK => ?_) ?_
      · go_simp
        (go_at_call 109; refine Calls.mono (HP0.out _) ?_; rintro e w1 ⟨rfl, hb⟩)
        have hX' := hX.tr hb
        refine hK.out _ _ (keep2 hX' hz0 hzt) (fun _ => ?_)
        have t := s1_02.out n0 n2 _ hX' (f0.ext hb) (f2.ext hb) d02 
        rw [HH.out, HA.out] at t
        simp only [Act.put, List.setIfInBounds_toArray, List.set_cons_zero, List.set_cons_succ] at t ⊢
        exact t
      refine AllReadyH.cons (o := _) rfl (fun K hK => ?_) ?_
      · go_simp
        have hX' := Ext.al hX (.cells #[.int .i64 0, .int .i64 0] 23)
        refine hK.out _ _ (keep2 hX' hz0 hzt) (fun _ => ?_)
        have t := s0_012.out n0 _ n2 _ hX' (f0.ext (Ext.al (Ext.rfl' _) _)) (Fresh.new hX _) (f2.ext (Ext.al (Ext.rfl' _) _)) f0.ne d02 f2.ne.symm 
        rw [HH.out, HA.out] at t
        simp only [Act.put, List.setIfInBounds_toArray, List.set_cons_zero, List.set_cons_succ] at t ⊢
        exact t
      exact AllReadyH.nil)
    have s0_12 : Hid (∀ (n1 n2 : Nat) (w' : World), Ext W w' → Fresh W w' n1 → Fresh W w' n2 → n1 ≠ n2 → H 7 #[true, true, true, true, true, false, true, true, true, true, true, false, true, true, true, true, true, false, false, true, true, false, false, false] ((A.put (some 8) (.pointer (some ⟨n1, 0, none⟩))).put (some 9) (.pointer (some ⟨n2, 0, none⟩))) w') := Lib.hid (by
      intro n1 n2 w' hX f1 f2 d12 
      have hHeld := keep2 hX hz0 hzt
      rw [HH.out, HA.out]
      (try simp only [Act.put, List.setIfInBounds_toArray, List.set_cons_zero, List.set_cons_succ])
      refine wpAnyH_ready (rs := [5, 18]) (by kernel_rfl) (by simp) ?_
      refine AllReadyH.cons (o := _) rfl (fun K hK => ?_) ?_
      · go_simp
        (go_at_call 109; refine Calls.mono (HP0.out _) ?_; rintro e w1 ⟨rfl, hb⟩)
        have hX' := hX.tr hb
        refine hK.out _ _ (keep2 hX' hz0 hzt) (fun _ => ?_)
        have t := s1_12.out n1 n2 _ hX' (f1.ext hb) (f2.ext hb) d12 
        rw [HH.out, HA.out] at t
        simp only [Act.put, List.setIfInBounds_toArray, List.set_cons_zero, List.set_cons_succ] at t ⊢
        exact t
      refine AllReadyH.cons (o := _) rfl (fun K hK => ?_) ?_
      · go_simp
        have hX' := Ext.al hX (.cells #[.int .i64 0, .int .i64 0] 23)
        refine hK.out _ _ (keep2 hX' hz0 hzt) (fun _ => ?_)
        have t := s0_012.out _ n1 n2 _ hX' (Fresh.new hX _) (f1.ext (Ext.al (Ext.rfl' _) _)) (f2.ext (Ext.al (Ext.rfl' _) _)) f1.ne.symm f2.ne.symm d12 
        rw [HH.out, HA.out] at t
        simp only [Act.put, List.setIfInBounds_toArray, List.set_cons_zero, List.set_cons_succ] at t ⊢
        exact t
      exact AllReadyH.nil)
    have s0_0 : Hid (∀ (n0 : Nat) (w' : World), Ext W w' → Fresh W w' n0 → H 8 #[true, true, true, true, true, false, true, true, true, true, true, false, true, true, true, true, true, false, true, false, false, false, false, false] (A.put (some 7) (.pointer (some ⟨n0, 0, none⟩))) w') := Lib.hid (by
      intro n0 w' hX f0 
      have hHeld := keep2 hX hz0 hzt
      rw [HH.out, HA.out]
      (try simp only [Act.put, List.setIfInBounds_toArray, List.set_cons_zero, List.set_cons_succ])
      refine wpAnyH_ready (rs := [5, 19, 20]) (by kernel_rfl) (by simp) ?_
      refine AllReadyH.cons (o := _) rfl (fun K hK => ?_) ?_
      · go_simp
        (go_at_call 109; refine Calls.mono (HP0.out _) ?_; rintro e w1 ⟨rfl, hb⟩)
        have hX' := hX.tr hb
        refine hK.out _ _ (keep2 hX' hz0 hzt) (fun _ => ?_)
        have t := s1_0.out n0 _ hX' (f0.ext hb) 
        rw [HH.out, HA.out] at t
        simp only [Act.put, List.setIfInBounds_toArray, List.set_cons_zero, List.set_cons_succ] at t ⊢
        exact t
      refine AllReadyH.cons (o := _) rfl (fun K hK => ?_) ?_
      · go_simp
        have hX' := Ext.al hX (.cells #[.int .i64 0, .int .i64 0] 23)
        refine hK.out _ _ (keep2 hX' hz0 hzt) (fun _ => ?_)
        have t := s0_01.out n0 _ _ hX' (f0.ext (Ext.al (Ext.rfl' _) _)) (Fresh.new hX _) f0.ne 
        rw [HH.out, HA.out] at t
        simp only [Act.put, List.setIfInBounds_toArray, List.set_cons_zero, List.set_cons_succ] at t ⊢
        exact t
      refine AllReadyH.cons (o := _) rfl (fun K hK => ?_) ?_
      · go_simp
        have hX' := Ext.al hX (.cells #[.int .i64 0, .int .i64 0] 23)
        refine hK.out _ _ (keep2 hX' hz0 hzt) (fun _ => ?_)
        have t := s0_02.out n0 _ _ hX' (f0.ext (Ext.al (Ext.rfl' _) _)) (Fresh.new hX _) f0.ne 
        rw [HH.out, HA.out] at t
        simp only [Act.put, List.setIfInBounds_toArray, List.set_cons_zero, List.set_cons_succ] at t ⊢
        exact t
      exact AllReadyH.nil)
    have s0_1 : Hid (∀ (n1 : Nat) (w' : World), Ext W w' → Fresh W w' n1 → H 8 #[true, true, true, true, true, false, true, true, true, true, true, false, true, true, true, true, true, false, false, true, false, false, false, false] (A.put (some 8) (.pointer (some ⟨n1, 0, none⟩))) w') := Lib.hid (by
      intro n1 w' hX f1 
      have hHeld := keep2 hX hz0 hzt
      rw [HH.out, HA.out]
      (try simp only [Act.put, List.setIfInBounds_toArray, List.set_cons_zero, List.set_cons_succ])
      refine wpAnyH_ready (rs := [5, 18, 20]) (by kernel_rfl) (by simp) ?_
      refine AllReadyH.cons (o := _) rfl (fun K hK => ?_) ?_
      · go_simp
        (go_at_call 109; refine Calls.mono (HP0.out _) ?_; rintro e w1 ⟨rfl, hb⟩)
        have hX' := hX.tr hb
        refine hK.out _ _ (keep2 hX' hz0 hzt) (fun _ => ?_)
        have t := s1_1.out n1 _ hX' (f1.ext hb) 
        rw [HH.out, HA.out] at t
        simp only [Act.put, List.setIfInBounds_toArray, List.set_cons_zero, List.set_cons_succ] at t ⊢
        exact t
      refine AllReadyH.cons (o := _) rfl (fun K hK => ?_) ?_
      · go_simp
        have hX' := Ext.al hX (.cells #[.int .i64 0, .int .i64 0] 23)
        refine hK.out _ _ (keep2 hX' hz0 hzt) (fun _ => ?_)
        have t := s0_01.out _ n1 _ hX' (Fresh.new hX _) (f1.ext (Ext.al (Ext.rfl' _) _)) f1.ne.symm 
        rw [HH.out, HA.out] at t
        simp only [Act.put, List.setIfInBounds_toArray, List.set_cons_zero, List.set_cons_succ] at t ⊢
        exact t
      refine AllReadyH.cons (o := _) rfl (fun K hK => ?_) ?_
      · go_simp
        have hX' := Ext.al hX (.cells #[.int .i64 0, .int .i64 0] 23)
        refine hK.out _ _ (keep2 hX' hz0 hzt) (fun _ => ?_)
        have t := s0_12.out n1 _ _ hX' (f1.ext (Ext.al (Ext.rfl' _) _)) (Fresh.new hX _) f1.ne 
        rw [HH.out, HA.out] at t
        simp only [Act.put, List.setIfInBounds_toArray, List.set_cons_zero, List.set_cons_succ] at t ⊢
        exact t
      exact AllReadyH.nil)
    have s0_2 : Hid (∀ (n2 : Nat) (w' : World), Ext W w' → Fresh W w' n2 → H 8 #[true, true, true, true, true, false, true, true, true, true, true, false, true, true, true, true, true, false, false, false, true, false, false, false] (A.put (some 9) (.pointer (some ⟨n2, 0, none⟩))) w') := Lib.hid (by
      intro n2 w' hX f2 
      have hHeld := keep2 hX hz0 hzt
      rw [HH.out, HA.out]
      (try simp only [Act.put, List.setIfInBounds_toArray, List.set_cons_zero, List.set_cons_succ])
      refine wpAnyH_ready (rs := [5, 18, 19]) (by kernel_rfl) (by simp) ?_
      refine AllReadyH.cons (o := _) rfl (fun K hK => ?_) ?_
      · go_simp
        (go_at_call 109; refine Calls.mono (HP0.out _) ?_; rintro e w1 ⟨rfl, hb⟩)
        have hX' := hX.tr hb
        refine hK.out _ _ (keep2 hX' hz0 hzt) (fun _ => ?_)
        have t := s1_2.out n2 _ hX' (f2.ext hb) 
        rw [HH.out, HA.out] at t
        simp only [Act.put, List.setIfInBounds_toArray, List.set_cons_zero, List.set_cons_succ] at t ⊢
        exact t
      refine AllReadyH.cons (o := _) rfl (fun K hK => ?_) ?_
      · go_simp
        have hX' := Ext.al hX (.cells #[.int .i64 0, .int .i64 0] 23)
        refine hK.out _ _ (keep2 hX' hz0 hzt) (fun _ => ?_)
        have t := s0_02.out _ n2 _ hX' (Fresh.new hX _) (f2.ext (Ext.al (Ext.rfl' _) _)) f2.ne.symm 
        rw [HH.out, HA.out] at t
        simp only [Act.put, List.setIfInBounds_toArray, List.set_cons_zero, List.set_cons_succ] at t ⊢
        exact t
      refine AllReadyH.cons (o := _) rfl (fun K hK => ?_) ?_
      · go_simp
        have hX' := Ext.al hX (.cells #[.int .i64 0, .int .i64 0] 23)
        refine hK.out _ _ (keep2 hX' hz0 hzt) (fun _ => ?_)
        have t := s0_12.out _ n2 _ hX' (Fresh.new hX _) (f2.ext (Ext.al (Ext.rfl' _) _)) f2.ne.symm 
        rw [HH.out, HA.out] at t
        simp only [Act.put, List.setIfInBounds_toArray, List.set_cons_zero, List.set_cons_succ] at t ⊢
        exact t
      exact AllReadyH.nil)
    have s0_ : Hid (∀ (w' : World), Ext W w' → H 9 #[true, true, true, true, true, false, true, true, true, true, true, false, true, true, true, true, true, false, false, false, false, false, false, false] A w') := Lib.hid (by
      intro  w' hX  
      have hHeld := keep2 hX hz0 hzt
      rw [HH.out, HA.out]
      (try simp only [Act.put, List.setIfInBounds_toArray, List.set_cons_zero, List.set_cons_succ])
      refine wpAnyH_ready (rs := [5, 18, 19, 20]) (by kernel_rfl) (by simp) ?_
      refine AllReadyH.cons (o := _) rfl (fun K hK => ?_) ?_
      · go_simp
        (go_at_call 109; refine Calls.mono (HP0.out _) ?_; rintro e w1 ⟨rfl, hb⟩)
        have hX' := hX.tr hb
        refine hK.out _ _ (keep2 hX' hz0 hzt) (fun _ => ?_)
        have t := s1_.out  _ hX' 
        rw [HH.out, HA.out] at t
        simp only [Act.put, List.setIfInBounds_toArray, List.set_cons_zero, List.set_cons_succ] at t ⊢
        exact t
      refine AllReadyH.cons (o := _) rfl (fun K hK => ?_) ?_
      · go_simp
        have hX' := Ext.al hX (.cells #[.int .i64 0, .int .i64 0] 23)
        refine hK.out _ _ (keep2 hX' hz0 hzt) (fun _ => ?_)
        have t := s0_0.out _ _ hX' (Fresh.new hX _) 
        rw [HH.out, HA.out] at t
        simp only [Act.put, List.setIfInBounds_toArray, List.set_cons_zero, List.set_cons_succ] at t ⊢
        exact t
      refine AllReadyH.cons (o := _) rfl (fun K hK => ?_) ?_
      · go_simp
        have hX' := Ext.al hX (.cells #[.int .i64 0, .int .i64 0] 23)
        refine hK.out _ _ (keep2 hX' hz0 hzt) (fun _ => ?_)
        have t := s0_1.out _ _ hX' (Fresh.new hX _) 
        rw [HH.out, HA.out] at t
        simp only [Act.put, List.setIfInBounds_toArray, List.set_cons_zero, List.set_cons_succ] at t ⊢
        exact t
      refine AllReadyH.cons (o := _) rfl (fun K hK => ?_) ?_
      · go_simp
        have hX' := Ext.al hX (.cells #[.int .i64 0, .int .i64 0] 23)
        refine hK.out _ _ (keep2 hX' hz0 hzt) (fun _ => ?_)
        have t := s0_2.out _ _ hX' (Fresh.new hX _) 
        rw [HH.out, HA.out] at t
        simp only [Act.put, List.setIfInBounds_toArray, List.set_cons_zero, List.set_cons_succ] at t ⊢
        exact t
      exact AllReadyH.nil)
    exact s0_.out _ (Ext.dr (Ext.rfl' W))
  case rest =>
    obtain ⟨r0, r1, r2, rfl, rfl, rfl, hx, ⟨l0, l1, l2⟩, ⟨m0, m1⟩, ⟨m2, m3⟩, ⟨m4, m5⟩⟩ := hcut
    have hEx := hE.tr hx
    obtain ⟨v0, v1, v2⟩ := C.out
    have e2 := (hEx.ccell _ _ hbl).trans v0
    have e5 := (hEx.ccell _ _ hbl).trans v1
    have e8 := (hEx.ccell _ _ hbl).trans v2
    obtain ⟨⟨j0, j1, j2⟩, ⟨j3, j4⟩, kz, kf⟩ := K.out
    have k0 := (hx.ccell _ 0 hzt).trans j0
    have k1 := (hx.ccell _ 1 hzt).trans j1
    have k2 := (hx.ccell _ 2 hzt).trans j2
    have hz1 : w.heap.size + 1 < W.heap.size := by omega
    have p0 := (hx.ccell _ 0 hz1).trans j3
    have p1 := (hx.ccell _ 1 hz1).trans j4
    have kzx : Two _ (w.heap.size + 1 + 1) 0 0 := ⟨(hx.ccell _ 0 hz).trans kz.1, (hx.ccell _ 1 hz).trans kz.2⟩
    have kfx := fun j => (hx.frz _ j hz).trans (kf j)
    have hblx := hx.sz _ hz0
    have hztx := hx.sz _ hzt
    have hz1x := hx.sz _ hz1
    have hzx := hx.sz _ hz
    clear v0 v1 v2 j0 j1 j2 j3 j4 kz kf
    obtain ⟨hw0, hw1, hw2, hw4, hw5⟩ := HWR.out
    go_wp2_with fail
    refine region_grow (by kernel_rfl) (by kernel_rfl) ?_
    repeat (first | go_big_quiet_step (first | (go_at_call 27; with_reducible exact callsGrow (HC0.out _)) | (go_at_call 27; with_reducible exact callsGrow (HC1.out _)) | (go_at_call 27; with_reducible exact callsGrow (HC2.out _)) | fail) | quiet_step (first | (go_at_call 27; with_reducible exact callsGrow (HC0.out _)) | (go_at_call 27; with_reducible exact callsGrow (HC1.out _)) | (go_at_call 27; with_reducible exact callsGrow (HC2.out _)) | fail))
    refine wpQuiet_nil ?_
    intro w1 hb
    have hc := hb.ccell
    have hf := hb.frz
    have hs := hb.sz
    (try simp at hs); (try have hs0 := hs w.heap.size (by omega)); (try have hs1 := hs (w.heap.size + 1) (by omega)); (try have hs2 := hs (w.heap.size + 1 + 1) (by omega)); (try have hs3 := hs (w.heap.size + 1 + 1 + 1) (by omega))
    (try simp only [IntWalk.i64_left])
    clear hw0 hw1 hw2 hw4 hw5
    have hb1 := hb
    have hr0 := hb1.sz _ l0
    have hr1 := hb1.sz _ l1
    have hr2 := hb1.sz _ l2
    go_wp2_with (first | (go_at_call 27; with_reducible refine Calls.mono (HC.out _) ?_; rintro e w4 ⟨rfl, hb4⟩))
    with_reducible refine Calls.mono (HF.out _) ?_
    rintro e w5 ⟨rfl, hb5⟩
    have hE5 := hb1.tr (hb4.tr hb5)
    have hc5 := hE5.ccell
    have hf5 := hE5.frz
    have hs5 := hE5.sz _ hzx
    obtain ⟨z0', z1'⟩ := kzx
    clear hc hf hs
    (try dsimp only)
    go_wp2
    have hEw : Ext w w5 := hEx.tr hE5
    have kz5 : Two w5 (w.heap.size + 1 + 1) 0 0 := ⟨(hE5.ccell _ _ hzx).trans z0', (hE5.ccell _ _ hzx).trans z1'⟩
    have hS2 := Two.store (w := w5) (b := w.heap.size + 1 + 1) kz5 (q1) (q2)
    have hX2 := Ext.store2 (b := w.heap.size + 1 + 1) hEw (by omega) (q1) (q2)
    show bodyPost _ _ _ _ _ (st2 w5 (w.heap.size + 1 + 1) (q1) (q2))
    generalize st2 w5 (w.heap.size + 1 + 1) (q1) (q2) = W6 at hS2 hX2 ⊢
    obtain ⟨s0, s1⟩ := hS2
    refine bodyPost_ret (v := .agg #[.int .i64 q1, .int .i64 q2]) (by simp [results, Try.results67, go_sem, s0, s1]) rfl ⟨rfl, hX2⟩
end
end Go.Proofs.Ytcdbekmcobghbaa


/- Contracts of both packages' Level. -/
import Derived.Test.YtcdbekmcobghbaaPrism
namespace Go.Proofs.Ytcdbekmcobghbaa
open Go Go.RowKit Go.IntWalk

def Two (w : World) (b : Nat) (x y : Int) : Prop := w.cell? ⟨b, 0, none⟩ = some (.int .i64 x) ∧ w.cell? ⟨b, 1, none⟩ = some (.int .i64 y)
def st2 (w : World) (b : Nat) (x0 x1 : Int) : World := (w.setCell ⟨b, 0, none⟩ (.int .i64 x0)).setCell ⟨b, 1, none⟩ (.int .i64 x1)
theorem Two.store {w : World} {b : Nat} {x y : Int} (h : Two w b x y) (x0 x1 : Int) : Two (st2 w b x0 x1) b x0 x1 := by
  obtain ⟨o0, o1⟩ := h
  unfold st2
  refine ⟨?_, ?_⟩ <;> simp [go_sem, o0, o1]
theorem Two.alloc {w : World} {b : Nat} {x y : Int} (h : Two w b x y) (hb : b < w.heap.size) (o : Obj) : Two (w.alloc o) b x y :=
  ⟨((Ext.al (Ext.rfl' w) o).ccell b 0 hb).trans h.1, ((Ext.al (Ext.rfl' w) o).ccell b 1 hb).trans h.2⟩
theorem st2_size (w : World) (b : Nat) (x0 x1 : Int) : (st2 w b x0 x1).heap.size = w.heap.size := by unfold st2; simp
theorem Ext.store2 {w wr : World} {b : Nat} (h : Ext w wr) (hb : w.heap.size ≤ b) (x0 x1 : Int) : Ext w (st2 wr b x0 x1) := Ext.st (Ext.st h hb _) hb _

theorem glevel_no (ns : List I3) (a b c px py r : Int) (w : World) (A : Option Addr) (cA : Nat) (hl : ns.length ≤ maxLen) (hA : Row 3 encI w A ns) (hr : nodesE ns (a, b, c) = r) (h0 : r ≠ 0) :
    Calls Try.prog 63 #[.slice A ns.length cA, .agg #[.int .i64 a, .int .i64 b, .int .i64 c], .agg #[.int .i64 px, .int .i64 py]] w
      fun e w' => e = .returned (.tuple #[.agg #[.int .i64 0, .int .i64 0], .int .i64 r]) ∧ Ext w w' := by
  have HY := Lib.hid (fun w' (hw : Ext w w') => nodes_no ns a b c w' A cA hl (hA.ext hw) r hr h0)
  have h' : (r == 0) = false := by simp [h0]
  clear hr
  go_enter Try.func63, Try.ntmps63
  go_wp2_with (first | (go_at_call 106; with_reducible refine Calls.mono (HY.out _ (by (repeat (first | with_reducible exact Ext.rfl' _ | with_reducible assumption | with_reducible refine Ext.al ?_ _ | with_reducible refine Ext.dr ?_ | with_reducible refine Ext.st ?_ (by simp) _ | with_reducible refine Ext.tr ?_ (by assumption))))) ?_; rintro e wN ⟨rfl, hbN⟩; have hcN := hbN.ccell; have hfN := hbN.frz; have hsN := hbN.sz; (try simp at hsN); have tN0 := hsN w.heap.size (by omega); have tN1 := hsN (w.heap.size + 1) (by omega); have tN2 := hsN (w.heap.size + 1 + 1) (by omega)))
  have hE : Ext w wN := by (repeat (first | with_reducible exact Ext.rfl' _ | with_reducible assumption | with_reducible refine Ext.al ?_ _ | with_reducible refine Ext.dr ?_ | with_reducible refine Ext.st ?_ (by simp) _ | with_reducible refine Ext.tr ?_ (by assumption)))
  have k : wN.cell? ⟨w.heap.size + 1 + 1, 0, none⟩ = some (.int .i64 0) ∧ wN.cell? ⟨w.heap.size + 1 + 1, 1, none⟩ = some (.int .i64 0) := by refine ⟨?_, ?_⟩ <;> simp [*, go_sem]
  have hS2 := Two.alloc (Two.store (b := w.heap.size + 1 + 1) k 0 0) (by rw [st2_size]; exact tN2) (.cells #[.int .i64 0, .int .i64 0, .int .i64 0, .int .i64 0, .int .i64 0, .int .i64 0] 98)
  have hX2 := Ext.al (Ext.store2 (b := w.heap.size + 1 + 1) hE (by omega) 0 0) (.cells #[.int .i64 0, .int .i64 0, .int .i64 0, .int .i64 0, .int .i64 0, .int .i64 0] 98)
  show bodyPost _ _ _ _ _ ((st2 wN (w.heap.size + 1 + 1) 0 0).alloc (.cells #[.int .i64 0, .int .i64 0, .int .i64 0, .int .i64 0, .int .i64 0, .int .i64 0] 98))
  generalize (st2 wN (w.heap.size + 1 + 1) 0 0).alloc (.cells #[.int .i64 0, .int .i64 0, .int .i64 0, .int .i64 0, .int .i64 0, .int .i64 0] 98) = W6 at hS2 hX2 ⊢
  obtain ⟨s0, s1⟩ := hS2
  exact bodyPost_ret (v := .tuple #[.agg #[.int .i64 0, .int .i64 0], .int .i64 r]) (by simp [results, Try.results63, go_sem, s0, s1]) rfl ⟨rfl, hX2⟩

theorem glevel_far (ns : List I3) (a b c px py : Int) (w : World) (A : Option Addr) (cA : Nat) (hA : Row 3 encI w A ns) (hn : nodesE ns (a, b, c) = 0) (hp : good ⟨px, py⟩ = false) :
    Calls Try.prog 63 #[.slice A ns.length cA, .agg #[.int .i64 a, .int .i64 b, .int .i64 c], .agg #[.int .i64 px, .int .i64 py]] w
      fun e w' => e = .returned (.tuple #[.agg #[.int .i64 0, .int .i64 0], .int .i64 2]) ∧ Ext w w' := by
  have HY := Lib.hid (fun w' (hw : Ext w w') => nodes_yes ns a b c w' A cA (hA.ext hw) hn)
  have HG := Lib.hid hp
  clear hn hp
  go_enter Try.func63, Try.ntmps63
  go_wp2_with (first | (go_at_call 106; with_reducible refine Calls.mono (HY.out _ (by (repeat (first | with_reducible exact Ext.rfl' _ | with_reducible assumption | with_reducible refine Ext.al ?_ _ | with_reducible refine Ext.dr ?_ | with_reducible refine Ext.st ?_ (by simp) _ | with_reducible refine Ext.tr ?_ (by assumption))))) ?_; rintro e wN ⟨rfl, hbN⟩; have hcN := hbN.ccell; have hfN := hbN.frz; have hsN := hbN.sz; (try simp at hsN); have tN0 := hsN w.heap.size (by omega); have tN1 := hsN (w.heap.size + 1) (by omega); have tN2 := hsN (w.heap.size + 1 + 1) (by omega)) | (go_at_call 73; refine Calls.mono (inRange1_c _ _ _ HG.out _ _ _ _ ?_) ?_; (focus simp); rintro e wI ⟨rfl, hbI⟩; have hEI : Ext wN wI := (by (repeat (first | with_reducible exact Ext.rfl' _ | with_reducible assumption | with_reducible refine Ext.al ?_ _ | with_reducible refine Ext.dr ?_ | with_reducible refine Ext.st ?_ (by simp) _ | with_reducible refine Ext.tr ?_ (by assumption)))); have hcI := hEI.ccell; have hfI := hEI.frz; have h8 := (fun o => hbI.ccell wN.heap.size o (by simp; omega)); have hsI := hbI.sz; (try simp at hsI); have tI0 := hsI w.heap.size (by omega); have tI1 := hsI (w.heap.size + 1) (by omega); have tI2 := hsI (w.heap.size + 1 + 1) (by omega); have tI3 := hsI wN.heap.size (by omega)))
  have hE : Ext w wI := by (repeat (first | with_reducible exact Ext.rfl' _ | with_reducible assumption | with_reducible refine Ext.al ?_ _ | with_reducible refine Ext.dr ?_ | with_reducible refine Ext.st ?_ (by simp) _ | with_reducible refine Ext.tr ?_ (by assumption)))
  have k : Two wI (w.heap.size + 1 + 1) 0 0 := by refine ⟨?_, ?_⟩ <;> simp [*, go_sem]
  have hS2 := Two.store (b := w.heap.size + 1 + 1) k 0 0
  have hX2 := Ext.store2 (b := w.heap.size + 1 + 1) hE (by omega) 0 0
  show bodyPost _ _ _ _ _ (st2 wI (w.heap.size + 1 + 1) 0 0)
  generalize st2 wI (w.heap.size + 1 + 1) 0 0 = W6 at hS2 hX2 ⊢
  obtain ⟨s0, s1⟩ := hS2
  exact bodyPost_ret (v := .tuple #[.agg #[.int .i64 0, .int .i64 0], .int .i64 2]) (by simp [results, Try.results63, go_sem, s0, s1]) rfl ⟨rfl, hX2⟩

def LevRel (m0 s1 s2 : Int) (s i : Value) : Prop := (i = .int .i64 0 ∧ s = .int .i64 0) ∨ (i = .int .i64 1 ∧ s = .int .i64 m0) ∨ (i = .int .i64 2 ∧ s = .int .i64 s1) ∨ (i = .int .i64 3 ∧ s = .int .i64 s2)
/-- The sum that Level makes lowest. -/
def levS (x0 y0 L0 x1 y1 L1 x2 y2 L2 px py : Int) : Int := L0 * crossZ ⟨px, py⟩ ⟨x1, y1⟩ ⟨x2, y2⟩ + L1 * crossZ ⟨px, py⟩ ⟨x2, y2⟩ ⟨x0, y0⟩ + L2 * crossZ ⟨px, py⟩ ⟨x0, y0⟩ ⟨x1, y1⟩
theorem lev_prod {L z : Int} (hl : -20000 ≤ L ∧ L ≤ 20000) (hz : -8000000000000 ≤ z ∧ z ≤ 8000000000000) : -160000000000000000 ≤ L * z ∧ L * z ≤ 160000000000000000 := by
  have := mul_bound (x := L) (y := z) (M := 20000) (N := 8000000000000) hl.1 hl.2 hz.1 hz.2
  omega
section
variable {ns : List I3} {a b c : Int} {i0 i1 i2 : Nat} {x0 y0 L0 x1 y1 L1 x2 y2 L2 : Int}
set_option maxHeartbeats 2000000 in
theorem glevel_yes (T : Three ns a b c i0 i1 i2 x0 y0 L0 x1 y1 L1 x2 y2 L2) (hn : nodesE ns (a, b, c) = 0) (px py : Int) (hp : good ⟨px, py⟩ = true) (w : World) (A : Option Addr) (cA : Nat) (hA : Row 3 encI w A ns) :
    Calls Try.prog 63 #[.slice A ns.length cA, .agg #[.int .i64 a, .int .i64 b, .int .i64 c], .agg #[.int .i64 px, .int .i64 py]] w
      fun e w' => e = .returned (.tuple #[.agg #[.int .i64 (lowN (levS x0 y0 L0 x1 y1 L1 x2 y2 L2 px py) (crossZ ⟨x0, y0⟩ ⟨x1, y1⟩ ⟨x2, y2⟩)), .int .i64 (lowD (levS x0 y0 L0 x1 y1 L1 x2 y2 L2 px py) (crossZ ⟨x0, y0⟩ ⟨x1, y1⟩ ⟨x2, y2⟩))], .int .i64 0]) ∧ Ext w w' := by
  obtain ⟨a0, a1, a2, n0, n1, n2, g0, g1, g2, l0, l1, l2, p0, p1, p2, hcr, hlen⟩ := T
  have hY := fun w' (hw : Ext w w') => nodes_yes ns a b c w' A cA (hA.ext hw) hn
  rw [p0, p1, p2] at hY
  simp only at hY
  have hC := fun w => cross_c x0 y0 x1 y1 x2 y2 w
  rw [crossW_good g0 g1 g2] at hC
  have hC0 := fun w => cross_c px py x1 y1 x2 y2 w
  have hC1 := fun w => cross_c px py x2 y2 x0 y0 w
  have hC2 := fun w => cross_c px py x0 y0 x1 y1 w
  rw [crossW_good hp g1 g2] at hC0
  rw [crossW_good hp g2 g0] at hC1
  rw [crossW_good hp g0 g1] at hC2
  have b0 := crossZ_bound hp g1 g2
  have b1 := crossZ_bound hp g2 g0
  have b2 := crossZ_bound hp g0 g1
  have b3 := crossZ_bound g0 g1 g2
  have hi0 := (List.getElem?_eq_some_iff.1 n0).1
  have hi1 := (List.getElem?_eq_some_iff.1 n1).1
  have hi2 := (List.getElem?_eq_some_iff.1 n2).1
  subst a0 a1 a2
  have hF := glow_c (levS x0 y0 L0 x1 y1 L1 x2 y2 L2 px py) (crossZ ⟨x0, y0⟩ ⟨x1, y1⟩ ⟨x2, y2⟩)
  unfold levS at *
  generalize crossZ ⟨x0, y0⟩ ⟨x1, y1⟩ ⟨x2, y2⟩ = D at *
  generalize crossZ ⟨px, py⟩ ⟨x1, y1⟩ ⟨x2, y2⟩ = z0 at *
  generalize crossZ ⟨px, py⟩ ⟨x2, y2⟩ ⟨x0, y0⟩ = z1 at *
  generalize crossZ ⟨px, py⟩ ⟨x0, y0⟩ ⟨x1, y1⟩ = z2 at *
  have m0 := lev_prod l0 b0
  have m1 := lev_prod l1 b1
  have m2 := lev_prod l2 b2
  have hw0 : IntKind.i64.wrap (L0 * z0) = L0 * z0 := IntWalk.i64_in _ (by omega)
  have hw1 : IntKind.i64.wrap (L1 * z1) = L1 * z1 := IntWalk.i64_in _ (by omega)
  have hw2 : IntKind.i64.wrap (L2 * z2) = L2 * z2 := IntWalk.i64_in _ (by omega)
  obtain ⟨M0, e0⟩ : ∃ M, L0 * z0 = M := ⟨_, rfl⟩
  obtain ⟨M1, e1⟩ : ∃ M, L1 * z1 = M := ⟨_, rfl⟩
  obtain ⟨M2, e2⟩ : ∃ M, L2 * z2 = M := ⟨_, rfl⟩
  rw [e0] at m0
  rw [e1] at m1
  rw [e2] at m2
  rw [e0, e1, e2] at hF ⊢
  have hF := fun w => hF w (by omega) (by omega) (by omega) (by omega) hcr
  have hw0 := hw0.trans e0
  have hw1 := hw1.trans e1
  have hw2 := hw2.trans e2
  have HE := Lib.hid (And.intro e0 (And.intro e1 e2))
  have HB := Lib.hid (And.intro (show wrap64 (M0 + M1) = M0 + M1 from wrap64_in _ (by omega)) (show wrap64 (M0 + M1 + M2) = M0 + M1 + M2 from wrap64_in _ (by omega)))
  clear e0 e1 e2
  have hw3 : IntKind.i64.wrap M0 = M0 := IntWalk.i64_in _ (by omega)
  have hw4 : IntKind.i64.wrap (M0 + M1) = M0 + M1 := IntWalk.i64_in _ (by omega)
  have hw5 : IntKind.i64.wrap (M0 + M1 + M2) = M0 + M1 + M2 := IntWalk.i64_in _ (by omega)
  generalize lowN (M0 + M1 + M2) D = q1 at *
  generalize lowD (M0 + M1 + M2) D = q2 at *
  have HY := Lib.hid hY
  have HC := Lib.hid hC
  have HC0 := Lib.hid hC0
  have HC1 := Lib.hid hC1
  have HC2 := Lib.hid hC2
  have HF := Lib.hid hF
  have HG := Lib.hid hp
  have HW := Lib.hid (And.intro hw0 (And.intro hw1 (And.intro hw2 (And.intro hw3 (And.intro hw4 hw5)))))
  obtain ⟨bl, ol, rfl, hbl, d0⟩ := hA.q3 n0
  obtain ⟨c0, c1, c2⟩ := d0 _ (Ext.rfl' w)
  obtain ⟨c3, c4, c5⟩ := hA.q3' n1 _ (Ext.rfl' w)
  obtain ⟨c6, c7, c8⟩ := hA.q3' n2 _ (Ext.rfl' w)
  have hli : (ns.length : Int) ≤ 64 := by omega
  have j0 := fun w => (index3 i0 i1 i2 w).1
  have j1 := fun w => (index3 i0 i1 i2 w).2.1
  have j2 := fun w => (index3 i0 i1 i2 w).2.2
  clear hY hC hC0 hC1 hC2 hF hp hw0 hw1 hw2 hw3 hw4 hw5 d0 p0 p1 p2 hcr b0 b1 b2 b3 m0 m1 m2 g0 g1 g2 n0 n1 n2 hn
  go_enter Try.func63, Try.ntmps63
  go_wp2_with (first | (go_at_call 106; with_reducible refine Calls.mono (HY.out _ (by (repeat (first | with_reducible exact Ext.rfl' _ | with_reducible assumption | with_reducible refine Ext.al ?_ _ | with_reducible refine Ext.dr ?_ | with_reducible refine Ext.st ?_ (by simp) _ | with_reducible refine Ext.tr ?_ (by assumption))))) ?_; rintro e wN ⟨rfl, hbN⟩; have hcN := hbN.ccell; have hfN := hbN.frz; have hsN := hbN.sz; (try simp at hsN); have tN0 := hsN w.heap.size (by omega); have tN1 := hsN (w.heap.size + 1) (by omega); have tN2 := hsN (w.heap.size + 1 + 1) (by omega)) | (go_at_call 73; refine Calls.mono (inRange1_c _ _ _ HG.out _ _ _ _ ?_) ?_; (focus simp); rintro e wI ⟨rfl, hbI⟩; have hEI : Ext wN wI := (by (repeat (first | with_reducible exact Ext.rfl' _ | with_reducible assumption | with_reducible refine Ext.al ?_ _ | with_reducible refine Ext.dr ?_ | with_reducible refine Ext.st ?_ (by simp) _ | with_reducible refine Ext.tr ?_ (by assumption)))); have hcI := hEI.ccell; have hfI := hEI.frz; have h8 := (fun o => hbI.ccell wN.heap.size o (by simp; omega)); have hsI := hbI.sz; (try simp at hsI); have tI0 := hsI w.heap.size (by omega); have tI1 := hsI (w.heap.size + 1) (by omega); have tI2 := hsI (w.heap.size + 1 + 1) (by omega); have tI3 := hsI wN.heap.size (by omega)))
  have hE : Ext w wI := by (repeat (first | with_reducible exact Ext.rfl' _ | with_reducible assumption | with_reducible refine Ext.al ?_ _ | with_reducible refine Ext.dr ?_ | with_reducible refine Ext.st ?_ (by simp) _ | with_reducible refine Ext.tr ?_ (by assumption)))
  have kp : wI.cell? ⟨w.heap.size + 1, 0, none⟩ = some (.int .i64 px) ∧ wI.cell? ⟨w.heap.size + 1, 1, none⟩ = some (.int .i64 py) := by refine ⟨?_, ?_⟩ <;> simp [*, go_sem]
  have kz : Two wI (w.heap.size + 1 + 1) 0 0 := by refine ⟨?_, ?_⟩ <;> simp [*, go_sem]
  have kf : ∀ j, wI.frozen? ⟨w.heap.size + 1 + 1, j, none⟩ = false := fun j => by simp [*, go_sem]
  have k8 : Six wI wN.heap.size ⟨x0, y0⟩ ⟨x1, y1⟩ ⟨x2, y2⟩ := by refine ⟨?_, ?_, ?_, ?_, ?_, ?_⟩ <;> simp [*, go_sem]
  have K := Lib.hid (And.intro kp (And.intro kz (And.intro kf k8)))
  have C := Lib.hid (And.intro c2 (And.intro c5 c8))
  have TI := Lib.hid (And.intro tI1 (And.intro tI2 tI3))
  clear kp kz kf k8 c0 c1 c2 c3 c4 c5 c6 c7 c8 hcN hfN hsN hbN hbI hEI hcI hfI h8 hsI tI0 tI1 tI2 tI3 tN0 tN1 tN2
  go_loopw [10, 11, 12, 35] (fun s _ _ i wr => Ext wI wr ∧ LevRel M0 (M0 + M1) (M0 + M1 + M2) s i) (fun _ _ _ i _ => (3 - intOf i).toNat)
  case atStart => exact ⟨Ext.rfl' _, .inl ⟨rfl, rfl⟩⟩
  case round =>
    obtain ⟨hr, hrel⟩ := hrel
    have hEr := hE.tr hr
    obtain ⟨t1, t2, t3⟩ := TI.out
    obtain ⟨⟨p0, p1⟩, ⟨k0, k1⟩, kf, ⟨o0, o1, o2, o3, o4, o5⟩⟩ := K.out
    obtain ⟨v0, v1, v2⟩ := C.out
    have e0 := (hEr.ccell _ _ hbl).trans v0
    have e1 := (hEr.ccell _ _ hbl).trans v1
    have e2 := (hEr.ccell _ _ hbl).trans v2
    have hblr := hEr.sz _ hbl
    have t1r := hr.sz _ t1
    have t2r := hr.sz _ t2
    have t3r := hr.sz _ t3
    have p0r := (hr.ccell _ _ t1).trans p0
    have p1r := (hr.ccell _ _ t1).trans p1
    have kz : Two wr (w.heap.size + 1 + 1) 0 0 := ⟨(hr.ccell _ _ t2).trans k0, (hr.ccell _ _ t2).trans k1⟩
    have kfr : ∀ j, wr.frozen? ⟨w.heap.size + 1 + 1, j, none⟩ = false := fun j => (hr.frz _ j t2).trans (kf j)
    have o0r := (hr.ccell _ _ t3).trans o0
    have o1r := (hr.ccell _ _ t3).trans o1
    have o2r := (hr.ccell _ _ t3).trans o2
    have o3r := (hr.ccell _ _ t3).trans o3
    have o4r := (hr.ccell _ _ t3).trans o4
    have o5r := (hr.ccell _ _ t3).trans o5
    simp only at o0r o1r o2r o3r o4r o5r
    clear p0 p1 k0 k1 kf o0 o1 o2 o3 o4 o5 v0 v1 v2 t1 t2 t3
    rcases hrel with ⟨rfl, rfl⟩ | ⟨rfl, rfl⟩ | ⟨rfl, rfl⟩ | ⟨rfl, rfl⟩
    · go_wp2_with fail
      obtain ⟨hw0, hw1, hw2, hw3, hw4, hw5⟩ := HW.out
      refine region_grow (by kernel_rfl) (by kernel_rfl) ?_
      repeat (first | go_big_quiet_step (first | (go_at_call 74; with_reducible exact callsGrow (HC0.out _)) | fail) | quiet_step (first | (go_at_call 74; with_reducible exact callsGrow (HC0.out _)) | fail))
      refine wpQuiet_nil ?_
      intro w1 hb
      have hc := hb.ccell
      have hf := hb.frz
      have hs := hb.sz
      (try simp at hs); (try have hs0 := hs w.heap.size (by omega)); (try have hs1 := hs (w.heap.size + 1) (by omega)); (try have hs2 := hs (w.heap.size + 1 + 1) (by omega)); (try have hs3 := hs (w.heap.size + 1 + 1 + 1) (by omega))
      (try simp only [IntWalk.i64_left])
      clear hw0 hw1 hw2 hw3 hw4 hw5
      go_wp2
      exact ⟨⟨by (repeat (first | with_reducible exact Ext.rfl' _ | with_reducible assumption | with_reducible refine Ext.al ?_ _ | with_reducible refine Ext.dr ?_ | with_reducible refine Ext.st ?_ (by simp) _ | with_reducible refine Ext.tr ?_ (by assumption))), .inr (.inl ⟨rfl, by rw [HE.out.1]⟩)⟩, by simp [intOf]⟩
    · go_wp2_with fail
      obtain ⟨hw0, hw1, hw2, hw3, hw4, hw5⟩ := HW.out
      refine region_grow (by kernel_rfl) (by kernel_rfl) ?_
      repeat (first | go_big_quiet_step (first | (go_at_call 74; with_reducible exact callsGrow (HC1.out _)) | fail) | quiet_step (first | (go_at_call 74; with_reducible exact callsGrow (HC1.out _)) | fail))
      refine wpQuiet_nil ?_
      intro w1 hb
      have hc := hb.ccell
      have hf := hb.frz
      have hs := hb.sz
      (try simp at hs); (try have hs0 := hs w.heap.size (by omega)); (try have hs1 := hs (w.heap.size + 1) (by omega)); (try have hs2 := hs (w.heap.size + 1 + 1) (by omega)); (try have hs3 := hs (w.heap.size + 1 + 1 + 1) (by omega))
      (try simp only [IntWalk.i64_left])
      clear hw0 hw1 hw2 hw3 hw4 hw5
      go_wp2
      exact ⟨⟨by (repeat (first | with_reducible exact Ext.rfl' _ | with_reducible assumption | with_reducible refine Ext.al ?_ _ | with_reducible refine Ext.dr ?_ | with_reducible refine Ext.st ?_ (by simp) _ | with_reducible refine Ext.tr ?_ (by assumption))), .inr (.inr (.inl ⟨rfl, by rw [HE.out.2.1, HB.out.1]⟩))⟩, by simp [intOf]⟩
    · go_wp2_with fail
      obtain ⟨hw0, hw1, hw2, hw3, hw4, hw5⟩ := HW.out
      refine region_grow (by kernel_rfl) (by kernel_rfl) ?_
      repeat (first | go_big_quiet_step (first | (go_at_call 74; with_reducible exact callsGrow (HC2.out _)) | fail) | quiet_step (first | (go_at_call 74; with_reducible exact callsGrow (HC2.out _)) | fail))
      refine wpQuiet_nil ?_
      intro w1 hb
      have hc := hb.ccell
      have hf := hb.frz
      have hs := hb.sz
      (try simp at hs); (try have hs0 := hs w.heap.size (by omega)); (try have hs1 := hs (w.heap.size + 1) (by omega)); (try have hs2 := hs (w.heap.size + 1 + 1) (by omega)); (try have hs3 := hs (w.heap.size + 1 + 1 + 1) (by omega))
      (try simp only [IntWalk.i64_left])
      clear hw0 hw1 hw2 hw3 hw4 hw5
      go_wp2
      exact ⟨⟨by (repeat (first | with_reducible exact Ext.rfl' _ | with_reducible assumption | with_reducible refine Ext.al ?_ _ | with_reducible refine Ext.dr ?_ | with_reducible refine Ext.st ?_ (by simp) _ | with_reducible refine Ext.tr ?_ (by assumption))), .inr (.inr (.inr ⟨rfl, by rw [HE.out.2.2, HB.out.2]⟩))⟩, by simp [intOf]⟩
    · obtain ⟨z0', z1'⟩ := kz
      go_wp2_with (first | (go_at_call 74; with_reducible refine Calls.mono (HC.out _) ?_; rintro e w4 ⟨rfl, hb4⟩; have hE4 : Ext wr w4 := (by (repeat (first | with_reducible exact Ext.rfl' _ | with_reducible assumption | with_reducible refine Ext.al ?_ _ | with_reducible refine Ext.dr ?_ | with_reducible refine Ext.st ?_ (by simp) _ | with_reducible refine Ext.tr ?_ (by assumption))))) | (go_at_call 107; with_reducible refine Calls.mono (HF.out _) ?_; rintro e w5 ⟨rfl, hb5⟩; have hE5 : Ext wr w5 := (by (repeat (first | with_reducible exact Ext.rfl' _ | with_reducible assumption | with_reducible refine Ext.al ?_ _ | with_reducible refine Ext.dr ?_ | with_reducible refine Ext.st ?_ (by simp) _ | with_reducible refine Ext.tr ?_ (by assumption)))); have hc5 := hE5.ccell; have hf5 := hE5.frz; have hs5 := hE5.sz _ t2r))
      have hEw : Ext w w5 := hEr.tr hE5
      have kz5 : Two w5 (w.heap.size + 1 + 1) 0 0 := ⟨(hE5.ccell _ _ t2r).trans z0', (hE5.ccell _ _ t2r).trans z1'⟩
      have hS2 := Two.store (w := w5) (b := w.heap.size + 1 + 1) kz5 (q1) (q2)
      have hX2 := Ext.store2 (b := w.heap.size + 1 + 1) hEw (by omega) (q1) (q2)
      show bodyPost _ _ _ _ _ (st2 w5 (w.heap.size + 1 + 1) (q1) (q2))
      generalize st2 w5 (w.heap.size + 1 + 1) (q1) (q2) = W6 at hS2 hX2 ⊢
      obtain ⟨s0, s1⟩ := hS2
      refine bodyPost_ret (v := .tuple #[.agg #[.int .i64 q1, .int .i64 q2], .int .i64 0]) (by simp [results, Try.results63, go_sem, s0, s1]) rfl ⟨rfl, hX2⟩
end
end Go.Proofs.Ytcdbekmcobghbaa

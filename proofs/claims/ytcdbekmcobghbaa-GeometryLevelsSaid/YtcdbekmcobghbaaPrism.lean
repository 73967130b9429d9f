/- Contracts of Place and of both packages' Prism. -/
import Derived.Test.YtcdbekmcobghbaaLev
namespace Go.Proofs.Ytcdbekmcobghbaa
open Go Go.RowKit Go.IntWalk

theorem place_c (x y z : Int) (w : World) :
    Calls Try.prog 109 #[.agg #[.int .i64 x, .int .i64 y, .int .i64 z]] w
      fun e w' => e = .returned (.agg #[.int .i64 x, .int .i64 y]) ∧ Ext w w' := by
  go_enter Try.func109, Try.ntmps109
  go_wp2
  refine bodyPost_ret (v := .agg #[.int .i64 x, .int .i64 y]) (by simp [results, Try.results109, go_sem]) rfl ⟨rfl, ?_⟩
  first | ((repeat (first | with_reducible exact Ext.rfl' _ | with_reducible assumption | with_reducible refine Ext.al ?_ _ | with_reducible refine Ext.dr ?_ | with_reducible refine Ext.st ?_ (by simp) _ | with_reducible refine Ext.tr ?_ (by assumption))); done) | (repeat (first | with_reducible exact Ext.rfl' _ | with_reducible refine Ext.al ?_ _ | with_reducible refine Ext.st ?_ (by simp; omega) _ | with_reducible refine Ext.st ?_ (by simp) _))

theorem within_is_c (n m : Int) (r : Bool) (hr : withinB n (-m) m = r) (w : World) (h0 : 0 ≤ m) (h1 : m ≤ 9000000000000000000) :
    Calls Try.prog 108 #[.int .i64 n, .int .i64 m] w fun e w' => e = .returned (.bool r) ∧ w = w' := by
  rw [← hr]; exact within2_c n m w h0 h1
def prismV (x0 y0 L0 x1 y1 L1 x2 y2 L2 lv : Int) : Int := wrap64 (sizeW (crossZ ⟨x0, y0⟩ ⟨x1, y1⟩ ⟨x2, y2⟩) * (L0 + L1 + L2 - 3 * lv))
section
variable {ns : List I3} {a b c : Int} {i0 i1 i2 : Nat} {x0 y0 L0 x1 y1 L1 x2 y2 L2 : Int}
theorem gprism_yes (T : Three ns a b c i0 i1 i2 x0 y0 L0 x1 y1 L1 x2 y2 L2) (hn : nodesE ns (a, b, c) = 0) (lv : Int) (hlv : -20000 ≤ lv ∧ lv ≤ 20000) (w : World) (A : Option Addr) (cA : Nat) (hA : Row 3 encI w A ns) :
    Calls Try.prog 64 #[.slice A ns.length cA, .agg #[.int .i64 a, .int .i64 b, .int .i64 c], .int .i64 lv] w
      fun e w' => e = .returned (.tuple #[.int .i64 (prismV x0 y0 L0 x1 y1 L1 x2 y2 L2 lv), .int .i64 0]) ∧ Ext w w' := by
  obtain ⟨a0, a1, a2, n0, n1, n2, g0, g1, g2, l0, l1, l2, p0, p1, p2, hcr, hlen⟩ := T
  have hY := fun w' (hw : Ext w w') => nodes_yes ns a b c w' A cA (hA.ext hw) hn
  rw [p0, p1, p2] at hY
  simp only at hY
  have hC := fun w => cross_c x0 y0 x1 y1 x2 y2 w
  rw [crossW_good g0 g1 g2] at hC
  have hi0 := (List.getElem?_eq_some_iff.1 n0).1
  have hi1 := (List.getElem?_eq_some_iff.1 n1).1
  have hi2 := (List.getElem?_eq_some_iff.1 n2).1
  subst a0 a1 a2
  have hS := size_c (crossZ ⟨x0, y0⟩ ⟨x1, y1⟩ ⟨x2, y2⟩)
  obtain ⟨q, hq⟩ : ∃ q, prismV x0 y0 L0 x1 y1 L1 x2 y2 L2 lv = q := ⟨_, rfl⟩
  rw [hq]
  unfold prismV at hq
  have hb0 := crossZ_bound g0 g1 g2
  have hsz : 0 ≤ sizeW (crossZ ⟨x0, y0⟩ ⟨x1, y1⟩ ⟨x2, y2⟩) ∧ sizeW (crossZ ⟨x0, y0⟩ ⟨x1, y1⟩ ⟨x2, y2⟩) ≤ 8000000000000 := by
    rw [sizeW_abs (by omega) (by omega)]; omega
  generalize sizeW (crossZ ⟨x0, y0⟩ ⟨x1, y1⟩ ⟨x2, y2⟩) = S at hq hS hsz
  generalize crossZ ⟨x0, y0⟩ ⟨x1, y1⟩ ⟨x2, y2⟩ = z at hC hS
  have HQ := Lib.hid hq
  have HY := Lib.hid hY
  have HC := Lib.hid hC
  have HS := Lib.hid hS
  obtain ⟨bl, ol, rfl, hbl, d0⟩ := hA.q3 n0
  have d1 := hA.q3' n1
  have d2 := hA.q3' n2
  have D0 := Lib.hid d0
  have D1 := Lib.hid d1
  have D2 := Lib.hid d2
  have hs1 : IntKind.i64.wrap (L0 + L1) = L0 + L1 := IntWalk.i64_in _ (by omega)
  have hs2 : IntKind.i64.wrap (L0 + L1 + L2) = L0 + L1 + L2 := IntWalk.i64_in _ (by omega)
  have HS1 := Lib.hid hs1
  have HS2 := Lib.hid hs2
  have hli : (ns.length : Int) ≤ 64 := by omega
  clear hq hY hC hS d0 d1 d2 p0 p1 p2 hcr hs1 hs2 hb0 g0 g1 g2 n0 n1 n2 hn
  have HLV := Lib.hid (show withinB lv (-20000) 20000 = true by simp [withinB]; omega)
  go_enter Try.func64, Try.ntmps64
  go_wp2_with (first | (go_at_call 106; with_reducible refine Calls.mono (HY.out _ (by (repeat (first | with_reducible exact Ext.rfl' _ | with_reducible assumption | with_reducible refine Ext.al ?_ _ | with_reducible refine Ext.dr ?_ | with_reducible refine Ext.st ?_ (by simp) _ | with_reducible refine Ext.tr ?_ (by assumption))))) ?_; rintro e w1 ⟨rfl, hb⟩; have hc := hb.ccell; have hf := hb.frz; have hs := hb.sz; (try simp at hs); (try have hs0 := hs w.heap.size (by omega)); (try have hs1 := hs (w.heap.size + 1) (by omega)); (try have hs2 := hs (w.heap.size + 1 + 1) (by omega)); (try have hs3 := hs (w.heap.size + 1 + 1 + 1) (by omega))) | (go_at_call 108; refine Calls.mono (within_is_c _ _ _ HLV.out _ (by omega) (by omega)) ?_; rintro e w' ⟨rfl, rfl⟩))
  have hE : Ext w w1 := by (repeat (first | with_reducible exact Ext.rfl' _ | with_reducible assumption | with_reducible refine Ext.al ?_ _ | with_reducible refine Ext.dr ?_ | with_reducible refine Ext.st ?_ (by simp) _ | with_reducible refine Ext.tr ?_ (by assumption)))
  obtain ⟨c0, c1, c2⟩ := D0.out _ (Ext.rfl' w)
  obtain ⟨c3, c4, c5⟩ := D1.out _ (Ext.rfl' w)
  obtain ⟨c6, c7, c8⟩ := D2.out _ (Ext.rfl' w)
  have hzl := hE.sz _ hbl
  have hs1 := HS1.out
  have hs2 := HS2.out
  refine region_grow (by kernel_rfl) (by kernel_rfl) ?_
  repeat (first | go_big_quiet_step (first  | fail) | quiet_step (first  | fail))
  refine wpQuiet_nil ?_
  intro w1 hb
  have hc := hb.ccell
  have hf := hb.frz
  have hs := hb.sz
  (try simp at hs); (try have hs0 := hs w.heap.size (by omega)); (try have hs1 := hs (w.heap.size + 1) (by omega)); (try have hs2 := hs (w.heap.size + 1 + 1) (by omega)); (try have hs3 := hs (w.heap.size + 1 + 1 + 1) (by omega))
  (try simp only [IntWalk.i64_left])
  clear hs1 hs2
  go_wp2_with (first | (go_at_call 74; with_reducible refine Calls.mono (HC.out _) ?_; rintro e w1 ⟨rfl, hb⟩; have hc := hb.ccell; have hf := hb.frz; have hs := hb.sz; (try simp at hs); (try have hs0 := hs w.heap.size (by omega)); (try have hs1 := hs (w.heap.size + 1) (by omega)); (try have hs2 := hs (w.heap.size + 1 + 1) (by omega)); (try have hs3 := hs (w.heap.size + 1 + 1 + 1) (by omega))) | (go_at_call 90; refine Calls.mono (HS.out _) ?_; rintro e w' ⟨rfl, rfl⟩))
  go_ret2
  exact ⟨by rw [HQ.out]; rfl, by (repeat (first | with_reducible exact Ext.rfl' _ | with_reducible assumption | with_reducible refine Ext.al ?_ _ | with_reducible refine Ext.dr ?_ | with_reducible refine Ext.st ?_ (by simp) _ | with_reducible refine Ext.tr ?_ (by assumption)))⟩

theorem gprism_no (ns : List I3) (a b c lv r : Int) (w : World) (A : Option Addr) (cA : Nat) (hl : ns.length ≤ maxLen) (hA : Row 3 encI w A ns) (hr : nodesE ns (a, b, c) = r) (h0 : r ≠ 0) :
    Calls Try.prog 64 #[.slice A ns.length cA, .agg #[.int .i64 a, .int .i64 b, .int .i64 c], .int .i64 lv] w
      fun e w' => e = .returned (.tuple #[.int .i64 0, .int .i64 r]) ∧ Ext w w' := by
  have HY := Lib.hid (fun w' (hw : Ext w w') => nodes_no ns a b c w' A cA hl (hA.ext hw) r hr h0)
  have h' : (r == 0) = false := by simp [h0]
  clear hr
  go_enter Try.func64, Try.ntmps64
  go_wp2_with (first | (go_at_call 106; with_reducible refine Calls.mono (HY.out _ (by (repeat (first | with_reducible exact Ext.rfl' _ | with_reducible assumption | with_reducible refine Ext.al ?_ _ | with_reducible refine Ext.dr ?_ | with_reducible refine Ext.st ?_ (by simp) _ | with_reducible refine Ext.tr ?_ (by assumption))))) ?_; rintro e w1 ⟨rfl, hb⟩; have hc := hb.ccell; have hf := hb.frz; have hs := hb.sz; (try simp at hs); (try have hs0 := hs w.heap.size (by omega)); (try have hs1 := hs (w.heap.size + 1) (by omega)); (try have hs2 := hs (w.heap.size + 1 + 1) (by omega)); (try have hs3 := hs (w.heap.size + 1 + 1 + 1) (by omega))))
  go_ret2
  exact ⟨rfl, by (repeat (first | with_reducible exact Ext.rfl' _ | with_reducible assumption | with_reducible refine Ext.al ?_ _ | with_reducible refine Ext.dr ?_ | with_reducible refine Ext.st ?_ (by simp) _ | with_reducible refine Ext.tr ?_ (by assumption)))⟩
theorem gprism_far (ns : List I3) (a b c lv : Int) (w : World) (A : Option Addr) (cA : Nat) (hA : Row 3 encI w A ns) (hn : nodesE ns (a, b, c) = 0) (hlv : withinB lv (-20000) 20000 = false) :
    Calls Try.prog 64 #[.slice A ns.length cA, .agg #[.int .i64 a, .int .i64 b, .int .i64 c], .int .i64 lv] w
      fun e w' => e = .returned (.tuple #[.int .i64 0, .int .i64 2]) ∧ Ext w w' := by
  have HY := Lib.hid (fun w' (hw : Ext w w') => nodes_yes ns a b c w' A cA (hA.ext hw) hn)
  have HLV := Lib.hid hlv
  clear hn hlv
  go_enter Try.func64, Try.ntmps64
  go_wp2_with (first | (go_at_call 106; with_reducible refine Calls.mono (HY.out _ (by (repeat (first | with_reducible exact Ext.rfl' _ | with_reducible assumption | with_reducible refine Ext.al ?_ _ | with_reducible refine Ext.dr ?_ | with_reducible refine Ext.st ?_ (by simp) _ | with_reducible refine Ext.tr ?_ (by assumption))))) ?_; rintro e w1 ⟨rfl, hb⟩; have hc := hb.ccell; have hf := hb.frz; have hs := hb.sz; (try simp at hs); (try have hs0 := hs w.heap.size (by omega)); (try have hs1 := hs (w.heap.size + 1) (by omega)); (try have hs2 := hs (w.heap.size + 1 + 1) (by omega)); (try have hs3 := hs (w.heap.size + 1 + 1 + 1) (by omega))) | (go_at_call 108; refine Calls.mono (within_is_c _ _ _ HLV.out _ (by omega) (by omega)) ?_; rintro e w' ⟨rfl, rfl⟩))
  go_ret2
  exact ⟨rfl, by (repeat (first | with_reducible exact Ext.rfl' _ | with_reducible assumption | with_reducible refine Ext.al ?_ _ | with_reducible refine Ext.dr ?_ | with_reducible refine Ext.st ?_ (by simp) _ | with_reducible refine Ext.tr ?_ (by assumption)))⟩

theorem rprism_c (T : Three ns a b c i0 i1 i2 x0 y0 L0 x1 y1 L1 x2 y2 L2) (lv : Int) (hlv : -20000 ≤ lv ∧ lv ≤ 20000) (w : World) (A : Option Addr) (cA : Nat) (hA : Row 3 encI w A ns) :
    Calls Try.prog 68 #[.slice A ns.length cA, .agg #[.int .i64 a, .int .i64 b, .int .i64 c], .int .i64 lv] w
      fun e w' => e = .returned (.int .i64 (prismV x0 y0 L0 x1 y1 L1 x2 y2 L2 lv)) ∧ Ext w w' := by
  obtain ⟨a0, a1, a2, n0, n1, n2, g0, g1, g2, l0, l1, l2, p0, p1, p2, hcr, hlen⟩ := T
  have hC := fun w => rcross_c x0 y0 x1 y1 x2 y2 w
  rw [crossW_good g0 g1 g2] at hC
  have hi0 := (List.getElem?_eq_some_iff.1 n0).1
  have hi1 := (List.getElem?_eq_some_iff.1 n1).1
  have hi2 := (List.getElem?_eq_some_iff.1 n2).1
  subst a0 a1 a2
  have hS := abs_c (crossZ ⟨x0, y0⟩ ⟨x1, y1⟩ ⟨x2, y2⟩)
  obtain ⟨q, hq⟩ : ∃ q, prismV x0 y0 L0 x1 y1 L1 x2 y2 L2 lv = q := ⟨_, rfl⟩
  rw [hq]
  unfold prismV at hq
  have hb0 := crossZ_bound g0 g1 g2
  rw [absW_abs (by omega) (by omega), ← sizeW_abs (by omega) (by omega)] at hS
  generalize sizeW (crossZ ⟨x0, y0⟩ ⟨x1, y1⟩ ⟨x2, y2⟩) = S at hq hS
  generalize crossZ ⟨x0, y0⟩ ⟨x1, y1⟩ ⟨x2, y2⟩ = z at hC hS
  have HQ := Lib.hid hq
  have HC := Lib.hid hC
  have HS := Lib.hid hS
  have HP0 := Lib.hid (fun w => place_c x0 y0 L0 w)
  have HP1 := Lib.hid (fun w => place_c x1 y1 L1 w)
  have HP2 := Lib.hid (fun w => place_c x2 y2 L2 w)
  obtain ⟨bl, ol, rfl, hbl, d0⟩ := hA.q3 n0
  obtain ⟨c0, c1, c2⟩ := d0 _ (Ext.rfl' w)
  obtain ⟨c3, c4, c5⟩ := hA.q3' n1 _ (Ext.rfl' w)
  obtain ⟨c6, c7, c8⟩ := hA.q3' n2 _ (Ext.rfl' w)
  have hs1 : IntKind.i64.wrap (L0 + L1) = L0 + L1 := IntWalk.i64_in _ (by omega)
  have hs2 : IntKind.i64.wrap (L0 + L1 + L2) = L0 + L1 + L2 := IntWalk.i64_in _ (by omega)
  have hs3 : IntKind.i64.wrap (3 * lv) = 3 * lv := IntWalk.i64_in _ (by omega)
  have hs4 : IntKind.i64.wrap (L0 + L1 + L2 - 3 * lv) = L0 + L1 + L2 - 3 * lv := IntWalk.i64_in _ (by omega)
  have HS1 := Lib.hid (And.intro hs1 (And.intro hs2 (And.intro hs3 hs4)))
  have hli : (ns.length : Int) ≤ 64 := by omega
  clear hq hC hS d0 p0 p1 p2 hcr hs1 hs2 hs3 hs4 hb0 g0 g1 g2 n0 n1 n2
  go_enter Try.func68, Try.ntmps68
  go_wp2_with fail
  refine region_grow (by kernel_rfl) (by kernel_rfl) ?_
  repeat (first | go_big_quiet_step (first | (go_at_call 109; with_reducible exact callsGrow (HP0.out _)) | (go_at_call 109; with_reducible exact callsGrow (HP1.out _)) | (go_at_call 109; with_reducible exact callsGrow (HP2.out _)) | (go_at_call 27; with_reducible exact callsGrow (HC.out _)) | (go_at_call 71; exact callsStay (HS.out _)) | fail) | quiet_step (first | (go_at_call 109; with_reducible exact callsGrow (HP0.out _)) | (go_at_call 109; with_reducible exact callsGrow (HP1.out _)) | (go_at_call 109; with_reducible exact callsGrow (HP2.out _)) | (go_at_call 27; with_reducible exact callsGrow (HC.out _)) | (go_at_call 71; exact callsStay (HS.out _)) | fail))
  refine wpQuiet_nil ?_
  intro w1 hb
  have hc := hb.ccell
  have hf := hb.frz
  have hs := hb.sz
  (try simp at hs); (try have hs0 := hs w.heap.size (by omega)); (try have hs1 := hs (w.heap.size + 1) (by omega)); (try have hs2 := hs (w.heap.size + 1 + 1) (by omega)); (try have hs3 := hs (w.heap.size + 1 + 1 + 1) (by omega))
  (try simp only [IntWalk.i64_left])
  go_wp2_with fail
  have hzl : bl < w1.heap.size := by have := hs0; omega
  obtain ⟨hs1, hs2, hs3, hs4⟩ := HS1.out
  refine region_grow (by kernel_rfl) (by kernel_rfl) ?_
  repeat (first | go_big_quiet_step (first  | fail) | quiet_step (first  | fail))
  refine wpQuiet_nil ?_
  intro w1 hb
  have hc := hb.ccell
  have hf := hb.frz
  have hs := hb.sz
  (try simp at hs); (try have hs0 := hs w.heap.size (by omega)); (try have hs1 := hs (w.heap.size + 1) (by omega)); (try have hs2 := hs (w.heap.size + 1 + 1) (by omega)); (try have hs3 := hs (w.heap.size + 1 + 1 + 1) (by omega))
  (try simp only [IntWalk.i64_left])
  clear hs1 hs2 hs3 hs4
  go_wp2
  go_ret
  exact ⟨ret_int (by rw [← HQ.out]), by (repeat (first | with_reducible exact Ext.rfl' _ | with_reducible assumption | with_reducible refine Ext.al ?_ _ | with_reducible refine Ext.dr ?_ | with_reducible refine Ext.st ?_ (by simp) _ | with_reducible refine Ext.tr ?_ (by assumption)))⟩
end
end Go.Proofs.Ytcdbekmcobghbaa

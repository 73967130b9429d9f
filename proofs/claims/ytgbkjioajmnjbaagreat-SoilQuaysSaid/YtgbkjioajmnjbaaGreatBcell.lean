/- Contracts about cells of a grid, and about two grids. -/
import Derived.Test.YtgbkjioajmnjbaaGreatBown
import Derived.Test.YtgbkjioajmnjbaaGreatBrcheck
import Derived.Test.YtgbkjioajmnjbaaGreatBeq
namespace Go.Proofs.YtgbkjioajmnjbaaGreat
open Go Go.RowKit Go.IntWalk

theorem isCell_c (g : Gr) (i : Int) (w : World) (A : Option Addr) (c : Nat) (hl : g.L.length ≤ maxLen) :
    Calls Tryz.prog 100 #[.agg #[.int .i64 g.X, .int .i64 g.Y, .int .i64 g.S, .int .i64 g.C, .int .i64 g.R, .slice A g.L.length c], .int .i64 i] w fun e w' => e = .returned (.bool (decide (0 ≤ i) && decide (i < g.L.length))) ∧ Ext w w' := by
  unfold maxLen at hl
  have H := Lib.hid (fun w => bwithin_c i 0 ((g.L.length : Int) - 1) w)
  rw [show withinB i 0 ((g.L.length : Int) - 1) = (decide (0 ≤ i) && decide (i < g.L.length)) by unfold withinB; congr 1; rw [decide_eq_decide]; omega] at H
  go_enter Tryz.func100, Tryz.ntmps100
  go_wp2_with (first | (go_at_call 62; with_reducible refine Calls.mono (H.out _) ?_; rintro e w' ⟨rfl, rfl⟩))
  go_ret; exact ⟨rfl, by (repeat (first | with_reducible exact Ext.rfl' _ | with_reducible assumption | with_reducible refine Ext.al ?_ _ | with_reducible refine Ext.dr ?_ | with_reducible refine Ext.st ?_ (by simp) _ | with_reducible refine Ext.tr ?_ (by assumption)))⟩
theorem there_c (g : Gr) (i : Int) (w : World) (A : Option Addr) (c : Nat) :
    Calls Tryz.prog 53 #[.agg #[.int .i64 g.X, .int .i64 g.Y, .int .i64 g.S, .int .i64 g.C, .int .i64 g.R, .slice A g.L.length c], .int .i64 i] w fun e w' => e = .returned (.bool (decide (0 ≤ i) && decide (i < g.L.length))) ∧ Ext w w' := by
  by_cases h : 0 ≤ i
  · rw [decide_eq_true h]
    go_enter Tryz.func53, Tryz.ntmps53
    go_wp2
    go_ret
    exact ⟨rfl, by (repeat (first | with_reducible exact Ext.rfl' _ | with_reducible assumption | with_reducible refine Ext.al ?_ _ | with_reducible refine Ext.dr ?_ | with_reducible refine Ext.st ?_ (by simp) _ | with_reducible refine Ext.tr ?_ (by assumption)))⟩
  · rw [decide_eq_false h]
    have h' : decide (0 ≤ i) = false := decide_eq_false h
    go_enter Tryz.func53, Tryz.ntmps53
    go_wp2
    go_ret
    exact ⟨rfl, by (repeat (first | with_reducible exact Ext.rfl' _ | with_reducible assumption | with_reducible refine Ext.al ?_ _ | with_reducible refine Ext.dr ?_ | with_reducible refine Ext.st ?_ (by simp) _ | with_reducible refine Ext.tr ?_ (by assumption)))⟩
theorem known_c (g : Gr) (k : Nat) (w : World) (A : Option Addr) (c : Nat) (hk : k < g.L.length) (hA : Row 1 encZ w A g.L) :
    Calls Tryz.prog 35 #[.agg #[.int .i64 g.X, .int .i64 g.Y, .int .i64 g.S, .int .i64 g.C, .int .i64 g.R, .slice A g.L.length c], .int .i64 k] w fun e w' => e = .returned (.bool (knB g.L k)) ∧ Ext w w' := by
  unfold knB
  rw [gi_lt g.L k hk]
  obtain ⟨b, off, rfl, hb0, hcell⟩ := hA.p1 hk
  have e0 := hcell _ (Ext.rfl' w)
  clear hcell
  have H := Lib.hid (fun w A c => there_c g (k : Int) w A c)
  rw [show (decide (0 ≤ (k : Int)) && decide ((k : Int) < g.L.length)) = true by simp; omega] at H
  generalize g.L[k] = v at *
  go_enter Tryz.func35, Tryz.ntmps35
  go_wp2_with (first | (go_at_call 53; with_reducible refine Calls.mono (H.out _ _ _) ?_; rintro e w1 ⟨rfl, hb⟩; have hc := hb.ccell; have hf := hb.frz; have hs := hb.sz; (try simp at hs); (try have hs0 := hs w.heap.size (by omega)); (try have hs1 := hs (w.heap.size + 1) (by omega)); (try have hs2 := hs (w.heap.size + 1 + 1) (by omega)); (try have hs3 := hs (w.heap.size + 1 + 1 + 1) (by omega))))
  go_ret
  exact ⟨ret_bool (by rw [Bool.eq_iff_iff]; simp), by (repeat (first | with_reducible exact Ext.rfl' _ | with_reducible assumption | with_reducible refine Ext.al ?_ _ | with_reducible refine Ext.dr ?_ | with_reducible refine Ext.st ?_ (by simp) _ | with_reducible refine Ext.tr ?_ (by assumption)))⟩
theorem known_no_c (g : Gr) (i : Int) (w : World) (A : Option Addr) (c : Nat) (hi : i < 0 ∨ g.L.length ≤ i) :
    Calls Tryz.prog 35 #[.agg #[.int .i64 g.X, .int .i64 g.Y, .int .i64 g.S, .int .i64 g.C, .int .i64 g.R, .slice A g.L.length c], .int .i64 i] w fun e w' => e = .returned (.bool false) ∧ Ext w w' := by
  have H := Lib.hid (fun w A c => there_c g i w A c)
  rw [show (decide (0 ≤ i) && decide (i < g.L.length)) = false by simp; omega] at H
  go_enter Tryz.func35, Tryz.ntmps35
  go_wp2_with (first | (go_at_call 53; with_reducible refine Calls.mono (H.out _ _ _) ?_; rintro e w1 ⟨rfl, hb⟩; have hc := hb.ccell; have hf := hb.frz; have hs := hb.sz; (try simp at hs); (try have hs0 := hs w.heap.size (by omega)); (try have hs1 := hs (w.heap.size + 1) (by omega)); (try have hs2 := hs (w.heap.size + 1 + 1) (by omega)); (try have hs3 := hs (w.heap.size + 1 + 1 + 1) (by omega))))
  go_ret
  exact ⟨rfl, by (repeat (first | with_reducible exact Ext.rfl' _ | with_reducible assumption | with_reducible refine Ext.al ?_ _ | with_reducible refine Ext.dr ?_ | with_reducible refine Ext.st ?_ (by simp) _ | with_reducible refine Ext.tr ?_ (by assumption)))⟩
end Go.Proofs.YtgbkjioajmnjbaaGreat

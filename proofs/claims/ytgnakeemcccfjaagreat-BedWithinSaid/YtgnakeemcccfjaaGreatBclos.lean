/- The contracts of the closures that ask a cell, of notBelow. -/
import Derived.Test.YtgnakeemcccfjaaGreatBnear
import Derived.Test.YtgnakeemcccfjaaGreatTtail
namespace Go.Proofs.YtgnakeemcccfjaaGreat
open Go Go.RowKit Go.IntWalk

/-- Block p is the box of a grid. -/
def BoxG (w : World) (p : Nat) (g : Gr) (A : Option Addr) (c : Nat) : Prop :=
  p < w.heap.size ∧ CellsAt w p 0 [.int .i64 g.X, .int .i64 g.Y, .int .i64 g.S, .int .i64 g.C, .int .i64 g.R, .slice A g.L.length c]
theorem BoxG.ext {w w' : World} {p : Nat} {g : Gr} {A : Option Addr} {c : Nat} (h : BoxG w p g A c) (hw : Ext w w') : BoxG w' p g A c := ⟨hw.sz _ h.1, h.2.ext hw h.1⟩
def nbP (g : Gr) (lev : Int) (k : Nat) : Bool := knB g.L k && decide (lev ≤ gi g.L k)
def naP (g : Gr) (lev : Int) (k : Nat) : Bool := knB g.L k && decide (gi g.L k ≤ lev)
set_option maxHeartbeats 2000000 in
theorem notBelow1_c (g : Gr) (lev : Int) (k p q : Nat) (w : World) (A : Option Addr) (c : Nat) (hk : k < g.L.length) (hl : g.L.length ≤ 1100) (hA : Row 1 encZ w A g.L) (hp : BoxG w p g A c) (hq : w.cell? ⟨q, 0, none⟩ = some (.int .i64 lev)) (hqz : q < w.heap.size) :
    Calls Tryz.prog 95 #[.int .i64 k, .pointer (some ⟨p, 0, none⟩), .pointer (some ⟨q, 0, none⟩)] w fun e w' => e = .returned (.bool (nbP g lev k)) ∧ Ext w w' := by
  have HK := Lib.hid (fun w' (hw : Ext w w') => isKnown_c g k w' A c hk (by unfold maxLen; omega) (hA.ext hw))
  unfold nbP
  obtain ⟨hpz, hp⟩ := hp
  obtain ⟨g0, g1, g2, g3, g4, g5⟩ := hp.six
  cases hkn : knB g.L k
  · rw [hkn] at HK
    clear hkn hp
    go_enter Tryz.func95, Tryz.ntmps95
    go_upto_region 1 with fail
    refine region_grow (by kernel_rfl) (by kernel_rfl) ?_
    repeat (first | go_big_quiet_step (first | (go_at_call 35; with_reducible exact callsGrow (HK.out _ (Grow.ok _))) | fail) | quiet_step (first | (go_at_call 35; with_reducible exact callsGrow (HK.out _ (Grow.ok _))) | fail))
    refine wpQuiet_nil ?_
    intro w1 hb
    have hc := hb.ccell
    have hf := hb.frz
    have hs := hb.sz
    (try simp at hs); (try have hs0 := hs w.heap.size (by omega)); (try have hs1 := hs (w.heap.size + 1) (by omega)); (try have hs2 := hs (w.heap.size + 1 + 1) (by omega)); (try have hs3 := hs (w.heap.size + 1 + 1 + 1) (by omega))
    (try simp only [IntWalk.i64_left])
    go_wp2
    go_ret
    exact ⟨rfl, by (repeat (first | with_reducible exact Ext.rfl' _ | with_reducible assumption | with_reducible refine Ext.al ?_ _ | with_reducible refine Ext.dr ?_ | with_reducible refine Ext.st ?_ (by simp) _ | with_reducible refine Ext.tr ?_ (by assumption)))⟩
  · rw [hkn] at HK
    obtain ⟨b, off, rfl, hb0, hcell⟩ := hA.p1 hk
    have e6 := hcell _ (Ext.rfl' w)
    rw [← gi_lt] at e6
    generalize gi g.L k = v at *
    have hkz : (0 : Int) ≤ k := by omega
    clear hkn hp hcell
    go_enter Tryz.func95, Tryz.ntmps95
    go_upto_region 1 with fail
    refine region_grow (by kernel_rfl) (by kernel_rfl) ?_
    repeat (first | go_big_quiet_step (first | (go_at_call 35; with_reducible exact callsGrow (HK.out _ (Grow.ok _))) | fail) | quiet_step (first | (go_at_call 35; with_reducible exact callsGrow (HK.out _ (Grow.ok _))) | fail))
    refine wpQuiet_nil ?_
    intro w1 hb
    have hc := hb.ccell
    have hf := hb.frz
    have hs := hb.sz
    (try simp at hs); (try have hs0 := hs w.heap.size (by omega)); (try have hs1 := hs (w.heap.size + 1) (by omega)); (try have hs2 := hs (w.heap.size + 1 + 1) (by omega)); (try have hs3 := hs (w.heap.size + 1 + 1 + 1) (by omega))
    (try simp only [IntWalk.i64_left])
    go_wp2
    go_ret
    exact ⟨rfl, by (repeat (first | with_reducible exact Ext.rfl' _ | with_reducible assumption | with_reducible refine Ext.al ?_ _ | with_reducible refine Ext.dr ?_ | with_reducible refine Ext.st ?_ (by simp) _ | with_reducible refine Ext.tr ?_ (by assumption)))⟩
set_option maxHeartbeats 2000000 in
theorem notAbove1_c (g : Gr) (lev : Int) (k p q : Nat) (w : World) (A : Option Addr) (c : Nat) (hk : k < g.L.length) (hl : g.L.length ≤ 1100) (hA : Row 1 encZ w A g.L) (hp : BoxG w p g A c) (hq : w.cell? ⟨q, 0, none⟩ = some (.int .i64 lev)) (hqz : q < w.heap.size) :
    Calls Tryz.prog 94 #[.int .i64 k, .pointer (some ⟨p, 0, none⟩), .pointer (some ⟨q, 0, none⟩)] w fun e w' => e = .returned (.bool (naP g lev k)) ∧ Ext w w' := by
  have HK := Lib.hid (fun w' (hw : Ext w w') => isKnown_c g k w' A c hk (by unfold maxLen; omega) (hA.ext hw))
  unfold naP
  obtain ⟨hpz, hp⟩ := hp
  obtain ⟨g0, g1, g2, g3, g4, g5⟩ := hp.six
  cases hkn : knB g.L k
  · rw [hkn] at HK
    clear hkn hp
    go_enter Tryz.func94, Tryz.ntmps94
    go_upto_region 1 with fail
    refine region_grow (by kernel_rfl) (by kernel_rfl) ?_
    repeat (first | go_big_quiet_step (first | (go_at_call 35; with_reducible exact callsGrow (HK.out _ (Grow.ok _))) | fail) | quiet_step (first | (go_at_call 35; with_reducible exact callsGrow (HK.out _ (Grow.ok _))) | fail))
    refine wpQuiet_nil ?_
    intro w1 hb
    have hc := hb.ccell
    have hf := hb.frz
    have hs := hb.sz
    (try simp at hs); (try have hs0 := hs w.heap.size (by omega)); (try have hs1 := hs (w.heap.size + 1) (by omega)); (try have hs2 := hs (w.heap.size + 1 + 1) (by omega)); (try have hs3 := hs (w.heap.size + 1 + 1 + 1) (by omega))
    (try simp only [IntWalk.i64_left])
    go_wp2
    go_ret
    exact ⟨rfl, by (repeat (first | with_reducible exact Ext.rfl' _ | with_reducible assumption | with_reducible refine Ext.al ?_ _ | with_reducible refine Ext.dr ?_ | with_reducible refine Ext.st ?_ (by simp) _ | with_reducible refine Ext.tr ?_ (by assumption)))⟩
  · rw [hkn] at HK
    obtain ⟨b, off, rfl, hb0, hcell⟩ := hA.p1 hk
    have e6 := hcell _ (Ext.rfl' w)
    rw [← gi_lt] at e6
    generalize gi g.L k = v at *
    have hkz : (0 : Int) ≤ k := by omega
    clear hkn hp hcell
    go_enter Tryz.func94, Tryz.ntmps94
    go_upto_region 1 with fail
    refine region_grow (by kernel_rfl) (by kernel_rfl) ?_
    repeat (first | go_big_quiet_step (first | (go_at_call 35; with_reducible exact callsGrow (HK.out _ (Grow.ok _))) | fail) | quiet_step (first | (go_at_call 35; with_reducible exact callsGrow (HK.out _ (Grow.ok _))) | fail))
    refine wpQuiet_nil ?_
    intro w1 hb
    have hc := hb.ccell
    have hf := hb.frz
    have hs := hb.sz
    (try simp at hs); (try have hs0 := hs w.heap.size (by omega)); (try have hs1 := hs (w.heap.size + 1) (by omega)); (try have hs2 := hs (w.heap.size + 1 + 1) (by omega)); (try have hs3 := hs (w.heap.size + 1 + 1 + 1) (by omega))
    (try simp only [IntWalk.i64_left])
    go_wp2
    go_ret
    exact ⟨rfl, by (repeat (first | with_reducible exact Ext.rfl' _ | with_reducible assumption | with_reducible refine Ext.al ?_ _ | with_reducible refine Ext.dr ?_ | with_reducible refine Ext.st ?_ (by simp) _ | with_reducible refine Ext.tr ?_ (by assumption)))⟩
end Go.Proofs.YtgnakeemcccfjaaGreat

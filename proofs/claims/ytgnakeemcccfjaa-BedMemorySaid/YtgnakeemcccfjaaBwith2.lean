/- withLevels with join's closure. -/
import Derived.Test.YtgnakeemcccfjaaBwith
namespace Go.Proofs.Ytgnakeemcccfjaa
open Go Go.RowKit Go.IntWalk

set_option maxHeartbeats 8000000 in
theorem withJoin_c (g : Gr) (f : Nat → Int) (p1 p2 p3 : Nat) (w : World) (A : Option Addr) (c : Nat) (hl : g.L.length ≤ 2000)
    (hP : ∀ k, k < g.L.length → ∀ w', Ext w w' → Calls Try.prog 126 #[.int .i64 (k : Int), .pointer (some ⟨p1, 0, none⟩), .pointer (some ⟨p2, 0, none⟩), .pointer (some ⟨p3, 0, none⟩)] w' fun e w'' => e = .returned (.int .i64 (f k)) ∧ Ext w' w'') :
    Calls Try.prog 69 #[.agg #[.int .i64 g.X, .int .i64 g.Y, .int .i64 g.S, .int .i64 g.C, .int .i64 g.R, .slice A g.L.length c], (.func (.func 126) #[] #[.pointer (some ⟨p1, 0, none⟩), .pointer (some ⟨p2, 0, none⟩), .pointer (some ⟨p3, 0, none⟩)])] w fun e w' => OutG w.heap.size (reL g f) e w' ∧ Ext w w' := by
  have HP := Lib.hid hP
  obtain ⟨i0, hi, hz0, hz1, hz2⟩ := info_parts infoZ
  clear hP
  go_enter Try.func69, Try.ntmps69
  go_upto_region 2 with fail
  refine wp_name (fun W hW => ?_)
  have hE : Ext w W := by rw [hW]; (repeat (first | with_reducible exact Ext.rfl' _ | with_reducible assumption | with_reducible refine Ext.al ?_ _ | with_reducible refine Ext.dr ?_ | with_reducible refine Ext.st ?_ (by simp) _ | with_reducible refine Ext.tr ?_ (by assumption)))
  have HW := Lib.hid hW
  clear hW
  have ko0 : CellsAt W (w.heap.size + 1 + 1) 0 [.int .i64 g.X, .int .i64 g.Y, .int .i64 g.S, .int .i64 g.C, .int .i64 g.R, .slice A g.L.length c] := by
    rw [HW.out]
    refine cells_six ⟨?_, ?_, ?_, ?_, ?_, ?_⟩ <;> simp [go_sem]
  have kg0 : CellsAt W w.heap.size 0 [.int .i64 g.X, .int .i64 g.Y, .int .i64 g.S, .int .i64 g.C, .int .i64 g.R, .slice A g.L.length c] := by
    rw [HW.out]
    refine cells_six ⟨?_, ?_, ?_, ?_, ?_, ?_⟩ <;> simp [World.cell?_alloc_past, World.cell?_alloc_new, go_sem]
  have kr0 : CellsAt W (w.heap.size + 1) 0 [.int .i64 0, .int .i64 0, .int .i64 0, .int .i64 0, .int .i64 0, .slice none 0 0] := by
    rw [HW.out]
    refine cells_six ⟨?_, ?_, ?_, ?_, ?_, ?_⟩ <;> simp [World.cell?_alloc_past, go_sem]
  have fr0 : ∀ o, W.frozen? ⟨w.heap.size + 1, o, none⟩ = false := by intro o; rw [HW.out]; simp [go_sem]
  have fo0 : ∀ o, W.frozen? ⟨w.heap.size + 1 + 1, o, none⟩ = false := by intro o; rw [HW.out]; simp [go_sem]
  have sz0 : W.heap.size = w.heap.size + 1 + 1 + 1 := by rw [HW.out]; simp
  have d0 : w.heap.size ≤ w.heap.size + 1 := by omega
  have d1 : w.heap.size + 1 < w.heap.size + 1 + 1 := by omega
  have d2 : w.heap.size + 1 + 1 < W.heap.size := by omega
  have z0 : w.heap.size < W.heap.size := by omega
  clear HW sz0
  generalize w.heap.size + 1 + 1 = b2 at *
  generalize w.heap.size + 1 = b1 at *
  obtain ⟨g0, g1, g2, g3, g4, g5⟩ := kg0.six
  have kz5 : W.cell? ⟨b2, 5, none⟩ = some (.slice A g.L.length c) := ko0.six.2.2.2.2.2
  go_wp2_with (first | (at_make; refine wpList_make_full _ rfl _ _ 22 rfl W.heap.size 3 i0 _ 1 Try.underlying22 hi hz0 hz1 .i64 .i64 _ _ g.L.length rfl rfl rfl rfl (by rw [hz2]; omega) (by unfold maxLen; omega) (Nat.le_refl _) ?_; intro wm hown hgr; have hEm : Ext W wm := Below.grown (Ext.rfl' W) hgr (Nat.le_refl _) (by intro q hq; cases hq); have hc := hEm.ccell; have hf := hEm.frz; have hs := hEm.sz; have t1 := hs b1 (by omega); have t2 := hs b2 (by omega)))
  have hW0 : Hid (WlW w (wm.setCell ⟨b2, 5, none⟩ (.slice (some ⟨W.heap.size, 0, none⟩) g.L.length g.L.length)) g f b1 b2 W.heap.size 0) := Lib.hid (WlW.start hE hEm ko0 kr0 fr0 (rowIs_of_make (by have h := hown; simp only [Nat.mul_one] at h; exact h)) d0 d1 d2)
  clear hown hgr hEm hc hf hs t1 t2 hi hz0 hz1 hz2 kg0 ko0 kr0 fr0 fo0 g0 g1 g2 g3 g4 g5 kz5
  generalize W.heap.size = q at *
  generalize wm.setCell ⟨b2, 5, none⟩ (.slice (some ⟨q, 0, none⟩) g.L.length g.L.length) = W1 at *
  go_loopw [6, 16] (fun _ i wr => ∃ k : Nat, k ≤ g.L.length ∧ i = .int .i64 k ∧ Hid (WlW w wr g f b1 b2 q k)) (fun _ i _ => g.L.length - (intOf i).toNat)
  case atStart => exact ⟨0, Nat.zero_le _, rfl, hW0⟩
  case round =>
    clear hW0
    obtain ⟨k, hk, rfl, hW⟩ := hrel
    have hE := hW.out.ext
    have hlq := hW.out.row.lt
    have hl2 : b2 < wr.heap.size := by omega
    have hl1 : b1 < wr.heap.size := by omega
    obtain ⟨o0, o1, o2, o3, o4, o5⟩ := hW.out.ko.six
    by_cases hlt : k < g.L.length
    · have fq := hW.out.row.frozen
      have cq := hW.out.row.cell hlt
      have H1 := Lib.hid (fun w' (hw : Ext w w') => HP.out k hlt w' hw)
      generalize (if k < k then f k else 0) = old at cq
      go_wp2
      refine region_grow_tail 7 (by kernel_rfl) (by kernel_rfl) ?_
      simp only [List.take_succ_cons, List.take_zero, List.drop_succ_cons, List.drop_zero]
      repeat (first | go_big_quiet_step (first | (go_at_call 126; with_reducible exact callsGrow (H1.out _ (hE.tr (Grow.ok _)))) | fail) | quiet_step (first | (go_at_call 126; with_reducible exact callsGrow (H1.out _ (hE.tr (Grow.ok _)))) | fail))
      refine wpQuiet_nil ?_
      intro w1 hb
      have hc := hb.ccell
      have hf := hb.frz
      have hs := hb.sz
      (try simp at hs); (try have hs0 := hs w.heap.size (by omega)); (try have hs1 := hs (w.heap.size + 1) (by omega)); (try have hs2 := hs (w.heap.size + 1 + 1) (by omega)); (try have hs3 := hs (w.heap.size + 1 + 1 + 1) (by omega))
      have fq1 := fun o => (hb.frz q o hlq).trans (fq o)
      have cq1 := (hb.ccell q k hlq).trans cq
      have hlq1 := hs q hlq
      have HB := Lib.hid hb
      clear hc hf hs hb
      go_wp2
      exact ⟨⟨k + 1, by omega, by go_num, Lib.hid (hW.out.step HB.out)⟩, by simp [intOf]; omega⟩
    · have hks : k = g.L.length := by omega
      have hkr := hW.out.kr
      obtain ⟨r0, r1, r2, r3, r4, r5⟩ := hkr.six
      have fr := hW.out.fr
      have HO : Hid (OwnK 3 1 encZ wr q g.L.length (mkL f g.L.length)) := Lib.hid (own_of_row (hW.out.row.congr fun i hi => by rw [if_pos (by omega)]) (by unfold maxLen; omega))
      clear hks
      go_wp2
      have hSL := stL_at b1 [.int .i64 g.X, .int .i64 g.Y, .int .i64 g.S, .int .i64 g.C, .int .i64 g.R, .slice (some ⟨q, 0, none⟩) g.L.length g.L.length] _ 0 _ hkr rfl
      have hXL := stL_ext b1 d0 [.int .i64 g.X, .int .i64 g.Y, .int .i64 g.S, .int .i64 g.C, .int .i64 g.R, .slice (some ⟨q, 0, none⟩) g.L.length g.L.length] 0 _ hE
      have hOL := stL_own b1 (show q ≠ b1 by omega) [.int .i64 g.X, .int .i64 g.Y, .int .i64 g.S, .int .i64 g.C, .int .i64 g.R, .slice (some ⟨q, 0, none⟩) g.L.length g.L.length] 0 _ HO.out
      show bodyPost _ _ _ _ _ (stL wr b1 0 [.int .i64 g.X, .int .i64 g.Y, .int .i64 g.S, .int .i64 g.C, .int .i64 g.R, .slice (some ⟨q, 0, none⟩) g.L.length g.L.length])
      generalize stL wr b1 0 [.int .i64 g.X, .int .i64 g.Y, .int .i64 g.S, .int .i64 g.C, .int .i64 g.R, .slice (some ⟨q, 0, none⟩) g.L.length g.L.length] = WL at *
      obtain ⟨s0, s1, s2, s3, s4, s5⟩ := hSL.six
      refine bodyPost_ret (v := .agg #[.int .i64 g.X, .int .i64 g.Y, .int .i64 g.S, .int .i64 g.C, .int .i64 g.R, .slice (some ⟨q, 0, none⟩) g.L.length g.L.length]) (by simp [results, Try.results69, go_sem, s0, s1, s2, s3, s4, s5]) rfl ⟨⟨some ⟨q, 0, none⟩, g.L.length, ?_, ?_⟩, hXL⟩
      · show _ = Ending.returned (.agg #[.int .i64 g.X, .int .i64 g.Y, .int .i64 g.S, .int .i64 g.C, .int .i64 g.R, .slice (some ⟨q, 0, none⟩) (mkL f g.L.length).length g.L.length])
        rw [mkL_len]
      · exact ⟨by show (mkL f g.L.length).length ≤ _; rw [mkL_len]; exact Nat.le_refl _, by unfold maxLen; omega, .inr ⟨q, rfl, by omega, hOL⟩⟩
end Go.Proofs.Ytgnakeemcccfjaa

/- The contracts of the reference's Slice and Slices, and of LevelsErr. -/
import Derived.Test.YtgnakeemcccfjaaBslice
namespace Go.Proofs.Ytgnakeemcccfjaa
open Go Go.RowKit Go.IntWalk

set_option maxHeartbeats 2000000 in
theorem levelsErr_c (l : List Int) (w : World) (A : Option Addr) (c : Nat) (hl : l.length ≤ 1000) (hA : Row 1 encZ w A l) :
    Calls Try.prog 48 #[.slice A l.length c] w fun e w' => e = .returned (.int .i64 (levE l)) ∧ Ext w w' := by
  by_cases h1 : 20 < l.length
  · have h1' : (20 : Int) < (l.length : Int) := by omega
    unfold levE
    rw [if_pos h1]
    clear h1
    go_enter Try.func48, Try.ntmps48
    go_wp2
    go_ret
    exact ⟨rfl, by (repeat (first | with_reducible exact Ext.rfl' _ | with_reducible assumption | with_reducible refine Ext.al ?_ _ | with_reducible refine Ext.dr ?_ | with_reducible refine Ext.st ?_ (by simp) _ | with_reducible refine Ext.tr ?_ (by assumption)))⟩
  have h1' : ¬ (20 : Int) < (l.length : Int) := by omega
  obtain ⟨E, hE0⟩ : ∃ E, levE l = E := ⟨_, rfl⟩
  rw [hE0]
  unfold levE at hE0
  rw [if_neg h1] at hE0
  have HT := Lib.hid hE0
  have HL := Lib.hid (fun n w => leveled_c n w)
  clear hE0 h1
  go_enter Try.func48, Try.ntmps48
  go_wp2
  go_loopw [3] (fun i wr => Ext w wr ∧ ∃ k : Nat, k ≤ l.length ∧ i = .int .i64 k ∧ Hid (fstE (lvF l) k = 0)) (fun i _ => l.length - (intOf i).toNat)
  case atStart => exact ⟨Ext.rfl' _, 0, Nat.zero_le _, rfl, Lib.hid rfl⟩
  case round =>
    obtain ⟨hE, k, hk, rfl, hF⟩ := hrel
    by_cases hlt : k < l.length
    · obtain ⟨b, off, rfl, hb0, hcell⟩ := hA.p1 hlt
      have c1 := hcell _ hE
      have hz := hE.sz _ hb0
      rw [← gi_lt] at c1
      clear hcell
      obtain ⟨v, hv⟩ : ∃ v, gi l k = v := ⟨_, rfl⟩
      rw [hv] at c1
      have L1 := Lib.hid (fun w => HL.out v w)
      cases hok : lvB v
      · have hA0 : lvF l k = 2 := by unfold lvF; rw [hv, if_pos hok]
        have HE := Lib.hid hA0
        rw [hok] at L1
        clear hok hA0 hv
        go_wp2_with (first | (go_at_call 52; with_reducible refine Calls.mono (L1.out _) ?_; rintro e w' ⟨rfl, rfl⟩))
        go_ret
        exact ⟨ret_int (by rw [← HT.out, fstE_at hF.out (by rw [HE.out]; decide) _ hlt, HE.out]), by (repeat (first | with_reducible exact Ext.rfl' _ | with_reducible assumption | with_reducible refine Ext.al ?_ _ | with_reducible refine Ext.dr ?_ | with_reducible refine Ext.st ?_ (by simp) _ | with_reducible refine Ext.tr ?_ (by assumption)))⟩
      · rw [hok] at L1
        rcases (by omega : (k : Int) ≤ 0 ∨ 0 < (k : Int)) with k0 | k0
        · have hA0 : lvF l k = 0 := by unfold lvF; rw [hv, if_neg (by rw [hok]; decide), if_neg (by omega)]
          have HE := Lib.hid hA0
          have g0 : (0 < k) = False := eq_false (by omega)
          clear hok hA0 hv
          go_upto_region 8 with (first | (go_at_call 52; with_reducible refine Calls.mono (L1.out _) ?_; rintro e w' ⟨rfl, rfl⟩))
          refine region_grow (by kernel_rfl) (by kernel_rfl) ?_
          repeat (first | go_big_quiet_step (first  | fail) | quiet_step (first  | fail))
          refine wpQuiet_nil ?_
          intro w1 hb
          have hc := hb.ccell
          have hf := hb.frz
          have hs := hb.sz
          (try simp at hs); (try have hs0 := hs w.heap.size (by omega)); (try have hs1 := hs (w.heap.size + 1) (by omega)); (try have hs2 := hs (w.heap.size + 1 + 1) (by omega)); (try have hs3 := hs (w.heap.size + 1 + 1 + 1) (by omega))
          (try simp only [IntWalk.i64_left])
          go_wp2
          exact ⟨⟨by (repeat (first | with_reducible exact Ext.rfl' _ | with_reducible assumption | with_reducible refine Ext.al ?_ _ | with_reducible refine Ext.dr ?_ | with_reducible refine Ext.st ?_ (by simp) _ | with_reducible refine Ext.tr ?_ (by assumption))), k + 1, by omega, by go_num, Lib.hid (by rw [fstE_succ hF.out, HE.out])⟩, by simp [intOf]; omega⟩
        · obtain ⟨j, hj⟩ : ∃ j, k = j + 1 := ⟨k - 1, by omega⟩
          have hjl : j < l.length := by omega
          have g0 : (0 < k) = True := eq_true (by omega)
          obtain ⟨b', off', hab, _, hcell'⟩ := hA.p1 hjl
          injection hab with hab
          injection hab with hab1 hab2
          subst hab1 hab2
          have cj := hcell' _ hE
          rw [← gi_lt] at cj
          obtain ⟨u, hu⟩ : ∃ u, gi l j = u := ⟨_, rfl⟩
          rw [hu] at cj
          have hjz : (k : Int) - 1 = (j : Int) := by omega
          have hA0 : lvF l k = if v ≤ u then 9 else 0 := by
            unfold lvF
            rw [hv, if_neg (by rw [hok]; decide), show k - 1 = j by omega, hu]
            by_cases h : v ≤ u
            · rw [if_pos ⟨by omega, h⟩, if_pos h]
            · rw [if_neg (by omega), if_neg h]
          have HE := Lib.hid hA0
          have HJ := Lib.hid hj
          clear hok hA0 hv hu hcell' hj
          by_cases hle : v ≤ u
          · have hE9 := HE.out
            rw [if_pos hle] at hE9
            have HE9 := Lib.hid hE9
            clear hE9 HE
            go_upto_region 8 with (first | (go_at_call 52; with_reducible refine Calls.mono (L1.out _) ?_; rintro e w' ⟨rfl, rfl⟩))
            refine region_grow (by kernel_rfl) (by kernel_rfl) ?_
            repeat (first | go_big_quiet_step (first  | fail) | quiet_step (first  | fail))
            refine wpQuiet_nil ?_
            intro w1 hb
            have hc := hb.ccell
            have hf := hb.frz
            have hs := hb.sz
            (try simp at hs); (try have hs0 := hs w.heap.size (by omega)); (try have hs1 := hs (w.heap.size + 1) (by omega)); (try have hs2 := hs (w.heap.size + 1 + 1) (by omega)); (try have hs3 := hs (w.heap.size + 1 + 1 + 1) (by omega))
            (try simp only [IntWalk.i64_left])
            go_wp2
            go_ret
            exact ⟨ret_int (by rw [← HT.out, fstE_at hF.out (by rw [HE9.out]; decide) _ hlt, HE9.out]), by (repeat (first | with_reducible exact Ext.rfl' _ | with_reducible assumption | with_reducible refine Ext.al ?_ _ | with_reducible refine Ext.dr ?_ | with_reducible refine Ext.st ?_ (by simp) _ | with_reducible refine Ext.tr ?_ (by assumption)))⟩
          · have hE9 := HE.out
            rw [if_neg hle] at hE9
            have HE9 := Lib.hid hE9
            clear hE9 HE
            go_upto_region 8 with (first | (go_at_call 52; with_reducible refine Calls.mono (L1.out _) ?_; rintro e w' ⟨rfl, rfl⟩))
            refine region_grow (by kernel_rfl) (by kernel_rfl) ?_
            repeat (first | go_big_quiet_step (first  | fail) | quiet_step (first  | fail))
            refine wpQuiet_nil ?_
            intro w1 hb
            have hc := hb.ccell
            have hf := hb.frz
            have hs := hb.sz
            (try simp at hs); (try have hs0 := hs w.heap.size (by omega)); (try have hs1 := hs (w.heap.size + 1) (by omega)); (try have hs2 := hs (w.heap.size + 1 + 1) (by omega)); (try have hs3 := hs (w.heap.size + 1 + 1 + 1) (by omega))
            (try simp only [IntWalk.i64_left])
            go_wp2
            exact ⟨⟨by (repeat (first | with_reducible exact Ext.rfl' _ | with_reducible assumption | with_reducible refine Ext.al ?_ _ | with_reducible refine Ext.dr ?_ | with_reducible refine Ext.st ?_ (by simp) _ | with_reducible refine Ext.tr ?_ (by assumption))), k + 1, by omega, by go_num, Lib.hid (by rw [fstE_succ hF.out, HE9.out])⟩, by simp [intOf]; omega⟩
    · have hks : k = l.length := by omega
      subst hks
      have HZ : Hid (E = 0) := Lib.hid (by rw [← HT.out]; exact hF.out)
      go_wp2
      go_ret
      exact ⟨ret_int (by rw [HZ.out]), by (repeat (first | with_reducible exact Ext.rfl' _ | with_reducible assumption | with_reducible refine Ext.al ?_ _ | with_reducible refine Ext.dr ?_ | with_reducible refine Ext.st ?_ (by simp) _ | with_reducible refine Ext.tr ?_ (by assumption)))⟩
set_option maxHeartbeats 8000000 in
set_option maxRecDepth 100000 in
theorem rslice_c (g h : Gr) (lo hi : Int) (w : World) (A B : Option Addr) (c d : Nat) (vg : VG g) (vh : VG h) (hn : g.L.length = h.L.length) (hb : -20000 ≤ lo ∧ lo ≤ hi ∧ hi ≤ 20000) (hA : Row 1 encZ w A g.L) (hB : Row 1 encZ w B h.L) :
    Calls Try.prog 92 #[.agg #[.int .i64 g.X, .int .i64 g.Y, .int .i64 g.S, .int .i64 g.C, .int .i64 g.R, .slice A g.L.length c], .agg #[.int .i64 h.X, .int .i64 h.Y, .int .i64 h.S, .int .i64 h.C, .int .i64 h.R, .slice B h.L.length d], .int .i64 lo, .int .i64 hi] w fun e w' => e = .returned (.agg #[.int .i64 (layF g h lo hi).x, .int .i64 (layF g h lo hi).y, .int .i64 0]) ∧ Ext w w' := by
  have hss := vg.hs
  have hlen : g.L.length ≤ 1024 := by have h1 := vg.len; have h2 := vg.hn; omega
  have HCH := Lib.hid (fun k (hk : k < g.L.length) w' (hw : Ext w w') => by
    have h9 := rchange_c g h k lo hi w' A B c d (by omega) (by omega) hk (by omega) (vg.lev k hk) (vh.lev k (by omega)) (by omega) (by omega) (hA.ext hw) (hB.ext hw)
    rw [rcut_layer (a := gi g.L k) hb, rcut_layer (a := gi h.L k) hb] at h9
    exact h9)
  have HBD := Lib.hid (fun k => And.intro (layP_bd vg lo hi hb g.L h.L k) (And.intro (layP_bd vg lo hi hb h.L g.L k) (sumN_bd (f := unkAt g.L h.L) (M := 1) k (fun i _ => unkC_bd _ _))))
  have HB1 : Hid (∀ x y, 0 ≤ cutC g.S (mvI lo hi x) (mvI lo hi y) ∧ cutC g.S (mvI lo hi x) (mvI lo hi y) ≤ 4000000000000) := Lib.hid (fun x y => cutC_bd (by omega) (by omega) (mvI_ok hb) (mvI_ok hb))
  clear hA hB vg vh hn hss hb
  show Calls _ _ _ _ fun e w' => e = .returned (.agg #[.int .i64 (layP g.S g.L h.L lo hi g.L.length), .int .i64 (layP g.S h.L g.L lo hi g.L.length), .int .i64 0]) ∧ Ext w w'
  go_enter Try.func92, Try.ntmps92
  go_wp2
  refine wp_name (fun W hW => ?_)
  have hE : Ext w W := by rw [hW]; (repeat (first | with_reducible exact Ext.rfl' _ | with_reducible assumption | with_reducible refine Ext.al ?_ _ | with_reducible refine Ext.dr ?_ | with_reducible refine Ext.st ?_ (by simp) _ | with_reducible refine Ext.tr ?_ (by assumption)))
  have HW := Lib.hid hW
  clear hW
  have hW : ChW w W g h A B c d 0 0 0 := by
    rw [HW.out]
    refine ⟨by (repeat (first | with_reducible exact Ext.rfl' _ | with_reducible assumption | with_reducible refine Ext.al ?_ _ | with_reducible refine Ext.dr ?_ | with_reducible refine Ext.st ?_ (by simp) _ | with_reducible refine Ext.tr ?_ (by assumption))), cells_six ?_, cells_six ?_, cells_three ?_, cells_three ?_, fun o => by simp [go_sem], fun o => by simp [go_sem], by simp⟩
    · refine ⟨?_, ?_, ?_, ?_, ?_, ?_⟩ <;> simp [World.cell?_alloc_past, World.cell?_alloc_new, go_sem]
    · refine ⟨?_, ?_, ?_, ?_, ?_, ?_⟩ <;> simp [World.cell?_alloc_past, go_sem]
    · refine ⟨?_, ?_, ?_⟩ <;> simp [World.cell?_alloc_past, go_sem]
    · refine ⟨?_, ?_, ?_⟩ <;> simp [go_sem]
  clear HW hE
  go_loopw [10] (fun i wr => ∃ k : Nat, k ≤ g.L.length ∧ i = .int .i64 k ∧ ChW w wr g h A B c d (layP g.S g.L h.L lo hi k) (layP g.S h.L g.L lo hi k) (sumN (unkAt g.L h.L) k)) (fun i _ => g.L.length - (intOf i).toNat)
  case atStart => exact ⟨0, Nat.zero_le _, rfl, hW⟩
  case round =>
    clear hW
    obtain ⟨k, hk, rfl, hW⟩ := hrel
    have hE := hW.ext
    have hz3 := hW.sz
    have hz2 : w.heap.size + 2 < wr.heap.size := by omega
    have hz1 : w.heap.size + 1 < wr.heap.size := by omega
    have hz0 : w.heap.size < wr.heap.size := by omega
    obtain ⟨g0, g1, g2, g3, g4, g5⟩ := hW.kg.six
    obtain ⟨h0, h1, h2, h3, h4, h5⟩ := hW.kh.six
    obtain ⟨o0, o1, o2⟩ := hW.ko.three
    have fo := hW.fo
    by_cases hlt : k < g.L.length
    · obtain ⟨⟨b1, b2⟩, ⟨b3, b4⟩, b5, b6⟩ := HBD.out k
      have d1 := HB1.out (gi g.L k) (gi h.L k)
      have d2 := HB1.out (gi h.L k) (gi g.L k)
      have d3 := unkC_bd (gi g.L k) (gi h.L k)
      have s1 : Hid (layP g.S g.L h.L lo hi (k + 1) = layP g.S g.L h.L lo hi k + cutC g.S (mvI lo hi (gi g.L k)) (mvI lo hi (gi h.L k))) := Lib.hid rfl
      have s2 : Hid (layP g.S h.L g.L lo hi (k + 1) = layP g.S h.L g.L lo hi k + cutC g.S (mvI lo hi (gi h.L k)) (mvI lo hi (gi g.L k))) := Lib.hid rfl
      have s3 : Hid (sumN (unkAt g.L h.L) (k + 1) = sumN (unkAt g.L h.L) k + unkC (gi g.L k) (gi h.L k)) := Lib.hid rfl
      have C1 := Lib.hid (fun w' (hw : Ext w w') => HCH.out k hlt w' hw)
      have HW := Lib.hid hW
      clear hW
      generalize layP g.S g.L h.L lo hi k = x at *
      generalize layP g.S h.L g.L lo hi k = y at *
      generalize sumN (unkAt g.L h.L) k = z at *
      generalize cutC g.S (mvI lo hi (gi g.L k)) (mvI lo hi (gi h.L k)) = u0 at *
      generalize cutC g.S (mvI lo hi (gi h.L k)) (mvI lo hi (gi g.L k)) = u1 at *
      generalize unkC (gi g.L k) (gi h.L k) = u2 at *
      have P1 := Lib.hid (fun w' => plus_c x y z u0 u1 u2 w' (by omega) (by omega) (by omega) (by omega) (by omega) (by omega))
      have HT : Hid (∀ w1, Ext wr w1 → ChW w ((((w1.setCell ⟨w.heap.size + 3, 0, none⟩ (.int .i64 (x + u0))).setCell ⟨w.heap.size + 3, 1, none⟩ (.int .i64 (y + u1)))).setCell ⟨w.heap.size + 3, 2, none⟩ (.int .i64 (z + u2))) g h A B c d (layP g.S g.L h.L lo hi (k + 1)) (layP g.S h.L g.L lo hi (k + 1)) (sumN (unkAt g.L h.L) (k + 1))) := Lib.hid fun w1 hx => by
        rw [s1.out, s2.out, s3.out]
        exact (((HW.out.next hx).store 0 _ _ _ _ (.inl ⟨rfl, rfl, rfl, rfl⟩)).store 1 _ _ _ _ (.inr (.inl ⟨rfl, rfl, rfl, rfl⟩))).store 2 _ _ _ _ (.inr (.inr ⟨rfl, rfl, rfl, rfl⟩))
      clear HW s1 s2 s3 b1 b2 b3 b4 b5 b6 d1 d2 d3
      go_wp2
      refine region_grow_tail 8 (by kernel_rfl) (by kernel_rfl) ?_
      simp only [List.take_succ_cons, List.take_zero, List.drop_succ_cons, List.drop_zero]
      repeat (first | go_big_quiet_step (first | (go_at_call 89; with_reducible exact callsGrow (C1.out _ (hE.tr (Grow.ok _)))) | (go_at_call 50; with_reducible exact callsGrow (P1.out _)) | fail) | quiet_step (first | (go_at_call 89; with_reducible exact callsGrow (C1.out _ (hE.tr (Grow.ok _)))) | (go_at_call 50; with_reducible exact callsGrow (P1.out _)) | fail))
      refine wpQuiet_nil ?_
      intro w1 hb
      have hc := hb.ccell
      have hf := hb.frz
      have hs := hb.sz
      (try simp at hs); (try have hs0 := hs w.heap.size (by omega)); (try have hs1 := hs (w.heap.size + 1) (by omega)); (try have hs2 := hs (w.heap.size + 1 + 1) (by omega)); (try have hs3 := hs (w.heap.size + 1 + 1 + 1) (by omega))
      go_wp2
      exact ⟨⟨k + 1, by omega, by go_num, HT.out _ hb⟩, by simp [intOf]; omega⟩
    · have hks : k = g.L.length := by omega
      subst hks
      have hkr := hW.kr
      have fr := hW.fr
      obtain ⟨r0, r1, r2⟩ := hkr.three
      clear hW
      go_wp2
      have hE3 : Ext w (wr.setCell ⟨w.heap.size + 3, 2, none⟩ (.int .i64 0)) := Ext.st hE (by show w.heap.size ≤ w.heap.size + 3; omega) _
      have kr3 : CellsAt (wr.setCell ⟨w.heap.size + 3, 2, none⟩ (.int .i64 0)) (w.heap.size + 2) 0 [.int .i64 0, .int .i64 0, .int .i64 0] := hkr.st (by simp) _
      generalize wr.setCell ⟨w.heap.size + 3, 2, none⟩ (.int .i64 0) = wz at *
      have hSL := stL_at (w.heap.size + 2) [.int .i64 (layP g.S g.L h.L lo hi g.L.length), .int .i64 (layP g.S h.L g.L lo hi g.L.length), .int .i64 0] _ 0 _ kr3 rfl
      have hXL := stL_ext (w.heap.size + 2) (by first | omega | (simp; done) | (simp; omega)) [.int .i64 (layP g.S g.L h.L lo hi g.L.length), .int .i64 (layP g.S h.L g.L lo hi g.L.length), .int .i64 0] 0 _ hE3
      show bodyPost _ _ _ _ _ (stL (wz) (w.heap.size + 2) 0 [.int .i64 (layP g.S g.L h.L lo hi g.L.length), .int .i64 (layP g.S h.L g.L lo hi g.L.length), .int .i64 0])
      generalize stL (wz) (w.heap.size + 2) 0 [.int .i64 (layP g.S g.L h.L lo hi g.L.length), .int .i64 (layP g.S h.L g.L lo hi g.L.length), .int .i64 0] = WL at hSL hXL ⊢
      obtain ⟨s0, s1, s2⟩ := hSL.three
      refine bodyPost_ret (v := .agg #[.int .i64 (layP g.S g.L h.L lo hi g.L.length), .int .i64 (layP g.S h.L g.L lo hi g.L.length), .int .i64 0]) (by simp [results, Try.results92, go_sem, s0, s1, s2]) rfl ⟨rfl, hXL⟩
end Go.Proofs.Ytgnakeemcccfjaa

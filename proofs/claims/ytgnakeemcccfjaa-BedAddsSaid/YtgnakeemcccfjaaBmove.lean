/- The contracts of moveInto's closure, of moveInto and of checkLevels. -/
import Derived.Test.YtgnakeemcccfjaaBwith3
import Derived.Test.YtgnakeemcccfjaaBclos
import Derived.Test.YtgnakeemcccfjaaBpsl
namespace Go.Proofs.Ytgnakeemcccfjaa
open Go Go.RowKit Go.IntWalk

theorem OutG.re' {base : Nat} {g : Gr} {f : Nat → Int} {e : Ending} {w' : World} (h : OutG base (reL g f) e w') : ∃ A c, e = .returned (.agg #[.int .i64 g.X, .int .i64 g.Y, .int .i64 g.S, .int .i64 g.C, .int .i64 g.R, .slice A g.L.length c]) ∧ NewZ base w' A c (mkL f g.L.length) := by
  obtain ⟨A, c, he, hN⟩ := h
  refine ⟨A, c, ?_, hN⟩
  have e1 : (reL g f).L.length = g.L.length := mkL_len _ _
  rw [e1] at he
  exact he
set_option maxHeartbeats 4000000 in
theorem move1_c (g : Gr) (lo hi : Int) (k p q r : Nat) (w : World) (A : Option Addr) (c : Nat) (hk : k < g.L.length) (hl : g.L.length ≤ 1100) (hA : Row 1 encZ w A g.L) (hp : BoxG w p g A c) (hq : w.cell? ⟨q, 0, none⟩ = some (.int .i64 lo)) (hr : w.cell? ⟨r, 0, none⟩ = some (.int .i64 hi)) (hqz : q < w.heap.size) (hrz : r < w.heap.size) :
    Calls Try.prog 153 #[.int .i64 k, .pointer (some ⟨p, 0, none⟩), .pointer (some ⟨q, 0, none⟩), .pointer (some ⟨r, 0, none⟩)] w fun e w' => e = .returned (.int .i64 (mvI lo hi (gi g.L k))) ∧ Ext w w' := by
  have HK := Lib.hid (fun w' (hw : Ext w w') => isKnown_c g k w' A c hk (by unfold maxLen; omega) (hA.ext hw))
  obtain ⟨hpz, hp⟩ := hp
  obtain ⟨g0, g1, g2, g3, g4, g5⟩ := hp.six
  obtain ⟨b, off, rfl, hb0, hcell⟩ := hA.p1 hk
  have e6 := hcell _ (Ext.rfl' w)
  rw [← gi_lt] at e6
  unfold knB at HK
  unfold mvI
  generalize gi g.L k = x at *
  have hkz : (0 : Int) ≤ k := by omega
  by_cases hu : x = 30000
  · rw [decide_eq_false (by simpa using hu)] at HK
    rw [if_pos hu]
    clear hu hp hcell hA
    go_enter Try.func153, Try.ntmps153
    go_wp2_with (first | (go_at_call 79; with_reducible refine Calls.mono (HK.out _ (by (repeat (first | with_reducible exact Ext.rfl' _ | with_reducible assumption | with_reducible refine Ext.al ?_ _ | with_reducible refine Ext.dr ?_ | with_reducible refine Ext.st ?_ (by simp) _ | with_reducible refine Ext.tr ?_ (by assumption))))) ?_; rintro e w1 ⟨rfl, hb⟩; have hc := hb.ccell; have hf := hb.frz; have hs := hb.sz; (try simp at hs); (try have t0 := hs (p) (by first | assumption | omega)); (try have t1 := hs (q) (by first | assumption | omega)); (try have t2 := hs (r) (by first | assumption | omega)); (try have t3 := hs (b) (by first | assumption | omega)); (try have t4 := hs (w.heap.size) (by first | assumption | omega)); (try have t5 := hs (w.heap.size) (by first | assumption | omega))))
    go_ret
    exact ⟨rfl, by (repeat (first | with_reducible exact Ext.rfl' _ | with_reducible assumption | with_reducible refine Ext.al ?_ _ | with_reducible refine Ext.dr ?_ | with_reducible refine Ext.st ?_ (by simp) _ | with_reducible refine Ext.tr ?_ (by assumption)))⟩
  · rw [decide_eq_true hu] at HK
    rw [if_neg hu]
    clear hu hcell hA
    go_enter Try.func153, Try.ntmps153
    go_upto_region 3 with (first | (go_at_call 79; with_reducible refine Calls.mono (HK.out _ (by (repeat (first | with_reducible exact Ext.rfl' _ | with_reducible assumption | with_reducible refine Ext.al ?_ _ | with_reducible refine Ext.dr ?_ | with_reducible refine Ext.st ?_ (by simp) _ | with_reducible refine Ext.tr ?_ (by assumption))))) ?_; rintro e w2 ⟨rfl, hb⟩; have hc := hb.ccell; have hf := hb.frz; have hs := hb.sz; (try simp at hs); (try have t0 := hs (p) (by first | assumption | omega)); (try have t1 := hs (q) (by first | assumption | omega)); (try have t2 := hs (r) (by first | assumption | omega)); (try have t3 := hs (b) (by first | assumption | omega)); (try have t4 := hs (w.heap.size) (by first | assumption | omega)); (try have t5 := hs (w.heap.size) (by first | assumption | omega))))
    have hE2 : Ext w w2 := by (repeat (first | with_reducible exact Ext.rfl' _ | with_reducible assumption | with_reducible refine Ext.al ?_ _ | with_reducible refine Ext.dr ?_ | with_reducible refine Ext.st ?_ (by simp) _ | with_reducible refine Ext.tr ?_ (by assumption)))
    clear hb hc hf hs t0 t1 t2 t3
    obtain ⟨g0, g1, g2, g3, g4, g5⟩ := (hp.ext hE2 hpz).six
    have e6 := (hE2.ccell _ _ hb0).trans e6
    have hq := (hE2.ccell _ _ hqz).trans hq
    have hr := (hE2.ccell _ _ hrz).trans hr
    have z0 := hE2.sz _ hpz
    have z1 := hE2.sz _ hqz
    have z2 := hE2.sz _ hrz
    have z3 := hE2.sz _ hb0
    clear hp
    refine region_grow (by kernel_rfl) (by kernel_rfl) ?_
    repeat (first | go_big_quiet_step (first  | fail) | quiet_step (first  | fail))
    refine wpQuiet_nil ?_
    intro w1 hb
    have hc := hb.ccell
    have hf := hb.frz
    have hs := hb.sz
    (try simp at hs); (try have hs0 := hs w.heap.size (by omega)); (try have hs1 := hs (w.heap.size + 1) (by omega)); (try have hs2 := hs (w.heap.size + 1 + 1) (by omega)); (try have hs3 := hs (w.heap.size + 1 + 1 + 1) (by omega))
    (try simp only [IntWalk.i64_left])
    have hE3 := hE2.tr hb
    go_wp2
    go_ret
    exact ⟨ret_int (by first | rfl | omega | (simp only [ite_min, ite_max]; done) | (simp only [ite_min, ite_max]; omega)), hE3⟩
set_option maxHeartbeats 4000000 in
theorem moveInto_c (g : Gr) (F : Nat → Int) (lo hi : Int) (hF : ∀ k, k < g.L.length → F k = mvI lo hi (gi g.L k)) (w : World) (A : Option Addr) (c : Nat) (hl : g.L.length ≤ 1100) (hA : Row 1 encZ w A g.L) :
    Calls Try.prog 129 #[.agg #[.int .i64 g.X, .int .i64 g.Y, .int .i64 g.S, .int .i64 g.C, .int .i64 g.R, .slice A g.L.length c], .int .i64 lo, .int .i64 hi] w fun e w' => OutG w.heap.size (reL g F) e w' ∧ Ext w w' := by
  have HWL := Lib.hid (fun p q r w' (hw : Ext w w') (hp : BoxG w' p g A c) (hq : w'.cell? ⟨q, 0, none⟩ = some (.int .i64 lo)) (hr : w'.cell? ⟨r, 0, none⟩ = some (.int .i64 hi)) (hqz : q < w'.heap.size) (hrz : r < w'.heap.size) => withMove_c g F p q r w' A c (by omega) (fun k hk w'' hx => by rw [hF k hk]; exact move1_c g lo hi k p q r w'' A c hk hl (hA.ext (hw.tr hx)) (hp.ext hx) ((hx.ccell _ _ hqz).trans hq) ((hx.ccell _ _ hrz).trans hr) (hx.sz _ hqz) (hx.sz _ hrz)))
  clear hF hA
  go_enter Try.func129, Try.ntmps129
  go_upto_region 1 with fail
  refine wp_name (fun W hW => ?_)
  have hE : Ext w W := by rw [hW]; (repeat (first | with_reducible exact Ext.rfl' _ | with_reducible assumption | with_reducible refine Ext.al ?_ _ | with_reducible refine Ext.dr ?_ | with_reducible refine Ext.st ?_ (by simp) _ | with_reducible refine Ext.tr ?_ (by assumption)))
  have HW := Lib.hid hW
  clear hW
  have kp : BoxG W w.heap.size g A c := by
    rw [HW.out]
    refine ⟨by simp; try omega, cells_six ⟨?_, ?_, ?_, ?_, ?_, ?_⟩⟩ <;> simp [World.cell?_alloc_past, World.cell?_alloc_new, go_sem]
  have kq : W.cell? ⟨w.heap.size + 1, 0, none⟩ = some (.int .i64 lo) := by rw [HW.out]; simp [World.cell?_alloc_past, go_sem]
  have kr : W.cell? ⟨w.heap.size + 1 + 1, 0, none⟩ = some (.int .i64 hi) := by rw [HW.out]; simp [World.cell?_alloc_past, go_sem]
  have kz : CellsAt W (w.heap.size + 1 + 1 + 1) 0 [.int .i64 0, .int .i64 0, .int .i64 0, .int .i64 0, .int .i64 0, .slice none 0 0] := by
    rw [HW.out]
    refine cells_six ⟨?_, ?_, ?_, ?_, ?_, ?_⟩ <;> simp [go_sem]
  have sz0 : W.heap.size = w.heap.size + 1 + 1 + 1 + 1 := by rw [HW.out]; simp
  have HX := Lib.hid (HWL.out _ _ _ W hE kp kq kr (by omega) (by omega))
  obtain ⟨g0, g1, g2, g3, g4, g5⟩ := kp.2.six
  have zp := kp.1
  obtain ⟨r0, r1, r2, r3, r4, r5⟩ := kz.six
  have fr : ∀ o, W.frozen? ⟨w.heap.size + 1 + 1 + 1, o, none⟩ = false := fun o => by rw [HW.out]; simp [go_sem]
  have zr : w.heap.size + 1 + 1 + 1 < W.heap.size := by omega
  clear HWL HW kq kr kp
  go_wp2_with (first | (go_at_call 69; (with_reducible refine Calls.mono (HX.out) ?_); rintro e w2 ⟨⟨A2, c2, rfl, hN⟩, hb⟩; have hc := hb.ccell; have hf := hb.frz; have hs := hb.sz; (try simp at hs); (try have t0 := hs (w.heap.size) (by first | assumption | omega)); (try have t1 := hs (w.heap.size + 1 + 1 + 1) (by first | assumption | omega)); (try have t2 := hs (w.heap.size) (by first | assumption | omega)); (try have t3 := hs (w.heap.size) (by first | assumption | omega)); (try have t4 := hs (w.heap.size) (by first | assumption | omega)); (try have t5 := hs (w.heap.size) (by first | assumption | omega))))
  have hE2 : Ext w w2 := hE.tr hb
  have kz2 := kz.ext hb (by omega)
  have hN2 := (hN.stL (b := w.heap.size + 1 + 1 + 1) (by omega) 0 [.int .i64 (reL g F).X, .int .i64 (reL g F).Y, .int .i64 (reL g F).S, .int .i64 (reL g F).C, .int .i64 (reL g F).R, .slice A2 (reL g F).L.length c2]).mono (base' := w.heap.size) (by omega)
  clear hN hc hf hs hb
  have hSL := stL_at (w.heap.size + 1 + 1 + 1) [.int .i64 (reL g F).X, .int .i64 (reL g F).Y, .int .i64 (reL g F).S, .int .i64 (reL g F).C, .int .i64 (reL g F).R, .slice A2 (reL g F).L.length c2] _ 0 _ kz2 rfl
  have hXL := stL_ext (w.heap.size + 1 + 1 + 1) (by first | omega | (simp; done) | (simp; omega)) [.int .i64 (reL g F).X, .int .i64 (reL g F).Y, .int .i64 (reL g F).S, .int .i64 (reL g F).C, .int .i64 (reL g F).R, .slice A2 (reL g F).L.length c2] 0 _ hE2
  show bodyPost _ _ _ _ _ (stL (w2) (w.heap.size + 1 + 1 + 1) 0 [.int .i64 (reL g F).X, .int .i64 (reL g F).Y, .int .i64 (reL g F).S, .int .i64 (reL g F).C, .int .i64 (reL g F).R, .slice A2 (reL g F).L.length c2])
  generalize stL (w2) (w.heap.size + 1 + 1 + 1) 0 [.int .i64 (reL g F).X, .int .i64 (reL g F).Y, .int .i64 (reL g F).S, .int .i64 (reL g F).C, .int .i64 (reL g F).R, .slice A2 (reL g F).L.length c2] = WL at *
  obtain ⟨s0, s1, s2, s3, s4, s5⟩ := hSL.six
  refine bodyPost_ret (v := .agg #[.int .i64 (reL g F).X, .int .i64 (reL g F).Y, .int .i64 (reL g F).S, .int .i64 (reL g F).C, .int .i64 (reL g F).R, .slice A2 (reL g F).L.length c2]) (by simp [results, Try.results129, go_sem, s0, s1, s2, s3, s4, s5]) rfl ⟨⟨A2, c2, rfl, hN2⟩, hXL⟩
set_option maxHeartbeats 2000000 in
theorem checkLevels_c (l : List Int) (w : World) (A : Option Addr) (c : Nat) (hl : l.length ≤ 1000) (hA : Row 1 encZ w A l) :
    Calls Try.prog 90 #[.slice A l.length c] w fun e w' => e = .returned (.int .i64 (levE l)) ∧ Ext w w' := by
  by_cases h1 : 20 < l.length
  · have h1' : (20 : Int) < (l.length : Int) := by omega
    unfold levE
    rw [if_pos h1]
    clear h1
    go_enter Try.func90, Try.ntmps90
    go_wp2
    go_ret
    exact ⟨rfl, by (repeat (first | with_reducible exact Ext.rfl' _ | with_reducible assumption | with_reducible refine Ext.al ?_ _ | with_reducible refine Ext.dr ?_ | with_reducible refine Ext.st ?_ (by simp) _ | with_reducible refine Ext.tr ?_ (by assumption)))⟩
  have h1' : ¬ (20 : Int) < (l.length : Int) := by omega
  obtain ⟨E, hE0⟩ : ∃ E, levE l = E := ⟨_, rfl⟩
  rw [hE0]
  unfold levE at hE0
  rw [if_neg h1] at hE0
  have HT := Lib.hid hE0
  have HL := Lib.hid (fun n w => checkLevel_c n w)
  clear hE0 h1
  go_enter Try.func90, Try.ntmps90
  go_wp2
  go_loopw [3, 4, 5, 11] (fun _ _ _ i wr => Ext w wr ∧ ∃ k : Nat, k ≤ l.length ∧ i = .int .i64 k ∧ Hid (fstE (lvF l) k = 0)) (fun _ _ _ i _ => l.length - (intOf i).toNat)
  case atStart => exact ⟨Ext.rfl' _, 0, Nat.zero_le _, rfl, Lib.hid rfl⟩
  case round =>
    obtain ⟨hE, k, hk, rfl, hF⟩ := hrel
    by_cases hlt : k < l.length
    · obtain ⟨b, off, rfl, hb0, hcell⟩ := hA.p1 hlt
      have c1 := hcell _ hE
      have hz := hE.sz _ hb0
      rw [← gi_lt] at c1
      clear hcell
      obtain ⟨v, hv⟩ : ∃ v, gi l k = v := ⟨_, rfl⟩
      rw [hv] at c1
      have L1 := Lib.hid (fun w => HL.out v w)
      cases hok : lvB v
      · have hA0 : lvF l k = 2 := by unfold lvF; rw [hv, if_pos hok]
        have HE := Lib.hid hA0
        rw [hok, if_pos rfl] at L1
        clear hok hA0 hv
        go_wp2_with (first | (go_at_call 93; with_reducible refine Calls.mono (L1.out _) ?_; rintro e w' ⟨rfl, rfl⟩))
        go_ret
        exact ⟨ret_int (by rw [← HT.out, fstE_at hF.out (by rw [HE.out]; decide) _ hlt, HE.out]), by (repeat (first | with_reducible exact Ext.rfl' _ | with_reducible assumption | with_reducible refine Ext.al ?_ _ | with_reducible refine Ext.dr ?_ | with_reducible refine Ext.st ?_ (by simp) _ | with_reducible refine Ext.tr ?_ (by assumption)))⟩
      · rw [hok, if_neg (by decide)] at L1
        rcases (by omega : k = 0 ∨ 0 < k) with k0 | k0
        · have hA0 : lvF l k = 0 := by unfold lvF; rw [hv, if_neg (by rw [hok]; decide), if_neg (by omega)]
          have HE := Lib.hid hA0
          have k0' : ¬ (0 : Int) < (k : Int) := by omega
          clear hok hA0 hv k0
          go_wp2_with (first | (go_at_call 93; with_reducible refine Calls.mono (L1.out _) ?_; rintro e w' ⟨rfl, rfl⟩))
          exact ⟨⟨by (repeat (first | with_reducible exact Ext.rfl' _ | with_reducible assumption | with_reducible refine Ext.al ?_ _ | with_reducible refine Ext.dr ?_ | with_reducible refine Ext.st ?_ (by simp) _ | with_reducible refine Ext.tr ?_ (by assumption))), k + 1, by omega, by go_num, Lib.hid (by rw [fstE_succ hF.out, HE.out])⟩, by simp [intOf]; omega⟩
        · obtain ⟨j, hj⟩ : ∃ j, k = j + 1 := ⟨k - 1, by omega⟩
          have hjl : j < l.length := by omega
          obtain ⟨b', off', hab, _, hcell'⟩ := hA.p1 hjl
          injection hab with hab
          injection hab with hab1 hab2
          subst hab1 hab2
          have cj := hcell' _ hE
          rw [← gi_lt] at cj
          obtain ⟨u, hu⟩ : ∃ u, gi l j = u := ⟨_, rfl⟩
          rw [hu] at cj
          have hA0 : lvF l k = if v ≤ u then 9 else 0 := by
            unfold lvF
            rw [hv, if_neg (by rw [hok]; decide), show k - 1 = j by omega, hu]
            by_cases h : v ≤ u
            · rw [if_pos ⟨k0, h⟩, if_pos h]
            · rw [if_neg (by omega), if_neg h]
          have HE := Lib.hid hA0
          have wk : IntKind.i64.wrap ((k : Int) - 1) = (j : Int) := by rw [IntWalk.i64_in _ (by omega)]; omega
          have hjz : (k : Int) - 1 = (j : Int) := by omega
          have k0' : (0 : Int) < (k : Int) := by omega
          have hj0 : (0 : Int) ≤ (j : Int) := by omega
          clear hok hA0 hv hu hcell' hj
          by_cases hle : v ≤ u
          · have hE9 := HE.out
            rw [if_pos hle] at hE9
            have HE9 := Lib.hid hE9
            clear hE9 HE
            go_wp2_with (first | (go_at_call 93; with_reducible refine Calls.mono (L1.out _) ?_; rintro e w' ⟨rfl, rfl⟩))
            go_ret
            exact ⟨ret_int (by rw [← HT.out, fstE_at hF.out (by rw [HE9.out]; decide) _ hlt, HE9.out]), by (repeat (first | with_reducible exact Ext.rfl' _ | with_reducible assumption | with_reducible refine Ext.al ?_ _ | with_reducible refine Ext.dr ?_ | with_reducible refine Ext.st ?_ (by simp) _ | with_reducible refine Ext.tr ?_ (by assumption)))⟩
          · have hE9 := HE.out
            rw [if_neg hle] at hE9
            have HE9 := Lib.hid hE9
            clear hE9 HE
            go_wp2_with (first | (go_at_call 93; with_reducible refine Calls.mono (L1.out _) ?_; rintro e w' ⟨rfl, rfl⟩))
            exact ⟨⟨by (repeat (first | with_reducible exact Ext.rfl' _ | with_reducible assumption | with_reducible refine Ext.al ?_ _ | with_reducible refine Ext.dr ?_ | with_reducible refine Ext.st ?_ (by simp) _ | with_reducible refine Ext.tr ?_ (by assumption))), k + 1, by omega, by go_num, Lib.hid (by rw [fstE_succ hF.out, HE9.out])⟩, by simp [intOf]; omega⟩
    · have hks : k = l.length := by omega
      subst hks
      have HZ : Hid (E = 0) := Lib.hid (by rw [← HT.out]; exact hF.out)
      go_wp2
      go_ret
      exact ⟨ret_int (by rw [HZ.out]), by (repeat (first | with_reducible exact Ext.rfl' _ | with_reducible assumption | with_reducible refine Ext.al ?_ _ | with_reducible refine Ext.dr ?_ | with_reducible refine Ext.st ?_ (by simp) _ | with_reducible refine Ext.tr ?_ (by assumption)))⟩
end Go.Proofs.Ytgnakeemcccfjaa

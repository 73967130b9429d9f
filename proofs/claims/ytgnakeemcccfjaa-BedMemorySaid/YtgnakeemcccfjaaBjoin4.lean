/- The contract of the reference's Shoalest. -/
import Derived.Test.YtgnakeemcccfjaaBjoin3
namespace Go.Proofs.Ytgnakeemcccfjaa
open Go Go.RowKit Go.IntWalk

/-- The level that the reference's Shoalest gives a cell. -/
def shF (g h : Gr) (k : Nat) : Int := if gi g.L k ≠ 30000 ∧ laF g h k < gi g.L k then gi g.L k else laF g h k
theorem OutG.re {base : Nat} {g : Gr} {f : Nat → Int} {e : Ending} {w' : World} (h : OutG base (reL g f) e w') : ∃ A c, e = .returned (.agg #[.int .i64 g.X, .int .i64 g.Y, .int .i64 g.S, .int .i64 g.C, .int .i64 g.R, .slice A g.L.length c]) ∧ NewZ base w' A c (mkL f g.L.length) := by
  obtain ⟨A, c, he, hN⟩ := h
  refine ⟨A, c, ?_, hN⟩
  have e1 : (reL g f).L.length = g.L.length := mkL_len _ _
  rw [e1] at he
  exact he
theorem RlW.ext' {w wr w' : World} {g h : Gr} {A B : Option Addr} {c d na nb nz no q c2 : Nat} {f : Nat → Int} (r : RlW w wr g h A B c d na nb nz no q c2 f) (hE : Ext wr w') : RlW w w' g h A B c d na nb nz no q c2 f :=
  ⟨r.ext.tr hE, r.ba.ext hE, r.bb.ext hE, r.kz.ext hE r.lz, fun o => (hE.frz _ o r.lz).trans (r.fr o), r.ko.ext hE r.lo, r.own.ext hE, hE.sz _ r.lo, hE.sz _ r.lz, r.dq, r.d1, r.d2, r.d3, r.d4⟩
set_option maxHeartbeats 8000000 in
set_option maxRecDepth 100000 in
theorem rshoalest_c (g h : Gr) (w : World) (A B : Option Addr) (c d : Nat) (hn : 0 < h.L.length) (hl : h.L.length ≤ 1100) (hlen : g.L.length = h.L.length) (hA : Row 1 encZ w A g.L) (hB : Row 1 encZ w B h.L) :
    Calls Try.prog 41 #[.agg #[.int .i64 g.X, .int .i64 g.Y, .int .i64 g.S, .int .i64 g.C, .int .i64 g.R, .slice A g.L.length c], .agg #[.int .i64 h.X, .int .i64 h.Y, .int .i64 h.S, .int .i64 h.C, .int .i64 h.R, .slice B h.L.length d]] w fun e w' => OutG w.heap.size (reL h (shF g h)) e w' ∧ Ext w w' := by
  have HC := Lib.hid (fun w' (hw : Ext w w') => (rlatest_c g h w' A B c d hn hl hlen (hA.ext hw) (hB.ext hw)).mono fun e w'' ⟨h1, h2⟩ => And.intro (OutG.re h1) h2)
  have HLEN := Lib.hid hlen
  have HA := Lib.hid hA
  have HB := Lib.hid hB
  clear hlen hA hB
  go_enter Try.func41, Try.ntmps41
  go_upto_region 2 with (first | (go_at_call 40; (with_reducible refine Calls.mono (HC.out _ (by (repeat (first | with_reducible exact Ext.rfl' _ | with_reducible assumption | with_reducible refine Ext.al ?_ _ | with_reducible refine Ext.dr ?_ | with_reducible refine Ext.st ?_ (by simp) _ | with_reducible refine Ext.tr ?_ (by assumption))))) ?_); rintro e w1 ⟨⟨A2, c2, rfl, hN⟩, hb⟩; have hc := hb.ccell; have hf := hb.frz; have hs := hb.sz; (try simp at hs); (try have t0 := hs (w.heap.size) (by first | assumption | omega)); (try have t1 := hs (w.heap.size + 1) (by first | assumption | omega)); (try have t2 := hs (w.heap.size + 1 + 1) (by first | assumption | omega)); (try have t3 := hs (w.heap.size) (by first | assumption | omega)); (try have t4 := hs (w.heap.size) (by first | assumption | omega)); (try have t5 := hs (w.heap.size) (by first | assumption | omega))))
  obtain ⟨hN1, hN2, hN3⟩ := hN
  rcases hN3 with ⟨h0, _⟩ | ⟨q, rfl, hq, hO⟩
  · have := congrArg List.length h0; rw [mkL_len, List.length_nil] at this; omega
  simp at hq
  have hE1 : Ext w w1 := by (repeat (first | with_reducible exact Ext.rfl' _ | with_reducible assumption | with_reducible refine Ext.al ?_ _ | with_reducible refine Ext.dr ?_ | with_reducible refine Ext.st ?_ (by simp) _ | with_reducible refine Ext.tr ?_ (by assumption)))
  have ka : BoxG w1 w.heap.size g A c := by refine ⟨by assumption, cells_six ⟨?_, ?_, ?_, ?_, ?_, ?_⟩⟩ <;> simp [*, go_sem]
  have kb : BoxG w1 (w.heap.size + 1) h B d := by refine ⟨by assumption, cells_six ⟨?_, ?_, ?_, ?_, ?_, ?_⟩⟩ <;> simp [*, go_sem]
  have kz : CellsAt w1 (w.heap.size + 1 + 1) 0 [.int .i64 0, .int .i64 0, .int .i64 0, .int .i64 0, .int .i64 0, .slice none 0 0] := by refine cells_six ⟨?_, ?_, ?_, ?_, ?_, ?_⟩ <;> simp [*, go_sem]
  have fr : ∀ o, w1.frozen? ⟨w.heap.size + 1 + 1, o, none⟩ = false := by intro o; rw [hf _ _ (by simp)]; simp [go_sem]
  have lz : w.heap.size + 1 + 1 < w1.heap.size := by assumption
  have hq2 := hO.lt
  obtain ⟨W, hW⟩ : ∃ W, W = w1.alloc (.cells #[.int .i64 h.X, .int .i64 h.Y, .int .i64 h.S, .int .i64 h.C, .int .i64 h.R, .slice (some ⟨q, 0, none⟩) h.L.length c2] 24) := ⟨_, rfl⟩
  have hX : Ext w1 W := by rw [hW]; exact Ext.al (Ext.rfl' _) _
  have ko : CellsAt W w1.heap.size 0 [.int .i64 h.X, .int .i64 h.Y, .int .i64 h.S, .int .i64 h.C, .int .i64 h.R, .slice (some ⟨q, 0, none⟩) h.L.length c2] := by rw [hW]; refine cells_six ⟨?_, ?_, ?_, ?_, ?_, ?_⟩ <;> simp [go_sem]
  have hR : Hid (RlW w W g h A B c d w.heap.size (w.heap.size + 1) (w.heap.size + 1 + 1) w1.heap.size q c2 (laF g h)) := Lib.hid ⟨hE1.tr hX, ka.ext hX, kb.ext hX, kz.ext hX lz, fun o => (hX.frz _ o lz).trans (fr o), ko, hO.ext hX, by rw [hW]; simp, hX.sz _ lz, by omega, by omega, by omega, by omega, hq2⟩
  rw [← hW]
  have HCAP := Lib.hid (And.intro (by rw [mkL_len] at hN1; exact hN1) hN2)
  clear hW ka kb kz fr ko hO hN1 hN2 hb hc hf hs hX hE1 HC lz hq2
  (try clear t0); (try clear t1); (try clear t2); (try clear t3); (try clear t4); (try clear t5)
  have hdz : Hid (w.heap.size ≤ w.heap.size + 1 + 1) := Lib.hid (by omega)
  generalize w1.heap.size = no at *
  generalize w.heap.size + 1 + 1 = nz at *
  generalize w.heap.size + 1 = nb at *
  clear hq
  go_wp2
  go_loopw [6] (fun i wr => ∃ k : Nat, k ≤ h.L.length ∧ i = .int .i64 k ∧ Hid (RlW w wr g h A B c d w.heap.size nb nz no q c2 (fun i => if i < k then shF g h i else laF g h i))) (fun i _ => h.L.length - (intOf i).toNat)
  case atStart => exact ⟨0, Nat.zero_le _, rfl, Lib.hid (hR.out.congr fun i _ => by rw [if_neg (by omega)])⟩
  case round =>
    clear hR
    obtain ⟨k, hk, rfl, hR⟩ := hrel
    have hE := hR.out.ext
    obtain ⟨o0, o1, o2, o3, o4, o5⟩ := hR.out.ko.six
    obtain ⟨ha, ka⟩ := hR.out.ba
    obtain ⟨hbz, kb⟩ := hR.out.bb
    have a5 := ka.six.2.2.2.2.2
    have b5 := kb.six.2.2.2.2.2
    have hlo := hR.out.lo
    have hlq := hR.out.own.lt
    by_cases hlt : k < h.L.length
    · have hlt2 : k < g.L.length := by rw [HLEN.out]; exact hlt
      obtain ⟨p1, f1, rfl, hp1, hcell⟩ := HA.out.p1 hlt2
      have e6 := hcell _ hE
      rw [← gi_lt] at e6
      have z1 := hE.sz _ hp1
      have hkz : (0 : Int) ≤ k := by omega
      have hlen2 : k < (mkL (fun i => if i < k then shF g h i else laF g h i) h.L.length).length := by rw [mkL_len]; exact hlt
      have fq := hR.out.own.frozen encZ_len k
      have cq : wr.cell? ⟨q, k, none⟩ = some (.int .i64 (laF g h k)) := hR.out.own.cells encZ_len k _ (by rw [own_of_row.zflat, List.getElem?_eq_getElem hlen2]; simp [mkL])
      have HSH : Hid (shF g h k = if gi g.L k ≠ 30000 ∧ laF g h k < gi g.L k then gi g.L k else laF g h k) := Lib.hid rfl
      have HS : Hid (∀ v w', shF g h k = v → Ext wr w' → RlW w (w'.setCell ⟨q, k, none⟩ (.int .i64 v)) g h (some ⟨p1, f1, none⟩) B c d w.heap.size nb nz no q c2 (fun i => if i < k + 1 then shF g h i else laF g h i)) := Lib.hid fun v w' hv hw => (hR.out.step hw k hlt v).congr fun i _ => by
        by_cases h2 : i = k
        · subst h2; rw [if_pos rfl, if_pos (by omega), hv]
        · rw [if_neg h2]
          by_cases h1 : i < k
          · rw [if_pos h1, if_pos (by omega)]
          · rw [if_neg h1, if_neg (by omega)]
      have HN : Hid (∀ w', shF g h k = laF g h k → Ext wr w' → RlW w w' g h (some ⟨p1, f1, none⟩) B c d w.heap.size nb nz no q c2 (fun i => if i < k + 1 then shF g h i else laF g h i)) := Lib.hid fun w' hv hw => (hR.out.ext' hw).congr fun i _ => by
        by_cases h1 : i < k
        · rw [if_pos h1, if_pos (by omega)]
        · rw [if_neg h1]
          by_cases h2 : i = k
          · subst h2; rw [if_pos (by omega), hv]
          · rw [if_neg (by omega)]
      have zq := hlq
      clear ka kb hcell hlen2 hR
      generalize shF g h k = sh at *
      generalize laF g h k = la at *
      generalize gi g.L k = v at *
      by_cases hu : v = 30000
      · subst hu
        have HV : Hid (sh = la) := Lib.hid (by rw [HSH.out, if_neg (by simp)])
        clear HSH
        go_upto_region 5 with fail
        refine region_grow (by kernel_rfl) (by kernel_rfl) ?_
        repeat (first | go_big_quiet_step (first | fail | fail) | quiet_step (first | fail | fail))
        refine wpQuiet_nil ?_
        intro w1 hb
        have hc := hb.ccell
        have hf := hb.frz
        have hs := hb.sz
        (try simp at hs); (try have hs0 := hs w.heap.size (by omega)); (try have hs1 := hs (w.heap.size + 1) (by omega)); (try have hs2 := hs (w.heap.size + 1 + 1) (by omega)); (try have hs3 := hs (w.heap.size + 1 + 1 + 1) (by omega))
        (try simp only [IntWalk.i64_left])
        have HB := Lib.hid hb
        clear hc hf hs hb
        go_wp2
        exact ⟨⟨k + 1, by omega, by go_num, Lib.hid (HN.out _ HV.out HB.out)⟩, by simp [intOf]; omega⟩
      · have hu' : (v != 30000) = true := by simp [hu]
        by_cases hgt : la < v
        · have HV : Hid (sh = v) := Lib.hid (by rw [HSH.out, if_pos ⟨hu, hgt⟩])
          have hgt' : decide (la < v) = true := decide_eq_true hgt
          clear HSH hu
          go_upto_region 5 with fail
          refine region_grow (by kernel_rfl) (by kernel_rfl) ?_
          repeat (first | go_big_quiet_step (first | fail | fail) | quiet_step (first | fail | fail))
          refine wpQuiet_nil ?_
          intro w1 hb
          have hc := hb.ccell
          have hf := hb.frz
          have hs := hb.sz
          (try simp at hs); (try have hs0 := hs w.heap.size (by omega)); (try have hs1 := hs (w.heap.size + 1) (by omega)); (try have hs2 := hs (w.heap.size + 1 + 1) (by omega)); (try have hs3 := hs (w.heap.size + 1 + 1 + 1) (by omega))
          (try simp only [IntWalk.i64_left])
          have HB0 := Lib.hid hb
          have o5 := (hb.ccell _ _ hlo).trans o5
          have a5 := (hb.ccell _ _ ha).trans a5
          have e6 := (hb.ccell _ _ z1).trans e6
          have fq := (hb.frz q k hlq).trans fq
          have cq := (hb.ccell q k hlq).trans cq
          have hlq := hs q hlq
          have hlo := hs _ hlo
          have ha := hs _ ha
          have z1 := hs _ z1
          clear hc hf hs hb o0 o1 o2 o3 o4
          go_upto_region 6 with fail
          refine region_grow_tail 9 (by kernel_rfl) (by kernel_rfl) ?_
          simp only [List.take_succ_cons, List.take_zero, List.drop_succ_cons, List.drop_zero]
          repeat (first | go_big_quiet_step (first | fail | fail) | quiet_step (first | fail | fail))
          refine wpQuiet_nil ?_
          intro w1 hb
          have hc := hb.ccell
          have hf := hb.frz
          have hs := hb.sz
          (try simp at hs); (try have hs0 := hs w.heap.size (by omega)); (try have hs1 := hs (w.heap.size + 1) (by omega)); (try have hs2 := hs (w.heap.size + 1 + 1) (by omega)); (try have hs3 := hs (w.heap.size + 1 + 1 + 1) (by omega))
          have fq1 := (hb.frz q k hlq).trans fq
          have cq1 := (hb.ccell q k hlq).trans cq
          have hlq1 := hs q hlq
          have HB := Lib.hid (HB0.out.tr hb)
          clear hc hf hs hb
          go_wp2
          exact ⟨⟨k + 1, by omega, by go_num, Lib.hid (HS.out _ _ HV.out HB.out)⟩, by simp [intOf]; omega⟩
        · have HV : Hid (sh = la) := Lib.hid (by rw [HSH.out, if_neg (by intro h9; exact hgt h9.2)])
          have hgt' : decide (la < v) = false := decide_eq_false hgt
          clear HSH hu
          go_upto_region 5 with fail
          refine region_grow (by kernel_rfl) (by kernel_rfl) ?_
          repeat (first | go_big_quiet_step (first | fail | fail) | quiet_step (first | fail | fail))
          refine wpQuiet_nil ?_
          intro w1 hb
          have hc := hb.ccell
          have hf := hb.frz
          have hs := hb.sz
          (try simp at hs); (try have hs0 := hs w.heap.size (by omega)); (try have hs1 := hs (w.heap.size + 1) (by omega)); (try have hs2 := hs (w.heap.size + 1 + 1) (by omega)); (try have hs3 := hs (w.heap.size + 1 + 1 + 1) (by omega))
          (try simp only [IntWalk.i64_left])
          have HB := Lib.hid hb
          clear hc hf hs hb
          go_wp2
          exact ⟨⟨k + 1, by omega, by go_num, Lib.hid (HN.out _ HV.out HB.out)⟩, by simp [intOf]; omega⟩
    · have hks : k = h.L.length := by omega
      have hkz := hR.out.kz
      have frz := hR.out.fr
      have hlz := hR.out.lz
      have hd3 := hR.out.d3
      have hdq := hR.out.dq
      obtain ⟨r0, r1, r2, r3, r4, r5⟩ := hkz.six
      have HO : Hid (OwnK 3 1 encZ wr q c2 (mkL (shF g h) h.L.length)) := Lib.hid (by rw [mkL_congr (f' := fun i => if i < k then shF g h i else laF g h i) fun i hi => by rw [if_pos (by omega)]]; exact hR.out.own)
      have hcap : Hid (h.L.length ≤ c2 ∧ c2 ≤ maxLen) := HCAP
      clear hks ka kb a5 b5
      go_wp2
      have hSL := stL_at nz [.int .i64 h.X, .int .i64 h.Y, .int .i64 h.S, .int .i64 h.C, .int .i64 h.R, .slice (some ⟨q, 0, none⟩) h.L.length c2] _ 0 _ hkz rfl
      have hXL := stL_ext nz hdz.out [.int .i64 h.X, .int .i64 h.Y, .int .i64 h.S, .int .i64 h.C, .int .i64 h.R, .slice (some ⟨q, 0, none⟩) h.L.length c2] 0 _ hE
      have hOL := stL_own nz (show q ≠ nz by omega) [.int .i64 h.X, .int .i64 h.Y, .int .i64 h.S, .int .i64 h.C, .int .i64 h.R, .slice (some ⟨q, 0, none⟩) h.L.length c2] 0 _ HO.out
      show bodyPost _ _ _ _ _ (stL wr nz 0 [.int .i64 h.X, .int .i64 h.Y, .int .i64 h.S, .int .i64 h.C, .int .i64 h.R, .slice (some ⟨q, 0, none⟩) h.L.length c2])
      generalize stL wr nz 0 [.int .i64 h.X, .int .i64 h.Y, .int .i64 h.S, .int .i64 h.C, .int .i64 h.R, .slice (some ⟨q, 0, none⟩) h.L.length c2] = WL at *
      obtain ⟨s0, s1, s2, s3, s4, s5⟩ := hSL.six
      refine bodyPost_ret (v := .agg #[.int .i64 h.X, .int .i64 h.Y, .int .i64 h.S, .int .i64 h.C, .int .i64 h.R, .slice (some ⟨q, 0, none⟩) h.L.length c2]) (by simp [results, Try.results41, go_sem, s0, s1, s2, s3, s4, s5]) rfl ⟨⟨some ⟨q, 0, none⟩, c2, ?_, ?_⟩, hXL⟩
      · show _ = Ending.returned (.agg #[.int .i64 h.X, .int .i64 h.Y, .int .i64 h.S, .int .i64 h.C, .int .i64 h.R, .slice (some ⟨q, 0, none⟩) (mkL (shF g h) h.L.length).length c2])
        rw [mkL_len]
      · exact ⟨by show (mkL (shF g h) h.L.length).length ≤ _; rw [mkL_len]; exact hcap.out.1, hcap.out.2, .inr ⟨q, rfl, by omega, hOL⟩⟩
end Go.Proofs.Ytgnakeemcccfjaa

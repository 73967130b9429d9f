/- The contracts of checkFront, wedges, soil.Wedge, soil.Undermined. -/
import Derived.Test.YtgbkjioajmnjbaaGreatSwe
import Derived.Test.YtgbkjioajmnjbaaGreatSslumps
namespace Go.Proofs.YtgbkjioajmnjbaaGreat
open Go Go.RowKit Go.IntWalk

/-- What is wrong with a quay, or with the grid in front of it. -/
def frE (q : Qu) (g : Gr) : Int := if quE q ≠ 0 then quE q else chkG g
theorem frE_ok {q : Qu} {g : Gr} (h : frE q g = 0) : quE q = 0 ∧ chkG g = 0 := by
  unfold frE at h
  by_cases h1 : quE q = 0
  · rw [if_neg (by omega)] at h; exact ⟨h1, h⟩
  · rw [if_pos h1] at h; exact absurd h h1
set_option maxHeartbeats 4000000 in
theorem checkFront_c (q : Qu) (g : Gr) (w : World) (A : Option Addr) (c : Nat) (hl : g.L.length ≤ maxLen) (hA : Row 1 encZ w A g.L) :
    Calls Tryz.prog 20 #[.agg #[.string q.s, .int .i64 q.a.x, .int .i64 q.a.y, .int .i64 q.b.x, .int .i64 q.b.y, .int .i64 q.lev, .int .i64 q.run], .agg #[.int .i64 g.X, .int .i64 g.Y, .int .i64 g.S, .int .i64 g.C, .int .i64 g.R, .slice A g.L.length c]] w fun e w' => e = .returned (.int .i64 (frE q g)) ∧ Ext w w' := by
  have HQ := Lib.hid (fun w => checkQuay_c q w)
  have HC := Lib.hid (fun w' (hw : Ext w w') => check_c g w' A c hl (hA.ext hw))
  unfold frE
  by_cases h0 : quE q = 0
  · rw [if_neg (by omega)]
    rw [h0] at HQ
    clear h0 hA hl
    generalize chkG g = E at *
    go_enter Tryz.func20, Tryz.ntmps20
    go_wp2_with (first | (go_at_call 8; with_reducible refine Calls.mono (HQ.out _) ?_; rintro e w1 ⟨rfl, hb⟩; have hc := hb.ccell; have hf := hb.frz; have hs := hb.sz; (try simp at hs); (try have t0 := hs (w.heap.size) (by first | assumption | omega)); (try have t1 := hs (w.heap.size + 1) (by first | assumption | omega)); (try have t2 := hs (w.heap.size) (by first | assumption | omega)); (try have t3 := hs (w.heap.size) (by first | assumption | omega)); (try have t4 := hs (w.heap.size) (by first | assumption | omega)); (try have t5 := hs (w.heap.size) (by first | assumption | omega))) | (go_at_call 42; with_reducible refine Calls.mono (HC.out _ (by (repeat (first | with_reducible exact Ext.rfl' _ | with_reducible assumption | with_reducible refine Ext.al ?_ _ | with_reducible refine Ext.dr ?_ | with_reducible refine Ext.st ?_ (by simp) _ | with_reducible refine Ext.tr ?_ (by assumption))))) ?_; rintro e w2 ⟨rfl, hb⟩; have hc := hb.ccell; have hf := hb.frz; have hs := hb.sz; (try simp at hs); (try have t0 := hs (w.heap.size) (by first | assumption | omega)); (try have t1 := hs (w.heap.size + 1) (by first | assumption | omega)); (try have t2 := hs (w.heap.size) (by first | assumption | omega)); (try have t3 := hs (w.heap.size) (by first | assumption | omega)); (try have t4 := hs (w.heap.size) (by first | assumption | omega)); (try have t5 := hs (w.heap.size) (by first | assumption | omega))))
    go_ret
    exact ⟨rfl, by (repeat (first | with_reducible exact Ext.rfl' _ | with_reducible assumption | with_reducible refine Ext.al ?_ _ | with_reducible refine Ext.dr ?_ | with_reducible refine Ext.st ?_ (by simp) _ | with_reducible refine Ext.tr ?_ (by assumption)))⟩
  · rw [if_pos h0]
    have h0' : (quE q != 0) = true := by simp [h0]
    clear h0 hA hl HC
    generalize quE q = E at *
    go_enter Tryz.func20, Tryz.ntmps20
    go_wp2_with (first | (go_at_call 8; with_reducible refine Calls.mono (HQ.out _) ?_; rintro e w1 ⟨rfl, hb⟩; have hc := hb.ccell; have hf := hb.frz; have hs := hb.sz; (try simp at hs); (try have t0 := hs (w.heap.size) (by first | assumption | omega)); (try have t1 := hs (w.heap.size + 1) (by first | assumption | omega)); (try have t2 := hs (w.heap.size) (by first | assumption | omega)); (try have t3 := hs (w.heap.size) (by first | assumption | omega)); (try have t4 := hs (w.heap.size) (by first | assumption | omega)); (try have t5 := hs (w.heap.size) (by first | assumption | omega))))
    go_ret
    exact ⟨rfl, by (repeat (first | with_reducible exact Ext.rfl' _ | with_reducible assumption | with_reducible refine Ext.al ?_ _ | with_reducible refine Ext.dr ?_ | with_reducible refine Ext.st ?_ (by simp) _ | with_reducible refine Ext.tr ?_ (by assumption)))⟩
set_option maxHeartbeats 8000000 in
set_option maxRecDepth 100000 in
theorem wedges_c (q : Qu) (g : Gr) (cn : Nat) (w : World) (A : Option Addr) (c : Nat) (hq : quE q = 0) (h0 : chkG g = 0) (hC : g.C = cn) (hA : Row 1 encZ w A g.L) :
    Calls Tryz.prog 22 #[.agg #[.string q.s, .int .i64 q.a.x, .int .i64 q.a.y, .int .i64 q.b.x, .int .i64 q.b.y, .int .i64 q.lev, .int .i64 q.run], .agg #[.int .i64 g.X, .int .i64 g.Y, .int .i64 g.S, .int .i64 g.C, .int .i64 g.R, .slice A g.L.length c]] w fun e w' => OutZ w.heap.size (wdL q g cn) e w' ∧ Ext w w' := by
  have vg := chkG_ok h0
  obtain ⟨cn', rn, e1, e2, e3, e4, e5, e6, e7, e8⟩ := vg.nat
  have hn : g.L.length ≤ 1024 := by omega
  have HWD := Lib.hid (fun i (hi : i < g.L.length) w' => wedgeAt_c q ⟨ctX g cn i, ctY g cn i⟩ w' hq (ct_in vg hC hi))
  have HCE := Lib.hid (fun w' (hw : Ext w w') => centres_c g cn w' A c h0 hC (hA.ext hw))
  obtain ⟨F, hF⟩ : ∃ F : Nat → Int, F = wdC q g cn := ⟨_, rfl⟩
  have HFF : Hid (∀ i, wdV q ⟨ctX g cn i, ctY g cn i⟩ = F i) := Lib.hid (fun i => by rw [hF]; rfl)
  unfold wdL
  rw [← hF]
  obtain ⟨i0, hi, hz0, hz1, hz2⟩ := info_parts infoZ
  clear hF vg hA h0 hq e1 e2 e3 e4 e5 e6 e7 e8 hC
  go_enter Tryz.func22, Tryz.ntmps22
  go_upto_region 1 with fail
  refine wp_name (fun W hW => ?_)
  have hEW : Ext w W := by rw [hW]; (repeat (first | with_reducible exact Ext.rfl' _ | with_reducible assumption | with_reducible refine Ext.al ?_ _ | with_reducible refine Ext.dr ?_ | with_reducible refine Ext.st ?_ (by simp) _ | with_reducible refine Ext.tr ?_ (by assumption)))
  have kq : CellsAt W w.heap.size 0 [.string q.s, .int .i64 q.a.x, .int .i64 q.a.y, .int .i64 q.b.x, .int .i64 q.b.y, .int .i64 q.lev, .int .i64 q.run] := by rw [hW]; refine cells_seven ⟨?_, ?_, ?_, ?_, ?_, ?_, ?_⟩ <;> simp [go_sem]
  have km : CellsAt W (w.heap.size + 1) 0 [.int .i64 g.X, .int .i64 g.Y, .int .i64 g.S, .int .i64 g.C, .int .i64 g.R, .slice A g.L.length c] := by rw [hW]; refine cells_six ⟨?_, ?_, ?_, ?_, ?_, ?_⟩ <;> simp [go_sem]
  have z1 : w.heap.size + 1 < W.heap.size := by rw [hW]; simp
  have z0 : w.heap.size < W.heap.size := by omega
  clear hW
  obtain ⟨m0, m1, m2, m3, m4, m5⟩ := km.six
  go_upto_region 2 with (first | (at_make; refine wpList_make_full _ rfl _ _ 26 rfl W.heap.size 3 i0 _ 1 Tryz.underlying26 hi hz0 hz1 .i64 .i64 _ _ g.L.length rfl rfl rfl rfl (by rw [hz2]; omega) (by unfold maxLen; omega) (Nat.le_refl _) ?_; intro wm hown hgr))
  have hEm : Ext W wm := Below.grown (Ext.rfl' W) hgr (Nat.le_refl _) (by intro q hq; cases hq)
  have hS : OwnK 3 1 encZ wm W.heap.size g.L.length (mkI (fun _ => 0) g.L.length) := own_of_make (by unfold maxLen; omega) (by have h := hown; simp only [Nat.mul_one] at h; exact h)
  have hlm := hS.lt
  have km := km.ext hEm z1
  have kq := kq.ext hEm z0
  have hEm' := hEW.tr hEm
  have hWs := hEW.size
  have z1m := hEm.sz _ z1
  have z0m := hEm.sz _ z0
  clear hown hgr hi hz0 hz1 hz2 m0 m1 m2 m3 m4 m5 hEm hEW
  generalize W.heap.size = g2 at *
  obtain ⟨m0, m1, m2, m3, m4, m5⟩ := km.six
  go_upto_region 3 with (first | (go_at_call 43; (with_reducible refine Calls.mono (HCE.out _ (hEm'.tr (by (repeat (first | with_reducible exact Ext.rfl' _ | with_reducible assumption | with_reducible refine Ext.al ?_ _ | with_reducible refine Ext.dr ?_ | with_reducible refine Ext.st ?_ (by simp) _ | with_reducible refine Ext.tr ?_ (by assumption)))))) ?_); rintro e w3 ⟨⟨rw_, cr, rfl, hqr, hRq⟩, hb⟩; have hc := hb.ccell; have hf := hb.frz; have hs := hb.sz; (try simp at hs); (try have t0 := hs (w.heap.size) (by first | assumption | omega)); (try have t1 := hs (w.heap.size + 1) (by first | assumption | omega)); (try have t2 := hs (g2) (by first | assumption | omega)); (try have t3 := hs (w.heap.size) (by first | assumption | omega)); (try have t4 := hs (w.heap.size) (by first | assumption | omega)); (try have t5 := hs (w.heap.size) (by first | assumption | omega))))
  have hE3 : Ext wm w3 := by (repeat (first | with_reducible exact Ext.rfl' _ | with_reducible assumption | with_reducible refine Ext.al ?_ _ | with_reducible refine Ext.dr ?_ | with_reducible refine Ext.st ?_ (by simp) _ | with_reducible refine Ext.tr ?_ (by assumption)))
  have hEw3 := hEm'.tr hE3
  have kq3 := kq.ext hE3 z0m
  have hO3 := Lib.hid (hS.ext hE3)
  have x0 := hE3.sz _ z0m
  have hqn : rw_ ≠ g2 := by omega
  have n0 : w.heap.size ≠ g2 := by omega
  have hwg : w.heap.size ≤ g2 := by omega
  have hRq' : ∃ l, l = mkP (ctP g cn) g.L.length ∧ Row 2 encP w3 (some ⟨rw_, 0, none⟩) l := ⟨_, rfl, hRq⟩
  obtain ⟨lp, hlp, hRp⟩ := hRq'
  have HLP := Lib.hid hlp
  have hlpl : lp.length = g.L.length := by rw [hlp, mkP_len]
  have HLL := Lib.hid hlpl
  rw [mkP_len]
  rw [← mxL_0 F] at hO3
  clear hlp hRq hlpl hS hlm km kq z0 z1 z0m z1m m0 m1 m2 m3 m4 m5 hc hf hs hb t0 t1 t2 t3 t4 t5 hqr hE3 HCE hWs hEm'
  go_wp2
  go_loopw [15] (fun i wr => w3.grownBy wr (some g2) ∧ ∃ k : Nat, k ≤ g.L.length ∧ i = .int .i64 k ∧ Hid (OwnK 3 1 encZ wr g2 g.L.length (mxL F (fun _ => 0) g.L.length k))) (fun i _ => g.L.length - (intOf i).toNat)
  case atStart => exact ⟨tch_refl _ _, 0, Nat.zero_le _, rfl, hO3⟩
  case round =>
    clear hO3
    obtain ⟨hT, k, hk, rfl, hO⟩ := hrel
    have hEr := tch_to_ext hT hEw3 hwg
    have kqr := CellsAt.grown kq3 hT x0 (by intro e; injection e with e; exact n0 e)
    have y0 : w.heap.size < wr.heap.size := Nat.lt_of_lt_of_le x0 hT.size
    obtain ⟨j0, j1, j2, j3, j4, j5, j6⟩ := kqr.seven
    have zg := hO.out.lt
    by_cases hlt : k < g.L.length
    · obtain ⟨qq, off, hqq, hb0, hcell⟩ := (tch_row hT hRp hqn).p2 (k := k) (by rw [HLL.out]; exact hlt)
      injection hqq with hqq
      injection hqq with hq1 hq2
      subst hq1 hq2
      obtain ⟨px, py⟩ := hcell _ (Ext.rfl' _)
      have hpk : lp[k]'(by rw [HLL.out]; exact hlt) = ⟨ctX g cn k, ctY g cn k⟩ := by simp only [HLP.out]; rw [mkP_get]; rfl
      rw [hpk] at px py
      simp only [Nat.zero_add] at px py
      have HK := Lib.hid (fun w' => HWD.out k hlt w')
      rw [HFF.out] at HK
      have hOS : Hid (∀ w', Ext wr w' → OwnK 3 1 encZ (w'.setCell ⟨g2, k, none⟩ (.int .i64 (F k))) g2 g.L.length (mxL F (fun _ => 0) g.L.length (k + 1))) := Lib.hid (fun w' hw => by
        have h1 := (hO.out.ext hw).setZ k (by rw [mxL_len]; exact hlt) (F k)
        rw [mxL_set] at h1
        exact h1)
      have lz : ∀ w', Ext wr w' → w'.cell? ⟨g2, k, none⟩ = some (.int .i64 0) := fun w' hw => by
        have h1 := (hO.out.ext hw).z (i := k) (by rw [mxL_len]; exact hlt)
        rw [mxL_gi _ _ hlt] at h1
        exact h1
      have fg : ∀ w', Ext wr w' → w'.frozen? ⟨g2, k, none⟩ = false := fun w' hw => (hO.out.ext hw).frozen encZ_len k
      have HLZ := Lib.hid (And.intro lz fg)
      have hki : (k : Int) < (g.L.length : Int) := by omega
      clear lz fg hO hcell hpk
      generalize ctX g cn k = cx at *
      generalize ctY g cn k = cy at *
      generalize F k = fk at *
      have l0 := HLZ.out.1 _ (Ext.rfl' wr)
      have f0 := HLZ.out.2 _ (Ext.rfl' wr)
      go_upto_region 6 with (first | (go_at_call 44; (with_reducible refine Calls.mono (HK.out _) ?_); rintro e w4 ⟨rfl, hb⟩; have hc := hb.ccell; have hf := hb.frz; have hs := hb.sz; (try simp at hs); (try have t0 := hs (w.heap.size) (by first | assumption | omega)); (try have t1 := hs (g2) (by first | assumption | omega)); (try have t2 := hs (wr.heap.size) (by first | assumption | omega)); (try have t3 := hs (w.heap.size) (by first | assumption | omega)); (try have t4 := hs (w.heap.size) (by first | assumption | omega)); (try have t5 := hs (w.heap.size) (by first | assumption | omega))))
      have hE4 : Ext wr w4 := by (repeat (first | with_reducible exact Ext.rfl' _ | with_reducible assumption | with_reducible refine Ext.al ?_ _ | with_reducible refine Ext.dr ?_ | with_reducible refine Ext.st ?_ (by simp) _ | with_reducible refine Ext.tr ?_ (by assumption)))
      have hT4 := tch_set (tch_ext hT hE4) k (.int .i64 fk)
      have hO4 := Lib.hid (hOS.out _ hE4)
      clear hb hc hf hs
      go_wp2
      exact ⟨⟨hT4, k + 1, by omega, by go_num, hO4⟩, by simp [intOf]; omega⟩
    · have hks : k = g.L.length := by omega
      subst hks
      have hN := newZ_own hO.out hwg
      rw [mxL_end] at hN
      go_wp2
      go_ret
      exact ⟨⟨_, _, by rw [mkI_len]; rfl, hN⟩, hEr⟩
end Go.Proofs.YtgbkjioajmnjbaaGreat

/- The contract of checkNamed for borings, of CheckGround. -/
import Derived.Test.YtgbkjioajmnjbaaGreatSboring
namespace Go.Proofs.YtgbkjioajmnjbaaGreat
open Go Go.RowKit Go.IntWalk

/-- The layers of borings lie in the world. -/
def BoW (w : World) (l : List Bo) : Prop := ∀ k, k < l.length → Row 2 encLa w (el l k).A (el l k).l ∧ (el l k).l.length ≤ 1000 ∧ (el l k).l.length ≤ (el l k).c
theorem BoW.ext {w w' : World} {l : List Bo} (h : BoW w l) (hw : Ext w w') : BoW w' l := fun k hk => ⟨(h k hk).1.ext hw, (h k hk).2⟩
theorem boName_c (x : Bo) (w : World) :
    Calls Tryz.prog 96 #[.agg #[.string x.s, .int .i64 x.x, .int .i64 x.y, .slice x.A x.l.length x.c]] w fun e w' => OutS1 x.s e w' ∧ Ext w w' := by
  go_enter Tryz.func96, Tryz.ntmps96
  go_wp2
  go_ret
  exact ⟨⟨_, _, rfl, Row.new' encS_len _ _ _ _ _ (by simp) rfl⟩, by (repeat (first | with_reducible exact Ext.rfl' _ | with_reducible assumption | with_reducible refine Ext.al ?_ _ | with_reducible refine Ext.dr ?_ | with_reducible refine Ext.st ?_ (by simp) _ | with_reducible refine Ext.tr ?_ (by assumption)))⟩
set_option maxHeartbeats 8000000 in
theorem namedBo_c (soils : List So) (l : List Bo) (v2 : Value) (w : World) (A AS : Option Addr) (c cS : Nat) (hl : l.length ≤ 1000) (hA : Row 4 encBo w A l) (hB : BoW w l) (hls : soils.length ≤ 1000) (hAS : Row 5 encSo w AS soils) (hv2 : v2.oneCell' = true) :
    Calls Tryz.prog 95 #[.slice A l.length c, .func (.func 96) #[] #[], .func (.func 97) #[.agg #[.slice AS soils.length cS, v2]] #[]] w
      fun e w' => e = .returned (.int .i64 (firstE (bosE soils l) l.length)) ∧ Ext w w' := by
  obtain ⟨E, hE0⟩ : ∃ E, firstE (bosE soils l) l.length = E := ⟨_, rfl⟩
  rw [hE0]
  have HE := Lib.hid hE0
  have hmm := @run_makeMap Tryz.prog
  clear hE0
  go_enter Tryz.func95, Tryz.ntmps95
  go_wp2
  have hS : SetS (w.alloc (.map #[] 0)) w.heap.size 0 (nmSet (fun k => (el l k).s) 0) := SetS.made w
  have hX0 : Ext w (w.alloc (.map #[] 0)) := Ext.al (Ext.rfl' w) _
  have HS0 := Lib.hid hS
  generalize w.alloc (.map #[] 0) = w0 at *
  clear hS hmm
  go_loopw [15] (fun i wr => Ext w wr ∧ ∃ k : Nat, k ≤ l.length ∧ i = .int .i64 k ∧ Hid (SetS wr w.heap.size k (nmSet (fun k => (el l k).s) k)) ∧ Hid (firstE (bosE soils l) k = 0)) (fun i _ => l.length - (intOf i).toNat)
  case atStart => exact ⟨hX0, 0, Nat.zero_le _, rfl, HS0, rfl⟩
  case round =>
    obtain ⟨hE, k, hk, rfl, hS, hF⟩ := hrel
    by_cases hlt : k < l.length
    · obtain ⟨b, off, rfl, hb0, hcell⟩ := hA.bo hlt
      have c1 := hcell _ hE
      have hz := hE.sz _ hb0
      have HSE : Hid (bosE soils l k = if (!nameB (el l k).s) = true then 4 else if nmSet (fun k => (el l k).s) k (el l k).s = true then 5 else boE soils (el l k)) := rfl
      have HNX := Lib.hid (nmSet_succ (fun k => (el l k).s) k (el l k).s rfl)
      clear hcell
      have HBW := Lib.hid (hB k hlt)
      generalize el l k = x at *
      have HN := Lib.hid (fun w' => boName_c x w')
      have HNO := Lib.hid (fun w' A c hr => containsNo1_c x.s w' A c hr)
      have HCK := Lib.hid (fun w' (hw : Ext w w') => checkBoring_c soils x v2 w' AS cS hls HBW.out.2.1 HBW.out.2.2 (hAS.ext hw) (HBW.out.1.ext hw) hv2)
      have hsz := hS.out.lt
      go_upto_region 5 with fail
      refine wp_name (fun W hW => ?_)
      have hEW : Ext wr W := by rw [hW]; (repeat (first | with_reducible exact Ext.rfl' _ | with_reducible assumption | with_reducible refine Ext.al ?_ _ | with_reducible refine Ext.dr ?_ | with_reducible refine Ext.st ?_ (by simp) _ | with_reducible refine Ext.tr ?_ (by assumption)))
      have s0 : W.cell? ⟨wr.heap.size, 0, none⟩ = some (.string x.s) := by rw [hW]; simp [go_sem]
      have s1 : W.cell? ⟨wr.heap.size, 1, none⟩ = some (.int .i64 x.x) := by rw [hW]; simp [go_sem]
      have s2 : W.cell? ⟨wr.heap.size, 2, none⟩ = some (.int .i64 x.y) := by rw [hW]; simp [go_sem]
      have s3 : W.cell? ⟨wr.heap.size, 3, none⟩ = some (.slice x.A x.l.length x.c) := by rw [hW]; simp [go_sem]
      have hWz : wr.heap.size < W.heap.size := by rw [hW]; simp
      have hww : w.heap.size < W.heap.size := by omega
      have HSW := Lib.hid (hS.out.ext hEW)
      have hEw : Ext w W := hE.tr hEW
      clear hW hS c1 hz hb0
      cases hb : nameB x.s
      · rw [hb] at HNO HSE
        have HT : Hid ((4 : Int) = E) := Lib.hid (by rw [← HE.out, firstE_at (bosE soils l) hF.out (by rw [HSE.out]; simp) hlt, HSE.out]; rfl)
        clear hb
        go_wp2_with (first | (go_at_call 96; (with_reducible refine Calls.mono (HN.out _) ?_); rintro e w1 ⟨⟨A1, c1', rfl, hR1⟩, hb⟩; have hc := hb.ccell; have hf := hb.frz; have hs := hb.sz; (try simp at hs); (try have t0 := hs (wr.heap.size) (by first | assumption | omega)); (try have t1 := hs (w.heap.size) (by first | assumption | omega)); (try have t2 := hs (w.heap.size) (by first | assumption | omega)); (try have t3 := hs (w.heap.size) (by first | assumption | omega)); (try have t4 := hs (w.heap.size) (by first | assumption | omega)); (try have t5 := hs (w.heap.size) (by first | assumption | omega))) | (go_at_call 108; with_reducible refine Calls.mono (HNO.out _ _ _ (hR1.ext (by (repeat (first | with_reducible exact Ext.rfl' _ | with_reducible assumption | with_reducible refine Ext.al ?_ _ | with_reducible refine Ext.dr ?_ | with_reducible refine Ext.st ?_ (by simp) _ | with_reducible refine Ext.tr ?_ (by assumption)))))) ?_; rintro e w2 ⟨rfl, hb⟩; have hc := hb.ccell; have hf := hb.frz; have hs := hb.sz; (try simp at hs); (try have t0 := hs (wr.heap.size) (by first | assumption | omega)); (try have t1 := hs (w.heap.size) (by first | assumption | omega)); (try have t2 := hs (w.heap.size) (by first | assumption | omega)); (try have t3 := hs (w.heap.size) (by first | assumption | omega)); (try have t4 := hs (w.heap.size) (by first | assumption | omega)); (try have t5 := hs (w.heap.size) (by first | assumption | omega))))
        go_ret
        exact ⟨ret_int HT.out, by (repeat (first | with_reducible exact Ext.rfl' _ | with_reducible assumption | with_reducible refine Ext.al ?_ _ | with_reducible refine Ext.dr ?_ | with_reducible refine Ext.st ?_ (by simp) _ | with_reducible refine Ext.tr ?_ (by assumption)))⟩
      rw [hb] at HNO HSE
      have hnl := Lib.hid (name_le hb)
      clear hb
      go_upto_region 8 with (first | (go_at_call 96; (with_reducible refine Calls.mono (HN.out _) ?_); rintro e w1 ⟨⟨A1, c1', rfl, hR1⟩, hb⟩; have hc := hb.ccell; have hf := hb.frz; have hs := hb.sz; (try simp at hs); (try have t0 := hs (wr.heap.size) (by first | assumption | omega)); (try have t1 := hs (w.heap.size) (by first | assumption | omega)); (try have t2 := hs (w.heap.size) (by first | assumption | omega)); (try have t3 := hs (w.heap.size) (by first | assumption | omega)); (try have t4 := hs (w.heap.size) (by first | assumption | omega)); (try have t5 := hs (w.heap.size) (by first | assumption | omega))) | (go_at_call 108; with_reducible refine Calls.mono (HNO.out _ _ _ (hR1.ext (by (repeat (first | with_reducible exact Ext.rfl' _ | with_reducible assumption | with_reducible refine Ext.al ?_ _ | with_reducible refine Ext.dr ?_ | with_reducible refine Ext.st ?_ (by simp) _ | with_reducible refine Ext.tr ?_ (by assumption)))))) ?_; rintro e w2 ⟨rfl, hb⟩; have hc := hb.ccell; have hf := hb.frz; have hs := hb.sz; (try simp at hs); (try have t0 := hs (wr.heap.size) (by first | assumption | omega)); (try have t1 := hs (w.heap.size) (by first | assumption | omega)); (try have t2 := hs (w.heap.size) (by first | assumption | omega)); (try have t3 := hs (w.heap.size) (by first | assumption | omega)); (try have t4 := hs (w.heap.size) (by first | assumption | omega)); (try have t5 := hs (w.heap.size) (by first | assumption | omega))))
      obtain ⟨b1, o1, rfl, hb1, hc1⟩ := hR1.s1 (k := 0) (by simp)
      have hE12 : Ext w1 w2 := by assumption
      have hE2 : Ext W w2 := by (repeat (first | with_reducible exact Ext.rfl' _ | with_reducible assumption | with_reducible refine Ext.al ?_ _ | with_reducible refine Ext.dr ?_ | with_reducible refine Ext.st ?_ (by simp) _ | with_reducible refine Ext.tr ?_ (by assumption)))
      have e1 := hc1 w2 hE12
      simp only [List.getElem_cons_zero, Nat.add_zero] at e1
      have HS2 := Lib.hid (HSW.out.ext hE2)
      have hlk := HS2.out.look x.s hnl.out
      have hb1' := hE12.sz _ hb1
      have z2 := hE2.sz _ hWz
      have zw := hE2.sz _ hww
      have k0 := (hE2.ccell _ 0 hWz).trans s0
      have k1 := (hE2.ccell _ 1 hWz).trans s1
      have k2 := (hE2.ccell _ 2 hWz).trans s2
      have k3 := (hE2.ccell _ 3 hWz).trans s3
      have hEw2 := hEw.tr hE2
      clear hc hf hs hb t0 t1 t2 t3 t4 t5 hc1 hR1 s0 s1 s2 s3
      cases hd : nmSet (fun k => (el l k).s) k x.s
      case true =>
        rw [hd] at hlk HSE
        have HT : Hid ((5 : Int) = E) := Lib.hid (by rw [← HE.out, firstE_at (bosE soils l) hF.out (by rw [HSE.out]; simp) hlt, HSE.out]; rfl)
        clear hd
        go_wp2
        go_ret
        exact ⟨ret_int HT.out, by (repeat (first | with_reducible exact Ext.rfl' _ | with_reducible assumption | with_reducible refine Ext.al ?_ _ | with_reducible refine Ext.dr ?_ | with_reducible refine Ext.st ?_ (by simp) _ | with_reducible refine Ext.tr ?_ (by assumption)))⟩
      rw [hd] at hlk HSE
      have hkm : k < maxLen := by unfold maxLen; omega
      clear hd
      go_wp2_with (first | (at_mapUpdate; refine wpList_setPutS rfl _ _ _ rfl w.heap.size k _ rfl HS2.out hkm x.s rfl rfl hnl.out ?_))
      intro w3 hS3 hg3
      rw [HNX.out] at hS3
      have HS3 := Lib.hid hS3
      have j0 := (grown_cellS hg3 z2 (by intro e; injection e with e; omega) 0).trans k0
      have j1 := (grown_cellS hg3 z2 (by intro e; injection e with e; omega) 1).trans k1
      have j2 := (grown_cellS hg3 z2 (by intro e; injection e with e; omega) 2).trans k2
      have j3 := (grown_cellS hg3 z2 (by intro e; injection e with e; omega) 3).trans k3
      have hE3 : Ext w w3 := Below.grown hEw2 hg3 hEw2.size (by intro q hq; injection hq with hq; omega)
      have z3 : wr.heap.size < w3.heap.size := Nat.lt_of_lt_of_le z2 hg3.size
      clear hS3 hg3 hlk e1 k0 k1 k2 k3 z2 zw hb1' HS2 HNX
      have HSE2 : Hid (bosE soils l k = boE soils x) := Lib.hid (by rw [HSE.out]; rfl)
      by_cases hn : boE soils x = 0
      · rw [hn] at HCK HSE2
        clear hn HSE
        go_wp2_with (first | (go_at_call 97; with_reducible refine Calls.mono (HCK.out _ hE3) ?_; rintro e w4 ⟨rfl, hb⟩; have hc := hb.ccell; have hf := hb.frz; have hs := hb.sz; (try simp at hs); (try have t0 := hs (w.heap.size) (by first | assumption | omega)); (try have t1 := hs (w.heap.size) (by first | assumption | omega)); (try have t2 := hs (w.heap.size) (by first | assumption | omega)); (try have t3 := hs (w.heap.size) (by first | assumption | omega)); (try have t4 := hs (w.heap.size) (by first | assumption | omega)); (try have t5 := hs (w.heap.size) (by first | assumption | omega))))
        have hE4 : Ext w3 w4 := by assumption
        exact ⟨⟨hE3.tr hE4, k + 1, by omega, by go_num, Lib.hid (HS3.out.ext hE4), firstE_step _ hF.out HSE2.out⟩, by simp [intOf]; omega⟩
      · have hn' : (boE soils x != 0) = true := by simp [hn]
        have HT : Hid (boE soils x = E) := Lib.hid (by rw [← HE.out, firstE_at (bosE soils l) hF.out (by rw [HSE2.out]; exact hn) hlt, HSE2.out])
        clear hn HSE HSE2
        generalize boE soils x = q at *
        go_wp2_with (first | (go_at_call 97; with_reducible refine Calls.mono (HCK.out _ hE3) ?_; rintro e w4 ⟨rfl, hb⟩; have hc := hb.ccell; have hf := hb.frz; have hs := hb.sz; (try simp at hs); (try have t0 := hs (w.heap.size) (by first | assumption | omega)); (try have t1 := hs (w.heap.size) (by first | assumption | omega)); (try have t2 := hs (w.heap.size) (by first | assumption | omega)); (try have t3 := hs (w.heap.size) (by first | assumption | omega)); (try have t4 := hs (w.heap.size) (by first | assumption | omega)); (try have t5 := hs (w.heap.size) (by first | assumption | omega))))
        have hE4 : Ext w3 w4 := by assumption
        go_ret
        exact ⟨ret_int HT.out, hE3.tr hE4⟩
    · have hks : k = l.length := by omega
      have HT : Hid ((0 : Int) = E) := Lib.hid (by rw [← HE.out, ← hks, hF.out])
      go_wp2
      go_ret
      exact ⟨ret_int HT.out, by (repeat (first | with_reducible exact Ext.rfl' _ | with_reducible assumption | with_reducible refine Ext.al ?_ _ | with_reducible refine Ext.dr ?_ | with_reducible refine Ext.st ?_ (by simp) _ | with_reducible refine Ext.tr ?_ (by assumption)))⟩
set_option maxHeartbeats 2000000 in
theorem icheckBorings_c (soils : List So) (l : List Bo) (w : World) (A AS : Option Addr) (c cS : Nat) (hl : l.length ≤ 1000) (hA : Row 4 encBo w A l) (hB : BoW w l) (hls : soils.length ≤ 1000) (hAS : Row 5 encSo w AS soils) :
    Calls Tryz.prog 77 #[.agg #[.slice AS soils.length cS, .slice A l.length c]] w fun e w' => e = .returned (.int .i64 (chkBos soils l)) ∧ Ext w w' := by
  have HC := Lib.hid (fun w => checkCount_c l.length 20 w)
  unfold chkBos
  by_cases h0 : cntE l.length 20 = 0
  case neg =>
    rw [if_pos h0]
    have h0' : (cntE l.length 20 != 0) = true := by simp [h0]
    clear h0
    generalize cntE l.length 20 = E at *
    go_enter Tryz.func77, Tryz.ntmps77
    go_wp2_with (first | (go_at_call 94; with_reducible refine Calls.mono (HC.out _) ?_; rintro e w' ⟨rfl, rfl⟩))
    go_ret
    exact ⟨rfl, by (repeat (first | with_reducible exact Ext.rfl' _ | with_reducible assumption | with_reducible refine Ext.al ?_ _ | with_reducible refine Ext.dr ?_ | with_reducible refine Ext.st ?_ (by simp) _ | with_reducible refine Ext.tr ?_ (by assumption)))⟩
  rw [if_neg (by omega)]
  rw [h0] at HC
  have HN := Lib.hid (fun w' (hw : Ext w w') => namedBo_c soils l (.slice A l.length c) w' A AS c cS hl (hA.ext hw) (hB.ext hw) hls (hAS.ext hw) rfl)
  generalize firstE (bosE soils l) l.length = E at *
  clear h0
  go_enter Tryz.func77, Tryz.ntmps77
  go_wp2_with (first | (go_at_call 94; with_reducible refine Calls.mono (HC.out _) ?_; rintro e w' ⟨rfl, rfl⟩) | (go_at_call 95; with_reducible refine Calls.mono (HN.out _ (by (repeat (first | with_reducible exact Ext.rfl' _ | with_reducible assumption | with_reducible refine Ext.al ?_ _ | with_reducible refine Ext.dr ?_ | with_reducible refine Ext.st ?_ (by simp) _ | with_reducible refine Ext.tr ?_ (by assumption))))) ?_; rintro e w1 ⟨rfl, hb⟩; have hc := hb.ccell; have hf := hb.frz; have hs := hb.sz; (try simp at hs); (try have hs0 := hs w.heap.size (by omega)); (try have hs1 := hs (w.heap.size + 1) (by omega)); (try have hs2 := hs (w.heap.size + 1 + 1) (by omega)); (try have hs3 := hs (w.heap.size + 1 + 1 + 1) (by omega))))
  go_ret
  exact ⟨rfl, by (repeat (first | with_reducible exact Ext.rfl' _ | with_reducible assumption | with_reducible refine Ext.al ?_ _ | with_reducible refine Ext.dr ?_ | with_reducible refine Ext.st ?_ (by simp) _ | with_reducible refine Ext.tr ?_ (by assumption)))⟩
/-- A ground in memory. -/
structure GrW (w : World) (soils : List So) (AS : Option Addr) (bos : List Bo) (AB : Option Addr) : Prop where
  ls : soils.length ≤ 1000
  lb : bos.length ≤ 1000
  so : Row 5 encSo w AS soils
  bo : Row 4 encBo w AB bos
  la : BoW w bos
theorem GrW.ext {w w' : World} {soils : List So} {AS : Option Addr} {bos : List Bo} {AB : Option Addr} (h : GrW w soils AS bos AB) (hw : Ext w w') : GrW w' soils AS bos AB := ⟨h.ls, h.lb, h.so.ext hw, h.bo.ext hw, h.la.ext hw⟩
set_option maxHeartbeats 2000000 in
theorem checkGround_c (soils : List So) (bos : List Bo) (w : World) (AS AB : Option Addr) (cS cB : Nat) (g : GrW w soils AS bos AB) :
    Calls Tryz.prog 54 #[.agg #[.slice AS soils.length cS, .slice AB bos.length cB]] w fun e w' => e = .returned (.int .i64 (chkGr soils bos)) ∧ Ext w w' := by
  have HS := Lib.hid (fun w' (hw : Ext w w') => checkSoils_c soils w' AS cS g.ls (g.so.ext hw))
  have HB := Lib.hid (fun w' (hw : Ext w w') => icheckBorings_c soils bos w' AB AS cB cS g.lb (g.bo.ext hw) (g.la.ext hw) g.ls (g.so.ext hw))
  unfold chkGr
  clear g
  by_cases h0 : chkSoils soils = 0
  case neg =>
    rw [if_pos h0]
    have h0' : (chkSoils soils != 0) = true := by simp [h0]
    clear h0
    generalize chkSoils soils = E at *
    go_enter Tryz.func54, Tryz.ntmps54
    go_wp2_with (first | (go_at_call 76; with_reducible refine Calls.mono (HS.out _ (by (repeat (first | with_reducible exact Ext.rfl' _ | with_reducible assumption | with_reducible refine Ext.al ?_ _ | with_reducible refine Ext.dr ?_ | with_reducible refine Ext.st ?_ (by simp) _ | with_reducible refine Ext.tr ?_ (by assumption))))) ?_; rintro e w1 ⟨rfl, hb⟩; have hc := hb.ccell; have hf := hb.frz; have hs := hb.sz; (try simp at hs); (try have hs0 := hs w.heap.size (by omega)); (try have hs1 := hs (w.heap.size + 1) (by omega)); (try have hs2 := hs (w.heap.size + 1 + 1) (by omega)); (try have hs3 := hs (w.heap.size + 1 + 1 + 1) (by omega))))
    go_ret
    exact ⟨rfl, by (repeat (first | with_reducible exact Ext.rfl' _ | with_reducible assumption | with_reducible refine Ext.al ?_ _ | with_reducible refine Ext.dr ?_ | with_reducible refine Ext.st ?_ (by simp) _ | with_reducible refine Ext.tr ?_ (by assumption)))⟩
  rw [if_neg (by omega)]
  rw [h0] at HS
  generalize chkBos soils bos = E at *
  clear h0
  go_enter Tryz.func54, Tryz.ntmps54
  go_wp2_with (first | (go_at_call 76; with_reducible refine Calls.mono (HS.out _ (by (repeat (first | with_reducible exact Ext.rfl' _ | with_reducible assumption | with_reducible refine Ext.al ?_ _ | with_reducible refine Ext.dr ?_ | with_reducible refine Ext.st ?_ (by simp) _ | with_reducible refine Ext.tr ?_ (by assumption))))) ?_; rintro e w1 ⟨rfl, hb⟩; have hc := hb.ccell; have hf := hb.frz; have hs := hb.sz; (try simp at hs); (try have hs0 := hs w.heap.size (by omega)); (try have hs1 := hs (w.heap.size + 1) (by omega)); (try have hs2 := hs (w.heap.size + 1 + 1) (by omega)); (try have hs3 := hs (w.heap.size + 1 + 1 + 1) (by omega))) | (go_at_call 77; with_reducible refine Calls.mono (HB.out _ (by (repeat (first | with_reducible exact Ext.rfl' _ | with_reducible assumption | with_reducible refine Ext.al ?_ _ | with_reducible refine Ext.dr ?_ | with_reducible refine Ext.st ?_ (by simp) _ | with_reducible refine Ext.tr ?_ (by assumption))))) ?_; rintro e w1 ⟨rfl, hb⟩; have hc := hb.ccell; have hf := hb.frz; have hs := hb.sz; (try simp at hs); (try have hs0 := hs w.heap.size (by omega)); (try have hs1 := hs (w.heap.size + 1) (by omega)); (try have hs2 := hs (w.heap.size + 1 + 1) (by omega)); (try have hs3 := hs (w.heap.size + 1 + 1 + 1) (by omega))))
  go_ret
  exact ⟨rfl, by (repeat (first | with_reducible exact Ext.rfl' _ | with_reducible assumption | with_reducible refine Ext.al ?_ _ | with_reducible refine Ext.dr ?_ | with_reducible refine Ext.st ?_ (by simp) _ | with_reducible refine Ext.tr ?_ (by assumption)))⟩
end Go.Proofs.YtgbkjioajmnjbaaGreat

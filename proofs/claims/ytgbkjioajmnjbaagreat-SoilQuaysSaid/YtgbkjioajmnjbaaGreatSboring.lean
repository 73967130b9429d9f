/- The contract of checkBoring. -/
import Derived.Test.YtgbkjioajmnjbaaGreatSlayer
namespace Go.Proofs.YtgbkjioajmnjbaaGreat
open Go Go.RowKit Go.IntWalk

set_option maxHeartbeats 8000000 in
theorem checkBoring_c (soils : List So) (bo : Bo) (v2 : Value) (w : World) (A : Option Addr) (c : Nat) (hl : soils.length ≤ 1000) (hL : bo.l.length ≤ 1000) (hLc : bo.l.length ≤ bo.c) (hA : Row 5 encSo w A soils) (hB : Row 2 encLa w bo.A bo.l) (hv2 : v2.oneCell' = true) :
    Calls Tryz.prog 97 #[.agg #[.slice A soils.length c, v2], .agg #[.string bo.s, .int .i64 bo.x, .int .i64 bo.y, .slice bo.A bo.l.length bo.c]] w fun e w' => e = .returned (.int .i64 (boE soils bo)) ∧ Ext w w' := by
  have HP := Lib.hid (fun w => sPlace_c bo.x bo.y w)
  have HC := Lib.hid (fun w => checkCount_c bo.l.length 12 w)
  have HCL := Lib.hid (fun k w' (hw : Ext w w') hk cc => checkLayer_c soils bo.l k v2 w' A bo.A c cc hl hk hL (hA.ext hw) (hB.ext hw) hv2)
  unfold boE
  obtain ⟨s, x, y, L, AL, cL⟩ := bo
  dsimp only at *
  cases hp : plB x y
  · rw [hp] at HP
    rw [if_pos rfl]
    clear hp
    go_enter Tryz.func97, Tryz.ntmps97
    go_wp2_with (first | (go_at_call 25; with_reducible refine Calls.mono (HP.out _) ?_; rintro e w1 ⟨rfl, hb⟩; have hc := hb.ccell; have hf := hb.frz; have hs := hb.sz; (try simp at hs); (try have hs0 := hs w.heap.size (by omega)); (try have hs1 := hs (w.heap.size + 1) (by omega)); (try have hs2 := hs (w.heap.size + 1 + 1) (by omega)); (try have hs3 := hs (w.heap.size + 1 + 1 + 1) (by omega))))
    go_ret
    exact ⟨rfl, by (repeat (first | with_reducible exact Ext.rfl' _ | with_reducible assumption | with_reducible refine Ext.al ?_ _ | with_reducible refine Ext.dr ?_ | with_reducible refine Ext.st ?_ (by simp) _ | with_reducible refine Ext.tr ?_ (by assumption)))⟩
  rw [hp] at HP
  rw [if_neg (by decide)]
  clear hp
  by_cases h0 : cntE L.length 12 = 0
  case neg =>
    rw [if_pos h0]
    have h0' : (cntE L.length 12 != 0) = true := by simp [h0]
    clear h0
    generalize cntE L.length 12 = E at *
    go_enter Tryz.func97, Tryz.ntmps97
    go_wp2_with (first | (go_at_call 25; with_reducible refine Calls.mono (HP.out _) ?_; rintro e w1 ⟨rfl, hb⟩; have hc := hb.ccell; have hf := hb.frz; have hs := hb.sz; (try simp at hs); (try have hs0 := hs w.heap.size (by omega)); (try have hs1 := hs (w.heap.size + 1) (by omega)); (try have hs2 := hs (w.heap.size + 1 + 1) (by omega)); (try have hs3 := hs (w.heap.size + 1 + 1 + 1) (by omega))) | (go_at_call 94; with_reducible refine Calls.mono (HC.out _) ?_; rintro e w' ⟨rfl, rfl⟩))
    go_ret
    exact ⟨rfl, by (repeat (first | with_reducible exact Ext.rfl' _ | with_reducible assumption | with_reducible refine Ext.al ?_ _ | with_reducible refine Ext.dr ?_ | with_reducible refine Ext.st ?_ (by simp) _ | with_reducible refine Ext.tr ?_ (by assumption)))⟩
  rw [if_neg (by omega)]
  rw [h0] at HC
  obtain ⟨E, hE0⟩ : ∃ E, firstE (laE soils L) L.length = E := ⟨_, rfl⟩
  rw [hE0]
  have HE := Lib.hid hE0
  clear hE0 h0
  go_enter Tryz.func97, Tryz.ntmps97
  go_upto_region 6 with (first | (go_at_call 25; with_reducible refine Calls.mono (HP.out _) ?_; rintro e w1 ⟨rfl, hb⟩; have hc := hb.ccell; have hf := hb.frz; have hs := hb.sz; (try simp at hs); (try have hs0 := hs w.heap.size (by omega)); (try have hs1 := hs (w.heap.size + 1) (by omega)); (try have hs2 := hs (w.heap.size + 1 + 1) (by omega)); (try have hs3 := hs (w.heap.size + 1 + 1 + 1) (by omega))) | (go_at_call 94; with_reducible refine Calls.mono (HC.out _) ?_; rintro e w' ⟨rfl, rfl⟩))
  refine wp_name (fun W hW => ?_)
  have hEW : Ext w W := by rw [hW]; (repeat (first | with_reducible exact Ext.rfl' _ | with_reducible assumption | with_reducible refine Ext.al ?_ _ | with_reducible refine Ext.dr ?_ | with_reducible refine Ext.st ?_ (by simp) _ | with_reducible refine Ext.tr ?_ (by assumption)))
  have r0 : W.cell? ⟨w.heap.size, 0, none⟩ = some (.slice A soils.length c) := by rw [hW]; simp [*, go_sem]
  have r1 : W.cell? ⟨w.heap.size, 1, none⟩ = some v2 := by rw [hW]; simp [*, go_sem]
  have s3 : W.cell? ⟨w.heap.size + 1, 3, none⟩ = some (.slice AL L.length cL) := by rw [hW]; simp [*, go_sem]
  have hz1 : w.heap.size + 1 < W.heap.size := by rw [hW]; assumption
  have hz0 : w.heap.size < W.heap.size := by omega
  clear hW hb hc hf hs hs0 hs1
  go_wp2
  go_loopw [25] (fun i wr => Ext W wr ∧ ∃ k : Nat, k ≤ L.length ∧ i = .int .i64 k ∧ Hid (firstE (laE soils L) k = 0)) (fun i _ => L.length - (intOf i).toNat)
  case atStart => exact ⟨Ext.rfl' _, 0, Nat.zero_le _, rfl, rfl⟩
  case round =>
    obtain ⟨hE, k, hk, rfl, hF⟩ := hrel
    have hEr := hEW.tr hE
    by_cases hlt : k < L.length
    · obtain ⟨b, off, rfl, hb0, hcell⟩ := hB.la hlt
      obtain ⟨e0, e1⟩ := hcell _ hEr
      have hz := hEr.sz _ hb0
      have q0 := (hE.ccell _ 0 hz0).trans r0
      have q1 := (hE.ccell _ 1 hz0).trans r1
      have q3 := (hE.ccell _ 3 hz1).trans s3
      have z1 := hE.sz _ hz1
      have z0 := hE.sz _ hz0
      have hkc : k ≤ cL := by omega
      have HCK := Lib.hid (fun w' (hw : Ext wr w') cc => HCL.out k w' (hEr.tr hw) hlt cc)
      clear hcell hb0 r0 r1 s3
      generalize el L k = u at *
      by_cases hq : laE soils L k = 0
      · rw [hq] at HCK
        have HQ := Lib.hid hq
        clear hq
        go_upto_region 9 with fail
        refine region_grow (by kernel_rfl) (by kernel_rfl) ?_
        repeat (first | go_big_quiet_step (first | (go_at_call 110; with_reducible exact callsGrow (HCK.out _ (Grow.ok _) _)) | fail) | quiet_step (first | (go_at_call 110; with_reducible exact callsGrow (HCK.out _ (Grow.ok _) _)) | fail))
        refine wpQuiet_nil ?_
        intro w1 hb
        have hc := hb.ccell
        have hf := hb.frz
        have hs := hb.sz
        (try simp at hs); (try have hs0 := hs w.heap.size (by omega)); (try have hs1 := hs (w.heap.size + 1) (by omega)); (try have hs2 := hs (w.heap.size + 1 + 1) (by omega)); (try have hs3 := hs (w.heap.size + 1 + 1 + 1) (by omega))
        (try simp only [IntWalk.i64_left])
        have hE1 : Ext wr w1 := by assumption
        go_wp2
        exact ⟨⟨hE.tr hE1, k + 1, by omega, by go_num, firstE_step _ hF.out HQ.out⟩, by simp [intOf]; omega⟩
      · have hq' : (laE soils L k != 0) = true := by simp [hq]
        have HT : Hid (laE soils L k = E) := Lib.hid (by rw [← HE.out, firstE_at (laE soils L) hF.out hq hlt])
        clear hq
        generalize laE soils L k = q at *
        go_upto_region 9 with fail
        refine region_grow (by kernel_rfl) (by kernel_rfl) ?_
        repeat (first | go_big_quiet_step (first | (go_at_call 110; with_reducible exact callsGrow (HCK.out _ (Grow.ok _) _)) | fail) | quiet_step (first | (go_at_call 110; with_reducible exact callsGrow (HCK.out _ (Grow.ok _) _)) | fail))
        refine wpQuiet_nil ?_
        intro w1 hb
        have hc := hb.ccell
        have hf := hb.frz
        have hs := hb.sz
        (try simp at hs); (try have hs0 := hs w.heap.size (by omega)); (try have hs1 := hs (w.heap.size + 1) (by omega)); (try have hs2 := hs (w.heap.size + 1 + 1) (by omega)); (try have hs3 := hs (w.heap.size + 1 + 1 + 1) (by omega))
        (try simp only [IntWalk.i64_left])
        have hE1 : Ext wr w1 := by assumption
        go_wp2
        go_ret
        exact ⟨ret_int HT.out, hEr.tr hE1⟩
    · have hks : k = L.length := by omega
      have HT : Hid ((0 : Int) = E) := Lib.hid (by rw [← HE.out, ← hks, hF.out])
      go_wp2
      go_ret
      exact ⟨ret_int HT.out, hEr⟩
end Go.Proofs.YtgbkjioajmnjbaaGreat

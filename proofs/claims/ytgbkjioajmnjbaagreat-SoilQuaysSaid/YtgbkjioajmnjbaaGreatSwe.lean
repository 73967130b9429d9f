/- The contracts of wedgeAt, and of the reference's. -/
import Derived.Test.YtgbkjioajmnjbaaGreatSwd
namespace Go.Proofs.YtgbkjioajmnjbaaGreat
open Go Go.RowKit Go.IntWalk

theorem cmpI_neg {x : Int} (h : x < 0) : cmpI x 0 = -1 := by unfold cmpI; rw [if_pos h]
theorem cmpI_nn {x : Int} (h : ¬ x < 0) : 0 ≤ cmpI x 0 ∧ cmpI x 0 ≤ 1 := by unfold cmpI; rw [if_neg h]; split <;> omega
set_option maxHeartbeats 8000000 in
set_option maxRecDepth 100000 in
theorem wedgeAt_c (q : Qu) (p : Pt) (w : World) (h : quE q = 0) (hp : good p = true) :
    Calls Tryz.prog 44 #[.agg #[.string q.s, .int .i64 q.a.x, .int .i64 q.a.y, .int .i64 q.b.x, .int .i64 q.b.y, .int .i64 q.lev, .int .i64 q.run], .agg #[.int .i64 p.x, .int .i64 p.y]] w fun e w' => e = .returned (.int .i64 (wdV q p)) ∧ Ext w w' := by
  obtain ⟨ha, hb, hl, hr, hne⟩ := quE_ok h
  have hw := wd_bd h hp
  have ho := offQ_bd h hp
  have hlg : allGood [q.a, q.b, p] = true := by simp [allGood, ha, hb, hp]
  have hle := lineE_ok hlg hne
  have HO := Lib.hid (fun w => gorient_c q.a.x q.a.y q.b.x q.b.y p.x p.y w)
  have HA := Lib.hid (fun w => galong_c q.a.x q.a.y q.b.x q.b.y p.x p.y w)
  have HF := Lib.hid (fun w => goffset_c q.a.x q.a.y q.b.x q.b.y p.x p.y w)
  have HS := Lib.hid (fun w => gspan_c q.a.x q.a.y q.b.x q.b.y w)
  have HW := Lib.hid (fun w => swithin_c (alongV q.a q.b p) 0 (spanG q.a q.b) w)
  rw [show (⟨q.a.x, q.a.y⟩ : Pt) = q.a from rfl, show (⟨q.b.x, q.b.y⟩ : Pt) = q.b from rfl] at HO HA HF HS
  rw [show (⟨p.x, p.y⟩ : Pt) = p from rfl] at HO HA HF
  rw [hlg, if_pos rfl] at HO
  rw [hle] at HA HF
  unfold offQ at hw ho
  unfold wdV offQ
  clear h hp ha hb hne hlg hle
  generalize crossW q.a q.b p = cr at *
  generalize alongV q.a q.b p = al at *
  generalize offV q.a q.b p = ofs at *
  generalize spanG q.a q.b = sp at *
  obtain ⟨d, hd⟩ : ∃ d, 10 * ofs / q.run = d := ⟨_, rfl⟩
  have hd' : (10 * ofs).tdiv q.run = d := by rw [Int.tdiv_eq_ediv_of_nonneg (by omega)]; exact hd
  rw [hd] at hw ⊢
  have hr0 : ¬ q.run = 0 := by omega
  by_cases hcr : cr < 0
  · rw [if_pos hcr]
    rw [cmpI_neg hcr] at HO
    clear hcr hd hd' hw ho hl hr HA HF HS HW
    go_enter Tryz.func44, Tryz.ntmps44
    go_wp2_with (first | (go_at_call 65; with_reducible refine Calls.mono (HO.out _) ?_; rintro e w1 ⟨rfl, hb⟩; have hc := hb.ccell; have hf := hb.frz; have hs := hb.sz; (try simp at hs); (try have t0 := hs (w.heap.size) (by first | assumption | omega)); (try have t1 := hs (w.heap.size + 1) (by first | assumption | omega)); (try have t2 := hs (w.heap.size) (by first | assumption | omega)); (try have t3 := hs (w.heap.size) (by first | assumption | omega)); (try have t4 := hs (w.heap.size) (by first | assumption | omega)); (try have t5 := hs (w.heap.size) (by first | assumption | omega))))
    go_ret
    exact ⟨rfl, by (repeat (first | with_reducible exact Ext.rfl' _ | with_reducible assumption | with_reducible refine Ext.al ?_ _ | with_reducible refine Ext.dr ?_ | with_reducible refine Ext.st ?_ (by simp) _ | with_reducible refine Ext.tr ?_ (by assumption)))⟩
  rw [if_neg hcr]
  have hO := cmpI_nn hcr
  generalize cmpI cr 0 = O at *
  have hO' : ¬ O < 0 := by omega
  cases hin : withinB al 0 sp
  · rw [if_pos rfl]
    rw [hin] at HW
    clear hcr hin
    go_enter Tryz.func44, Tryz.ntmps44
    go_upto_region 5 with (first | (go_at_call 65; with_reducible refine Calls.mono (HO.out _) ?_; rintro e w1 ⟨rfl, hb⟩; have hc := hb.ccell; have hf := hb.frz; have hs := hb.sz; (try simp at hs); (try have t0 := hs (w.heap.size) (by first | assumption | omega)); (try have t1 := hs (w.heap.size + 1) (by first | assumption | omega)); (try have t2 := hs (w.heap.size) (by first | assumption | omega)); (try have t3 := hs (w.heap.size) (by first | assumption | omega)); (try have t4 := hs (w.heap.size) (by first | assumption | omega)); (try have t5 := hs (w.heap.size) (by first | assumption | omega))) | (go_at_call 66; with_reducible refine Calls.mono (HA.out _) ?_; rintro e w2 ⟨rfl, hb⟩; have hc := hb.ccell; have hf := hb.frz; have hs := hb.sz; (try simp at hs); (try have t0 := hs (w.heap.size) (by first | assumption | omega)); (try have t1 := hs (w.heap.size + 1) (by first | assumption | omega)); (try have t2 := hs (w.heap.size) (by first | assumption | omega)); (try have t3 := hs (w.heap.size) (by first | assumption | omega)); (try have t4 := hs (w.heap.size) (by first | assumption | omega)); (try have t5 := hs (w.heap.size) (by first | assumption | omega))) | (go_at_call 67; with_reducible refine Calls.mono (HF.out _) ?_; rintro e w3 ⟨rfl, hb⟩; have hc := hb.ccell; have hf := hb.frz; have hs := hb.sz; (try simp at hs); (try have t0 := hs (w.heap.size) (by first | assumption | omega)); (try have t1 := hs (w.heap.size + 1) (by first | assumption | omega)); (try have t2 := hs (w.heap.size) (by first | assumption | omega)); (try have t3 := hs (w.heap.size) (by first | assumption | omega)); (try have t4 := hs (w.heap.size) (by first | assumption | omega)); (try have t5 := hs (w.heap.size) (by first | assumption | omega))))
    go_region
    go_wp2_with (first | (go_at_call 68; with_reducible refine Calls.mono (HS.out _) ?_; rintro e w4 ⟨rfl, hb⟩; have hc := hb.ccell; have hf := hb.frz; have hs := hb.sz; (try simp at hs); (try have t0 := hs (w.heap.size) (by first | assumption | omega)); (try have t1 := hs (w.heap.size + 1) (by first | assumption | omega)); (try have t2 := hs (w.heap.size) (by first | assumption | omega)); (try have t3 := hs (w.heap.size) (by first | assumption | omega)); (try have t4 := hs (w.heap.size) (by first | assumption | omega)); (try have t5 := hs (w.heap.size) (by first | assumption | omega))) | (go_at_call 27; with_reducible refine Calls.mono (HW.out _) ?_; rintro e w' ⟨rfl, rfl⟩))
    go_ret
    exact ⟨rfl, by (repeat (first | with_reducible exact Ext.rfl' _ | with_reducible assumption | with_reducible refine Ext.al ?_ _ | with_reducible refine Ext.dr ?_ | with_reducible refine Ext.st ?_ (by simp) _ | with_reducible refine Ext.tr ?_ (by assumption)))⟩
  rw [if_neg (by decide)]
  rw [hin] at HW
  by_cases hlo : q.lev - d < -20000
  · rw [if_pos hlo]
    clear hcr hin
    go_enter Tryz.func44, Tryz.ntmps44
    go_upto_region 5 with (first | (go_at_call 65; with_reducible refine Calls.mono (HO.out _) ?_; rintro e w1 ⟨rfl, hb⟩; have hc := hb.ccell; have hf := hb.frz; have hs := hb.sz; (try simp at hs); (try have t0 := hs (w.heap.size) (by first | assumption | omega)); (try have t1 := hs (w.heap.size + 1) (by first | assumption | omega)); (try have t2 := hs (w.heap.size) (by first | assumption | omega)); (try have t3 := hs (w.heap.size) (by first | assumption | omega)); (try have t4 := hs (w.heap.size) (by first | assumption | omega)); (try have t5 := hs (w.heap.size) (by first | assumption | omega))) | (go_at_call 66; with_reducible refine Calls.mono (HA.out _) ?_; rintro e w2 ⟨rfl, hb⟩; have hc := hb.ccell; have hf := hb.frz; have hs := hb.sz; (try simp at hs); (try have t0 := hs (w.heap.size) (by first | assumption | omega)); (try have t1 := hs (w.heap.size + 1) (by first | assumption | omega)); (try have t2 := hs (w.heap.size) (by first | assumption | omega)); (try have t3 := hs (w.heap.size) (by first | assumption | omega)); (try have t4 := hs (w.heap.size) (by first | assumption | omega)); (try have t5 := hs (w.heap.size) (by first | assumption | omega))) | (go_at_call 67; with_reducible refine Calls.mono (HF.out _) ?_; rintro e w3 ⟨rfl, hb⟩; have hc := hb.ccell; have hf := hb.frz; have hs := hb.sz; (try simp at hs); (try have t0 := hs (w.heap.size) (by first | assumption | omega)); (try have t1 := hs (w.heap.size + 1) (by first | assumption | omega)); (try have t2 := hs (w.heap.size) (by first | assumption | omega)); (try have t3 := hs (w.heap.size) (by first | assumption | omega)); (try have t4 := hs (w.heap.size) (by first | assumption | omega)); (try have t5 := hs (w.heap.size) (by first | assumption | omega))))
    go_region
    go_wp2_with (first | (go_at_call 68; with_reducible refine Calls.mono (HS.out _) ?_; rintro e w4 ⟨rfl, hb⟩; have hc := hb.ccell; have hf := hb.frz; have hs := hb.sz; (try simp at hs); (try have t0 := hs (w.heap.size) (by first | assumption | omega)); (try have t1 := hs (w.heap.size + 1) (by first | assumption | omega)); (try have t2 := hs (w.heap.size) (by first | assumption | omega)); (try have t3 := hs (w.heap.size) (by first | assumption | omega)); (try have t4 := hs (w.heap.size) (by first | assumption | omega)); (try have t5 := hs (w.heap.size) (by first | assumption | omega))) | (go_at_call 27; with_reducible refine Calls.mono (HW.out _) ?_; rintro e w' ⟨rfl, rfl⟩))
    go_ret
    exact ⟨rfl, by (repeat (first | with_reducible exact Ext.rfl' _ | with_reducible assumption | with_reducible refine Ext.al ?_ _ | with_reducible refine Ext.dr ?_ | with_reducible refine Ext.st ?_ (by simp) _ | with_reducible refine Ext.tr ?_ (by assumption)))⟩
  · rw [if_neg hlo]
    clear hcr hin
    go_enter Tryz.func44, Tryz.ntmps44
    go_upto_region 5 with (first | (go_at_call 65; with_reducible refine Calls.mono (HO.out _) ?_; rintro e w1 ⟨rfl, hb⟩; have hc := hb.ccell; have hf := hb.frz; have hs := hb.sz; (try simp at hs); (try have t0 := hs (w.heap.size) (by first | assumption | omega)); (try have t1 := hs (w.heap.size + 1) (by first | assumption | omega)); (try have t2 := hs (w.heap.size) (by first | assumption | omega)); (try have t3 := hs (w.heap.size) (by first | assumption | omega)); (try have t4 := hs (w.heap.size) (by first | assumption | omega)); (try have t5 := hs (w.heap.size) (by first | assumption | omega))) | (go_at_call 66; with_reducible refine Calls.mono (HA.out _) ?_; rintro e w2 ⟨rfl, hb⟩; have hc := hb.ccell; have hf := hb.frz; have hs := hb.sz; (try simp at hs); (try have t0 := hs (w.heap.size) (by first | assumption | omega)); (try have t1 := hs (w.heap.size + 1) (by first | assumption | omega)); (try have t2 := hs (w.heap.size) (by first | assumption | omega)); (try have t3 := hs (w.heap.size) (by first | assumption | omega)); (try have t4 := hs (w.heap.size) (by first | assumption | omega)); (try have t5 := hs (w.heap.size) (by first | assumption | omega))) | (go_at_call 67; with_reducible refine Calls.mono (HF.out _) ?_; rintro e w3 ⟨rfl, hb⟩; have hc := hb.ccell; have hf := hb.frz; have hs := hb.sz; (try simp at hs); (try have t0 := hs (w.heap.size) (by first | assumption | omega)); (try have t1 := hs (w.heap.size + 1) (by first | assumption | omega)); (try have t2 := hs (w.heap.size) (by first | assumption | omega)); (try have t3 := hs (w.heap.size) (by first | assumption | omega)); (try have t4 := hs (w.heap.size) (by first | assumption | omega)); (try have t5 := hs (w.heap.size) (by first | assumption | omega))))
    go_region
    go_wp2_with (first | (go_at_call 68; with_reducible refine Calls.mono (HS.out _) ?_; rintro e w4 ⟨rfl, hb⟩; have hc := hb.ccell; have hf := hb.frz; have hs := hb.sz; (try simp at hs); (try have t0 := hs (w.heap.size) (by first | assumption | omega)); (try have t1 := hs (w.heap.size + 1) (by first | assumption | omega)); (try have t2 := hs (w.heap.size) (by first | assumption | omega)); (try have t3 := hs (w.heap.size) (by first | assumption | omega)); (try have t4 := hs (w.heap.size) (by first | assumption | omega)); (try have t5 := hs (w.heap.size) (by first | assumption | omega))) | (go_at_call 27; with_reducible refine Calls.mono (HW.out _) ?_; rintro e w' ⟨rfl, rfl⟩))
    go_ret
    exact ⟨rfl, by (repeat (first | with_reducible exact Ext.rfl' _ | with_reducible assumption | with_reducible refine Ext.al ?_ _ | with_reducible refine Ext.dr ?_ | with_reducible refine Ext.st ?_ (by simp) _ | with_reducible refine Ext.tr ?_ (by assumption)))⟩
set_option maxHeartbeats 8000000 in
set_option maxRecDepth 100000 in
theorem rwedgeAt_c (q : Qu) (p : Pt) (w : World) (h : quE q = 0) (hp : good p = true) :
    Calls Tryz.prog 33 #[.agg #[.string q.s, .int .i64 q.a.x, .int .i64 q.a.y, .int .i64 q.b.x, .int .i64 q.b.y, .int .i64 q.lev, .int .i64 q.run], .agg #[.int .i64 p.x, .int .i64 p.y]] w fun e w' => e = .returned (.int .i64 (wdV q p)) ∧ Ext w w' := by
  obtain ⟨ha, hb, hl, hr, hne⟩ := quE_ok h
  have hw := wd_bd h hp
  have ho := offQ_bd h hp
  have hlg : allGood [q.a, q.b, p] = true := by simp [allGood, ha, hb, hp]
  have hle := lineE_ok hlg hne
  have hsp := spanG_pos ha hb hne
  have hdd := dotW_good ha hb hp
  have hdz := dotZ_bound ha hb hp
  have hse := spanG_eq q.a q.b ha hb
  have hoe : wrap64 ((absW (crossW q.a q.b p)).tdiv (spanR q.a q.b)) = offV q.a q.b p := by unfold offV; rw [hle, if_pos rfl]; exact off_same _ _ _ ha hb hp
  have hae : dotW q.a q.b p / spanR q.a q.b = alongV q.a q.b p := by unfold alongV; rw [hle, if_pos rfl, hse]
  have HO := Lib.hid (fun w => rorient_c q.a.x q.a.y q.b.x q.b.y p.x p.y w)
  have HA := Lib.hid (fun w => ralong_c q.a.x q.a.y q.b.x q.b.y p.x p.y w (by show 0 < spanR q.a q.b; omega) (by show spanR q.a q.b ≤ _; omega) (by show _ ≤ dotW q.a q.b p; omega) (by show dotW q.a q.b p ≤ _; omega))
  have HF := Lib.hid (fun w => roffset_c q.a.x q.a.y q.b.x q.b.y p.x p.y w (by show spanR q.a q.b ≠ 0; omega))
  have HS := Lib.hid (fun w => rspan_c q.a.x q.a.y q.b.x q.b.y w)
  have HW := Lib.hid (fun w => within_c (alongV q.a q.b p) 0 (spanG q.a q.b) w)
  rw [show (⟨q.a.x, q.a.y⟩ : Pt) = q.a from rfl, show (⟨q.b.x, q.b.y⟩ : Pt) = q.b from rfl] at HO HA HF HS
  rw [show (⟨p.x, p.y⟩ : Pt) = p from rfl] at HO HA HF
  rw [hae] at HA
  rw [hoe] at HF
  rw [← hse] at HS
  unfold offQ at hw ho
  unfold wdV offQ
  clear h hp ha hb hne hlg hle hsp hdd hdz hse hoe hae
  generalize crossW q.a q.b p = cr at *
  generalize alongV q.a q.b p = al at *
  generalize offV q.a q.b p = ofs at *
  generalize spanG q.a q.b = sp at *
  obtain ⟨d, hd⟩ : ∃ d, 10 * ofs / q.run = d := ⟨_, rfl⟩
  have hd' : (10 * ofs).tdiv q.run = d := by rw [Int.tdiv_eq_ediv_of_nonneg (by omega)]; exact hd
  rw [hd] at hw ⊢
  have hr0 : ¬ q.run = 0 := by omega
  by_cases hcr : cr < 0
  · rw [if_pos hcr]
    rw [cmpI_neg hcr] at HO
    clear hcr hd hd' hw ho hl hr HA HF HS HW
    go_enter Tryz.func33, Tryz.ntmps33
    go_upto_region 1 with fail
    refine region_grow (by kernel_rfl) (by kernel_rfl) ?_
    repeat (first | go_big_quiet_step (first | (go_at_call 49; with_reducible exact callsGrow (HO.out _)) | fail) | quiet_step (first | (go_at_call 49; with_reducible exact callsGrow (HO.out _)) | fail))
    refine wpQuiet_nil ?_
    intro w1 hb
    have hc := hb.ccell
    have hf := hb.frz
    have hs := hb.sz
    (try simp at hs); (try have hs0 := hs w.heap.size (by omega)); (try have hs1 := hs (w.heap.size + 1) (by omega)); (try have hs2 := hs (w.heap.size + 1 + 1) (by omega)); (try have hs3 := hs (w.heap.size + 1 + 1 + 1) (by omega))
    (try simp only [IntWalk.i64_left])
    go_wp2
    go_ret
    exact ⟨rfl, by (repeat (first | with_reducible exact Ext.rfl' _ | with_reducible assumption | with_reducible refine Ext.al ?_ _ | with_reducible refine Ext.dr ?_ | with_reducible refine Ext.st ?_ (by simp) _ | with_reducible refine Ext.tr ?_ (by assumption)))⟩
  rw [if_neg hcr]
  have hO := cmpI_nn hcr
  generalize cmpI cr 0 = O at *
  have hO' : decide (O < 0) = false := decide_eq_false (by omega)
  cases hin : withinB al 0 sp
  · rw [if_pos rfl]
    rw [hin] at HW
    clear hcr hin
    go_enter Tryz.func33, Tryz.ntmps33
    go_upto_region 1 with fail
    refine region_grow (by kernel_rfl) (by kernel_rfl) ?_
    repeat (first | go_big_quiet_step (first | (go_at_call 49; with_reducible exact callsGrow (HO.out _)) | (go_at_call 50; with_reducible exact callsGrow (HA.out _)) | (go_at_call 51; with_reducible exact callsGrow (HS.out _)) | (go_at_call 31; with_reducible exact callsStay (HW.out _)) | fail) | quiet_step (first | (go_at_call 49; with_reducible exact callsGrow (HO.out _)) | (go_at_call 50; with_reducible exact callsGrow (HA.out _)) | (go_at_call 51; with_reducible exact callsGrow (HS.out _)) | (go_at_call 31; with_reducible exact callsStay (HW.out _)) | fail))
    refine wpQuiet_nil ?_
    intro w1 hb
    have hc := hb.ccell
    have hf := hb.frz
    have hs := hb.sz
    (try simp at hs); (try have hs0 := hs w.heap.size (by omega)); (try have hs1 := hs (w.heap.size + 1) (by omega)); (try have hs2 := hs (w.heap.size + 1 + 1) (by omega)); (try have hs3 := hs (w.heap.size + 1 + 1 + 1) (by omega))
    (try simp only [IntWalk.i64_left])
    go_wp2
    go_ret
    exact ⟨rfl, by (repeat (first | with_reducible exact Ext.rfl' _ | with_reducible assumption | with_reducible refine Ext.al ?_ _ | with_reducible refine Ext.dr ?_ | with_reducible refine Ext.st ?_ (by simp) _ | with_reducible refine Ext.tr ?_ (by assumption)))⟩
  rw [if_neg (by decide)]
  rw [hin] at HW
  by_cases hlo : q.lev - d < -20000
  · rw [if_pos hlo]
    clear hcr hin
    go_enter Tryz.func33, Tryz.ntmps33
    go_upto_region 1 with fail
    refine region_grow (by kernel_rfl) (by kernel_rfl) ?_
    repeat (first | go_big_quiet_step (first | (go_at_call 49; with_reducible exact callsGrow (HO.out _)) | (go_at_call 50; with_reducible exact callsGrow (HA.out _)) | (go_at_call 51; with_reducible exact callsGrow (HS.out _)) | (go_at_call 31; with_reducible exact callsStay (HW.out _)) | fail) | quiet_step (first | (go_at_call 49; with_reducible exact callsGrow (HO.out _)) | (go_at_call 50; with_reducible exact callsGrow (HA.out _)) | (go_at_call 51; with_reducible exact callsGrow (HS.out _)) | (go_at_call 31; with_reducible exact callsStay (HW.out _)) | fail))
    refine wpQuiet_nil ?_
    intro w1 hb
    have hc := hb.ccell
    have hf := hb.frz
    have hs := hb.sz
    (try simp at hs); (try have hs0 := hs w.heap.size (by omega)); (try have hs1 := hs (w.heap.size + 1) (by omega)); (try have hs2 := hs (w.heap.size + 1 + 1) (by omega)); (try have hs3 := hs (w.heap.size + 1 + 1 + 1) (by omega))
    (try simp only [IntWalk.i64_left])
    go_upto_region 3 with fail
    refine region_grow (by kernel_rfl) (by kernel_rfl) ?_
    repeat (first | go_big_quiet_step (first | (go_at_call 52; with_reducible exact callsGrow (HF.out _)) | fail) | quiet_step (first | (go_at_call 52; with_reducible exact callsGrow (HF.out _)) | fail))
    refine wpQuiet_nil ?_
    intro w1 hb
    have hc := hb.ccell
    have hf := hb.frz
    have hs := hb.sz
    (try simp at hs); (try have hs0 := hs w.heap.size (by omega)); (try have hs1 := hs (w.heap.size + 1) (by omega)); (try have hs2 := hs (w.heap.size + 1 + 1) (by omega)); (try have hs3 := hs (w.heap.size + 1 + 1 + 1) (by omega))
    (try simp only [IntWalk.i64_left])
    go_wp2
    go_ret
    exact ⟨rfl, by (repeat (first | with_reducible exact Ext.rfl' _ | with_reducible assumption | with_reducible refine Ext.al ?_ _ | with_reducible refine Ext.dr ?_ | with_reducible refine Ext.st ?_ (by simp) _ | with_reducible refine Ext.tr ?_ (by assumption)))⟩
  · rw [if_neg hlo]
    clear hcr hin
    go_enter Tryz.func33, Tryz.ntmps33
    go_upto_region 1 with fail
    refine region_grow (by kernel_rfl) (by kernel_rfl) ?_
    repeat (first | go_big_quiet_step (first | (go_at_call 49; with_reducible exact callsGrow (HO.out _)) | (go_at_call 50; with_reducible exact callsGrow (HA.out _)) | (go_at_call 51; with_reducible exact callsGrow (HS.out _)) | (go_at_call 31; with_reducible exact callsStay (HW.out _)) | fail) | quiet_step (first | (go_at_call 49; with_reducible exact callsGrow (HO.out _)) | (go_at_call 50; with_reducible exact callsGrow (HA.out _)) | (go_at_call 51; with_reducible exact callsGrow (HS.out _)) | (go_at_call 31; with_reducible exact callsStay (HW.out _)) | fail))
    refine wpQuiet_nil ?_
    intro w1 hb
    have hc := hb.ccell
    have hf := hb.frz
    have hs := hb.sz
    (try simp at hs); (try have hs0 := hs w.heap.size (by omega)); (try have hs1 := hs (w.heap.size + 1) (by omega)); (try have hs2 := hs (w.heap.size + 1 + 1) (by omega)); (try have hs3 := hs (w.heap.size + 1 + 1 + 1) (by omega))
    (try simp only [IntWalk.i64_left])
    go_upto_region 3 with fail
    refine region_grow (by kernel_rfl) (by kernel_rfl) ?_
    repeat (first | go_big_quiet_step (first | (go_at_call 52; with_reducible exact callsGrow (HF.out _)) | fail) | quiet_step (first | (go_at_call 52; with_reducible exact callsGrow (HF.out _)) | fail))
    refine wpQuiet_nil ?_
    intro w1 hb
    have hc := hb.ccell
    have hf := hb.frz
    have hs := hb.sz
    (try simp at hs); (try have hs0 := hs w.heap.size (by omega)); (try have hs1 := hs (w.heap.size + 1) (by omega)); (try have hs2 := hs (w.heap.size + 1 + 1) (by omega)); (try have hs3 := hs (w.heap.size + 1 + 1 + 1) (by omega))
    (try simp only [IntWalk.i64_left])
    go_wp2
    go_ret
    exact ⟨rfl, by (repeat (first | with_reducible exact Ext.rfl' _ | with_reducible assumption | with_reducible refine Ext.al ?_ _ | with_reducible refine Ext.dr ?_ | with_reducible refine Ext.st ?_ (by simp) _ | with_reducible refine Ext.tr ?_ (by assumption)))⟩
end Go.Proofs.YtgbkjioajmnjbaaGreat

/- TripHoppers: the law returns true for every input. Conditions: none. -/
import Derived.Test.YtmhmfjgahhgbpaaVmat
namespace Go.Proofs.Ytmhmfjgahhgbpaa
open Go Go.RowKit Go.IntWalk

def barS : ByteArray := { data := #[104] }
def barL : List Pt := [⟨0, 200⟩, ⟨1000, 300⟩]
theorem barge_c (w : World) :
    Calls Try.prog 24 #[] w fun e w' => ∃ g, e = .returned (.agg #[.string barS, .int .i64 1000, .slice (some ⟨g, 0, none⟩) 2 2]) ∧ Ext w w' ∧ Row 2 encP w' (some ⟨g, 0, none⟩) barL := by
  go_enter Try.func24, Try.ntmps24
  go_wp2
  refine bodyPost_ret (v := .agg #[.string barS, .int .i64 1000, .slice (some ⟨w.heap.size + 1, 0, none⟩) 2 2]) (by simp [results, Try.results24, go_sem, barS]) rfl ⟨_, rfl, ?_, ?_⟩
  · (repeat (first | with_reducible exact Ext.rfl' _ | with_reducible assumption | with_reducible refine Ext.al ?_ _ | with_reducible refine Ext.dr ?_ | with_reducible refine Ext.st ?_ (by simp) _ | with_reducible refine Ext.tr ?_ (by assumption)))
  · exact Row.new' encP_len _ _ _ barL _ (by simp) rfl
theorem bar_ok : hopE barS 1000 barL = 0 := by kernel_rfl
theorem bar_ln : IsLn barL 501 1 := ⟨by decide, by decide, by decide, fun j h1 h2 => by omega⟩
theorem bar_d : DraR barS 1000 barL 501 251 0 := by
  refine .inr (.inr ⟨bar_ok, by decide, ?_, rfl⟩)
  rw [lad_eq bar_ln]
  decide
theorem hawake_c (w : World) :
    Calls Try.prog 6 #[] w fun e w' => e = .returned (.bool true) ∧ Ext w w' := by
  have HA2 : Hid (∀ w' A c, Row 2 encP w' A barL → Calls Try.prog 7 #[.agg #[.string barS, .int .i64 1000, .slice A 2 c], .int .i64 501] w'
      fun e w'' => e = .returned (.tuple #[.int .i64 251, .int .i64 0]) ∧ Ext w' w'') := Lib.hid (fun w' A c hA => draught_c barS 1000 barL 501 251 0 w' A c (by decide) hA bar_d)
  go_enter Try.func6, Try.ntmps6
  go_wp2_with (first | (go_at_call 24; refine Calls.mono (barge_c _) ?_; rintro e wq ⟨g, rfl, hbq, hrow⟩) | (go_at_call 7; with_reducible refine Calls.mono (HA2.out _ _ _ hrow) ?_; rintro e w1 ⟨rfl, hb⟩; have hc := hb.ccell; have hf := hb.frz; have hs := hb.sz; (try simp at hs); (try have hs0 := hs w.heap.size (by omega)); (try have hs1 := hs (w.heap.size + 1) (by omega)); (try have hs2 := hs (w.heap.size + 1 + 1) (by omega)); (try have hs3 := hs (w.heap.size + 1 + 1 + 1) (by omega))))
  go_ret
  exact ⟨rfl, by (repeat (first | with_reducible exact Ext.rfl' _ | with_reducible assumption | with_reducible refine Ext.al ?_ _ | with_reducible refine Ext.dr ?_ | with_reducible refine Ext.st ?_ (by simp) _ | with_reducible refine Ext.tr ?_ (by assumption)))⟩

set_option maxHeartbeats 8000000 in
theorem ho_walk (s : ByteArray) (hold : Int) (l : List Pt) (m d : Int) (w : World) (A : Option Addr) (c : Nat) (hA : Row 2 encP w A l) :
    Calls Try.prog 3 #[.agg #[.string s, .int .i64 hold, .slice A l.length c], .int .i64 m, .int .i64 d] w fun e w' => e = .returned (.bool true) ∧ Ext w w' := by
  by_cases hs : 40 < s.size
  · have hs' : (40 : Int) < (s.size : Int) := by omega
    go_enter Try.func3, Try.ntmps3
    go_wp2_with (first | (go_at_call 6; with_reducible refine Calls.mono (hawake_c _) ?_; rintro e w1 ⟨rfl, hb⟩; have hc := hb.ccell; have hf := hb.frz; have hs := hb.sz; (try simp at hs); (try have hs0 := hs w.heap.size (by omega)); (try have hs1 := hs (w.heap.size + 1) (by omega)); (try have hs2 := hs (w.heap.size + 1 + 1) (by omega)); (try have hs3 := hs (w.heap.size + 1 + 1 + 1) (by omega))))
    go_ret
    exact ⟨rfl, by (repeat (first | with_reducible exact Ext.rfl' _ | with_reducible assumption | with_reducible refine Ext.al ?_ _ | with_reducible refine Ext.dr ?_ | with_reducible refine Ext.st ?_ (by simp) _ | with_reducible refine Ext.tr ?_ (by assumption)))⟩
  have hs' : ¬ (40 : Int) < (s.size : Int) := by omega
  by_cases hl5 : 50 < l.length
  · have hl' : (50 : Int) < (l.length : Int) := by omega
    go_enter Try.func3, Try.ntmps3
    go_wp2_with (first | (go_at_call 6; with_reducible refine Calls.mono (hawake_c _) ?_; rintro e w1 ⟨rfl, hb⟩; have hc := hb.ccell; have hf := hb.frz; have hs := hb.sz; (try simp at hs); (try have hs0 := hs w.heap.size (by omega)); (try have hs1 := hs (w.heap.size + 1) (by omega)); (try have hs2 := hs (w.heap.size + 1 + 1) (by omega)); (try have hs3 := hs (w.heap.size + 1 + 1 + 1) (by omega))))
    go_ret
    exact ⟨rfl, by (repeat (first | with_reducible exact Ext.rfl' _ | with_reducible assumption | with_reducible refine Ext.al ?_ _ | with_reducible refine Ext.dr ?_ | with_reducible refine Ext.st ?_ (by simp) _ | with_reducible refine Ext.tr ?_ (by assumption)))⟩
  have hl' : ¬ (50 : Int) < (l.length : Int) := by omega
  have hl : l.length ≤ 1000 := by omega
  obtain ⟨dd, dq, hD⟩ := dra_some s hold l m
  obtain ⟨mm, mq, hM⟩ := mas_all s hold l d
  have HC := Lib.hid (fun w' (hw : Ext w w') => checkHopper_c s hold l w' A c hl (hA.ext hw))
  have HRC := Lib.hid (fun w' (hw : Ext w w') => rcheckHopper_c s hold l w' A c hl (hA.ext hw))
  have HD := Lib.hid (fun w' (hw : Ext w w') => draught_c s hold l m dd dq w' A c hl (hA.ext hw) hD)
  have HRD := Lib.hid (fun w' (hw : Ext w w') => rdraught_c s hold l m dd dq w' A c hl (hA.ext hw) hD)
  have HM := Lib.hid (fun w' (hw : Ext w w') => massAt_c s hold l d mm mq w' A c hl (hA.ext hw) hM)
  have HRM := Lib.hid (fun w' (hw : Ext w w') => rmassAt_c s hold l d mm mq w' A c hl (hA.ext hw) hM)
  by_cases hq : mq = 0
  case neg =>
    have hq' : (mq == 0) = false := by simp [hq]
    have hq'' : (mq != 0) = true := by simp [hq]
    clear hD hM
    generalize hopE s hold l = E at *
    go_enter Try.func3, Try.ntmps3
    go_upto_region 9 with (first | (go_at_call 6; with_reducible refine Calls.mono (hawake_c _) ?_; rintro e wa ⟨rfl, hb⟩; have hc := hb.ccell; have hf := hb.frz; have hs := hb.sz; (try simp at hs); (try have t0 := hs (w.heap.size) (by first | assumption | omega)); (try have t1 := hs (w.heap.size) (by first | assumption | omega)); (try have t2 := hs (w.heap.size) (by first | assumption | omega)); (try have t3 := hs (w.heap.size) (by first | assumption | omega)); (try have t4 := hs (w.heap.size) (by first | assumption | omega)); (try have t5 := hs (w.heap.size) (by first | assumption | omega))) | (go_at_call 7; with_reducible refine Calls.mono (HD.out _ (by (repeat (first | with_reducible exact Ext.rfl' _ | with_reducible assumption | with_reducible refine Ext.al ?_ _ | with_reducible refine Ext.dr ?_ | with_reducible refine Ext.st ?_ (by simp) _ | with_reducible refine Ext.tr ?_ (by assumption))))) ?_; rintro e wb ⟨rfl, hb⟩; have hc := hb.ccell; have hf := hb.frz; have hs := hb.sz; (try simp at hs); (try have t0 := hs (w.heap.size) (by first | assumption | omega)); (try have t1 := hs (w.heap.size) (by first | assumption | omega)); (try have t2 := hs (w.heap.size) (by first | assumption | omega)); (try have t3 := hs (w.heap.size) (by first | assumption | omega)); (try have t4 := hs (w.heap.size) (by first | assumption | omega)); (try have t5 := hs (w.heap.size) (by first | assumption | omega))) | (go_at_call 8; with_reducible refine Calls.mono (HM.out _ (by (repeat (first | with_reducible exact Ext.rfl' _ | with_reducible assumption | with_reducible refine Ext.al ?_ _ | with_reducible refine Ext.dr ?_ | with_reducible refine Ext.st ?_ (by simp) _ | with_reducible refine Ext.tr ?_ (by assumption))))) ?_; rintro e wm ⟨rfl, hb⟩; have hc := hb.ccell; have hf := hb.frz; have hs := hb.sz; (try simp at hs); (try have t0 := hs (w.heap.size) (by first | assumption | omega)); (try have t1 := hs (w.heap.size) (by first | assumption | omega)); (try have t2 := hs (w.heap.size) (by first | assumption | omega)); (try have t3 := hs (w.heap.size) (by first | assumption | omega)); (try have t4 := hs (w.heap.size) (by first | assumption | omega)); (try have t5 := hs (w.heap.size) (by first | assumption | omega))) | (go_at_call 9; with_reducible refine Calls.mono (HRD.out _ (by (repeat (first | with_reducible exact Ext.rfl' _ | with_reducible assumption | with_reducible refine Ext.al ?_ _ | with_reducible refine Ext.dr ?_ | with_reducible refine Ext.st ?_ (by simp) _ | with_reducible refine Ext.tr ?_ (by assumption))))) ?_; rintro e wd ⟨rfl, hb⟩; have hc := hb.ccell; have hf := hb.frz; have hs := hb.sz; (try simp at hs); (try have t0 := hs (w.heap.size) (by first | assumption | omega)); (try have t1 := hs (w.heap.size) (by first | assumption | omega)); (try have t2 := hs (w.heap.size) (by first | assumption | omega)); (try have t3 := hs (w.heap.size) (by first | assumption | omega)); (try have t4 := hs (w.heap.size) (by first | assumption | omega)); (try have t5 := hs (w.heap.size) (by first | assumption | omega))) | (go_at_call 10; with_reducible refine Calls.mono (HRM.out _ (by (repeat (first | with_reducible exact Ext.rfl' _ | with_reducible assumption | with_reducible refine Ext.al ?_ _ | with_reducible refine Ext.dr ?_ | with_reducible refine Ext.st ?_ (by simp) _ | with_reducible refine Ext.tr ?_ (by assumption))))) ?_; rintro e we ⟨rfl, hb⟩; have hc := hb.ccell; have hf := hb.frz; have hs := hb.sz; (try simp at hs); (try have t0 := hs (w.heap.size) (by first | assumption | omega)); (try have t1 := hs (w.heap.size) (by first | assumption | omega)); (try have t2 := hs (w.heap.size) (by first | assumption | omega)); (try have t3 := hs (w.heap.size) (by first | assumption | omega)); (try have t4 := hs (w.heap.size) (by first | assumption | omega)); (try have t5 := hs (w.heap.size) (by first | assumption | omega))))
    have hEe : Ext w we := by (repeat (first | with_reducible exact Ext.rfl' _ | with_reducible assumption | with_reducible refine Ext.al ?_ _ | with_reducible refine Ext.dr ?_ | with_reducible refine Ext.st ?_ (by simp) _ | with_reducible refine Ext.tr ?_ (by assumption)))
    have b0 : we.cell? ⟨w.heap.size, 0, none⟩ = some (.string s) := by simp [*, go_sem]
    have b1 : we.cell? ⟨w.heap.size, 1, none⟩ = some (.int .i64 hold) := by simp [*, go_sem]
    have b2 : we.cell? ⟨w.heap.size, 2, none⟩ = some (.slice A l.length c) := by simp [*, go_sem]
    have zb : w.heap.size < we.heap.size := by assumption
    clear hc hf hs hb t0 t1 t2 t3 t4 t5
    refine region_grow (by kernel_rfl) (by kernel_rfl) ?_
    repeat (first | go_big_quiet_step (first | (go_at_call 11; exact callsGrow (HC.out _ (hEe.tr (Grow.ok _)))) | (go_at_call 12; exact callsGrow (HRC.out _ (hEe.tr (Grow.ok _)))) | fail) | quiet_step (first | (go_at_call 11; exact callsGrow (HC.out _ (hEe.tr (Grow.ok _)))) | (go_at_call 12; exact callsGrow (HRC.out _ (hEe.tr (Grow.ok _)))) | fail))
    refine wpQuiet_nil ?_
    intro w1 hb
    have hc := hb.ccell
    have hf := hb.frz
    have hs := hb.sz
    (try simp at hs); (try have hs0 := hs w.heap.size (by omega)); (try have hs1 := hs (w.heap.size + 1) (by omega)); (try have hs2 := hs (w.heap.size + 1 + 1) (by omega)); (try have hs3 := hs (w.heap.size + 1 + 1 + 1) (by omega))
    (try simp only [IntWalk.i64_left])
    go_wp2
    go_ret
    exact ⟨rfl, by (repeat (first | with_reducible exact Ext.rfl' _ | with_reducible assumption | with_reducible refine Ext.al ?_ _ | with_reducible refine Ext.dr ?_ | with_reducible refine Ext.st ?_ (by simp) _ | with_reducible refine Ext.tr ?_ (by assumption)))⟩
  subst hq
  have hP : hopE s hold l = 0 ∧ MasP l d (gt l 0).x (gt l (l.length - 1)).x mm := by
    rcases hM with ⟨h0, _, h1⟩ | ⟨_, _, _, h1⟩ | ⟨_, _, _, _, h1⟩ | ⟨h0, _, _, h1, _⟩
    · omega
    · omega
    · omega
    · exact ⟨h0, h1⟩
  obtain ⟨h0, hP⟩ := hP
  have hG := hop_good h0
  have hml := hP.lo
  have hmh := hP.hi
  have hd2 : DraR s hold l mm (lad l mm) 0 := .inr (.inr ⟨h0, by simp [withinB]; omega, rfl, rfl⟩)
  have hle : lad l mm ≤ d := (hP.iff mm hml hmh).2 (Int.le_refl _)
  have hbig : mm ≤ 1000000000 := by have := (hG.rng (l.length - 1) (by have := hG.two; omega)).1.2; omega
  have hbig0 : 0 ≤ mm := by have := (hG.rng 0 (by have := hG.two; omega)).1.1; omega
  obtain ⟨d3, q3, hd3, hfin⟩ : ∃ d3 q3, DraR s hold l (mm + 1) d3 q3 ∧ (q3 = 2 ∨ (q3 = 0 ∧ d < d3)) := by
    rcases Int.lt_or_le mm (gt l (l.length - 1)).x with h | h
    · refine ⟨_, 0, .inr (.inr ⟨h0, by simp [withinB]; omega, rfl, rfl⟩), .inr ⟨rfl, ?_⟩⟩
      rcases Int.lt_or_le d (lad l (mm + 1)) with h1 | h1
      · exact h1
      · have := (hP.iff (mm + 1) (by omega) (by omega)).1 h1
        omega
    · exact ⟨0, 2, .inr (.inl ⟨h0, by simp [withinB]; omega, rfl, rfl⟩), .inl rfl⟩
  have HD2 := Lib.hid (fun w' (hw : Ext w w') => draught_c s hold l mm (lad l mm) 0 w' A c hl (hA.ext hw) hd2)
  have HD3 := Lib.hid (fun w' (hw : Ext w w') => draught_c s hold l (mm + 1) d3 q3 w' A c hl (hA.ext hw) hd3)
  have hw1 : IntKind.i64.wrap (mm + 1) = mm + 1 := i64_in _ (by omega)
  rw [h0] at HC HRC
  generalize lad l mm = d2 at *
  clear hD hM hd2 hd3 hP hG hml hmh h0 hbig hbig0
  go_enter Try.func3, Try.ntmps3
  go_upto_region 9 with (first | (go_at_call 6; with_reducible refine Calls.mono (hawake_c _) ?_; rintro e wa ⟨rfl, hb⟩; have hc := hb.ccell; have hf := hb.frz; have hs := hb.sz; (try simp at hs); (try have t0 := hs (w.heap.size) (by first | assumption | omega)); (try have t1 := hs (w.heap.size) (by first | assumption | omega)); (try have t2 := hs (w.heap.size) (by first | assumption | omega)); (try have t3 := hs (w.heap.size) (by first | assumption | omega)); (try have t4 := hs (w.heap.size) (by first | assumption | omega)); (try have t5 := hs (w.heap.size) (by first | assumption | omega))) | (go_at_call 7; with_reducible refine Calls.mono (HD.out _ (by (repeat (first | with_reducible exact Ext.rfl' _ | with_reducible assumption | with_reducible refine Ext.al ?_ _ | with_reducible refine Ext.dr ?_ | with_reducible refine Ext.st ?_ (by simp) _ | with_reducible refine Ext.tr ?_ (by assumption))))) ?_; rintro e wb ⟨rfl, hb⟩; have hc := hb.ccell; have hf := hb.frz; have hs := hb.sz; (try simp at hs); (try have t0 := hs (w.heap.size) (by first | assumption | omega)); (try have t1 := hs (w.heap.size) (by first | assumption | omega)); (try have t2 := hs (w.heap.size) (by first | assumption | omega)); (try have t3 := hs (w.heap.size) (by first | assumption | omega)); (try have t4 := hs (w.heap.size) (by first | assumption | omega)); (try have t5 := hs (w.heap.size) (by first | assumption | omega))) | (go_at_call 8; with_reducible refine Calls.mono (HM.out _ (by (repeat (first | with_reducible exact Ext.rfl' _ | with_reducible assumption | with_reducible refine Ext.al ?_ _ | with_reducible refine Ext.dr ?_ | with_reducible refine Ext.st ?_ (by simp) _ | with_reducible refine Ext.tr ?_ (by assumption))))) ?_; rintro e wm ⟨rfl, hb⟩; have hc := hb.ccell; have hf := hb.frz; have hs := hb.sz; (try simp at hs); (try have t0 := hs (w.heap.size) (by first | assumption | omega)); (try have t1 := hs (w.heap.size) (by first | assumption | omega)); (try have t2 := hs (w.heap.size) (by first | assumption | omega)); (try have t3 := hs (w.heap.size) (by first | assumption | omega)); (try have t4 := hs (w.heap.size) (by first | assumption | omega)); (try have t5 := hs (w.heap.size) (by first | assumption | omega))) | (go_at_call 9; with_reducible refine Calls.mono (HRD.out _ (by (repeat (first | with_reducible exact Ext.rfl' _ | with_reducible assumption | with_reducible refine Ext.al ?_ _ | with_reducible refine Ext.dr ?_ | with_reducible refine Ext.st ?_ (by simp) _ | with_reducible refine Ext.tr ?_ (by assumption))))) ?_; rintro e wd ⟨rfl, hb⟩; have hc := hb.ccell; have hf := hb.frz; have hs := hb.sz; (try simp at hs); (try have t0 := hs (w.heap.size) (by first | assumption | omega)); (try have t1 := hs (w.heap.size) (by first | assumption | omega)); (try have t2 := hs (w.heap.size) (by first | assumption | omega)); (try have t3 := hs (w.heap.size) (by first | assumption | omega)); (try have t4 := hs (w.heap.size) (by first | assumption | omega)); (try have t5 := hs (w.heap.size) (by first | assumption | omega))) | (go_at_call 10; with_reducible refine Calls.mono (HRM.out _ (by (repeat (first | with_reducible exact Ext.rfl' _ | with_reducible assumption | with_reducible refine Ext.al ?_ _ | with_reducible refine Ext.dr ?_ | with_reducible refine Ext.st ?_ (by simp) _ | with_reducible refine Ext.tr ?_ (by assumption))))) ?_; rintro e we ⟨rfl, hb⟩; have hc := hb.ccell; have hf := hb.frz; have hs := hb.sz; (try simp at hs); (try have t0 := hs (w.heap.size) (by first | assumption | omega)); (try have t1 := hs (w.heap.size) (by first | assumption | omega)); (try have t2 := hs (w.heap.size) (by first | assumption | omega)); (try have t3 := hs (w.heap.size) (by first | assumption | omega)); (try have t4 := hs (w.heap.size) (by first | assumption | omega)); (try have t5 := hs (w.heap.size) (by first | assumption | omega))))
  have hEe : Ext w we := by (repeat (first | with_reducible exact Ext.rfl' _ | with_reducible assumption | with_reducible refine Ext.al ?_ _ | with_reducible refine Ext.dr ?_ | with_reducible refine Ext.st ?_ (by simp) _ | with_reducible refine Ext.tr ?_ (by assumption)))
  have b0 : we.cell? ⟨w.heap.size, 0, none⟩ = some (.string s) := by simp [*, go_sem]
  have b1 : we.cell? ⟨w.heap.size, 1, none⟩ = some (.int .i64 hold) := by simp [*, go_sem]
  have b2 : we.cell? ⟨w.heap.size, 2, none⟩ = some (.slice A l.length c) := by simp [*, go_sem]
  have zb : w.heap.size < we.heap.size := by assumption
  clear hc hf hs hb t0 t1 t2 t3 t4 t5
  refine region_grow (by kernel_rfl) (by kernel_rfl) ?_
  repeat (first | go_big_quiet_step (first | (go_at_call 11; exact callsGrow (HC.out _ (hEe.tr (Grow.ok _)))) | (go_at_call 12; exact callsGrow (HRC.out _ (hEe.tr (Grow.ok _)))) | fail) | quiet_step (first | (go_at_call 11; exact callsGrow (HC.out _ (hEe.tr (Grow.ok _)))) | (go_at_call 12; exact callsGrow (HRC.out _ (hEe.tr (Grow.ok _)))) | fail))
  refine wpQuiet_nil ?_
  intro w1 hb
  have hc := hb.ccell
  have hf := hb.frz
  have hs := hb.sz
  (try simp at hs); (try have hs0 := hs w.heap.size (by omega)); (try have hs1 := hs (w.heap.size + 1) (by omega)); (try have hs2 := hs (w.heap.size + 1 + 1) (by omega)); (try have hs3 := hs (w.heap.size + 1 + 1 + 1) (by omega))
  (try simp only [IntWalk.i64_left])
  have hE1 : Ext we w1 := by assumption
  have r0 := (hE1.ccell _ 0 zb).trans b0
  have r1 := (hE1.ccell _ 1 zb).trans b1
  have r2 := (hE1.ccell _ 2 zb).trans b2
  have z1 := hE1.sz _ zb
  have hEw1 := hEe.tr hE1
  rcases hfin with rfl | ⟨rfl, hlt⟩
  all_goals
    go_wp2_with (first | (go_at_call 7; with_reducible refine Calls.mono (HD2.out _ (hEw1.tr (by (repeat (first | with_reducible exact Ext.rfl' _ | with_reducible assumption | with_reducible refine Ext.al ?_ _ | with_reducible refine Ext.dr ?_ | with_reducible refine Ext.st ?_ (by simp) _ | with_reducible refine Ext.tr ?_ (by assumption)))))) ?_; rintro e wp ⟨rfl, hb⟩; have hc := hb.ccell; have hf := hb.frz; have hs := hb.sz; (try simp at hs); (try have t0 := hs (w.heap.size) (by first | assumption | omega)); (try have t1 := hs (w.heap.size) (by first | assumption | omega)); (try have t2 := hs (w.heap.size) (by first | assumption | omega)); (try have t3 := hs (w.heap.size) (by first | assumption | omega)); (try have t4 := hs (w.heap.size) (by first | assumption | omega)); (try have t5 := hs (w.heap.size) (by first | assumption | omega))) | (go_at_call 7; with_reducible refine Calls.mono (HD3.out _ (hEw1.tr (by (repeat (first | with_reducible exact Ext.rfl' _ | with_reducible assumption | with_reducible refine Ext.al ?_ _ | with_reducible refine Ext.dr ?_ | with_reducible refine Ext.st ?_ (by simp) _ | with_reducible refine Ext.tr ?_ (by assumption)))))) ?_; rintro e wq ⟨rfl, hb⟩; have hc := hb.ccell; have hf := hb.frz; have hs := hb.sz; (try simp at hs); (try have t0 := hs (w.heap.size) (by first | assumption | omega)); (try have t1 := hs (w.heap.size) (by first | assumption | omega)); (try have t2 := hs (w.heap.size) (by first | assumption | omega)); (try have t3 := hs (w.heap.size) (by first | assumption | omega)); (try have t4 := hs (w.heap.size) (by first | assumption | omega)); (try have t5 := hs (w.heap.size) (by first | assumption | omega))))
    go_ret
    exact ⟨by first | rfl | (simp; done) | (simp; omega), hEw1.tr (by (repeat (first | with_reducible exact Ext.rfl' _ | with_reducible assumption | with_reducible refine Ext.al ?_ _ | with_reducible refine Ext.dr ?_ | with_reducible refine Ext.st ?_ (by simp) _ | with_reducible refine Ext.tr ?_ (by assumption))))⟩
end Go.Proofs.Ytmhmfjgahhgbpaa

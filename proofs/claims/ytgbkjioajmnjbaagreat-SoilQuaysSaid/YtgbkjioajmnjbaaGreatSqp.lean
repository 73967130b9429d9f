/- Quays: what is wrong with them, the wedge at a place. The contracts of CheckQuay and of the reference's. -/
import Derived.Test.YtgbkjioajmnjbaaGreatSgeo
import Derived.Test.YtgbkjioajmnjbaaGreatBeq
import Derived.Test.YtgbkjioajmnjbaaGreatSname
import Derived.Test.YtgbkjioajmnjbaaGreatSleaf
namespace Go.Proofs.YtgbkjioajmnjbaaGreat
open Go Go.RowKit Go.IntWalk

structure Qu where
  s : ByteArray
  a : Pt
  b : Pt
  lev : Int
  run : Int
/-- What is wrong with a quay. -/
def quE (q : Qu) : Int := if nameB q.s = false then 4 else if (good q.a && (good q.b && (lvB q.lev && withinB q.run 1 1000))) = false then 2 else if q.a.x = q.b.x ∧ q.a.y = q.b.y then 3 else 0
theorem good_pl (p : Pt) : good p = plB p.x p.y := rfl
theorem quE_ok {q : Qu} (h : quE q = 0) : good q.a = true ∧ good q.b = true ∧ (-20000 ≤ q.lev ∧ q.lev ≤ 20000) ∧ (1 ≤ q.run ∧ q.run ≤ 1000) ∧ q.a ≠ q.b := by
  unfold quE at h
  split at h
  · cases h
  split at h
  · cases h
  split at h
  · cases h
  rename_i h1 h2
  simp only [Bool.not_eq_false, Bool.and_eq_true] at h1
  obtain ⟨h3, h4, h5, h6⟩ := h1
  refine ⟨h3, h4, by simpa [lvB, withinB] using h5, by simpa [withinB] using h6, fun h => h2 (by rw [h]; exact ⟨rfl, rfl⟩)⟩
/-- How far a place is from the line of a quay. -/
def offQ (q : Qu) (p : Pt) : Int := offV q.a q.b p
/-- The wedge at a place that is in range. -/
def wdV (q : Qu) (p : Pt) : Int :=
  if crossW q.a q.b p < 0 then 30000 else if withinB (alongV q.a q.b p) 0 (spanG q.a q.b) = false then 30000 else if q.lev - (10 * offQ q p) / q.run < -20000 then 30000 else q.lev - (10 * offQ q p) / q.run
theorem offQ_bd {q : Qu} {p : Pt} (h : quE q = 0) (hp : good p = true) : 0 ≤ offQ q p ∧ offQ q p ≤ 8000000000000 := by
  obtain ⟨ha, hb, _, _, hne⟩ := quE_ok h
  have hl : allGood [q.a, q.b, p] = true := by simp [allGood, ha, hb, hp]
  have hs := spanG_pos ha hb hne
  have hc := crossZ_bound ha hb hp
  unfold offQ offV
  rw [lineE_ok hl hne, if_pos rfl, crossW_good ha hb hp]
  have h0 : 0 ≤ sizeW (crossZ q.a q.b p) ∧ sizeW (crossZ q.a q.b p) ≤ 8000000000000 := by
    unfold sizeW
    rw [wrap64_in _ (by omega)]
    omega
  generalize sizeW (crossZ q.a q.b p) = z at *
  rw [Int.tdiv_eq_ediv_of_nonneg h0.1]
  have h1 := Int.ediv_nonneg h0.1 (show 0 ≤ spanG q.a q.b by omega)
  have h2 := Int.ediv_le_self (spanG q.a q.b) h0.1
  rw [wrap64_in _ (by omega)]
  omega
theorem wd_bd {q : Qu} {p : Pt} (h : quE q = 0) (hp : good p = true) : 0 ≤ (10 * offQ q p) / q.run ∧ (10 * offQ q p) / q.run ≤ 80000000000000 := by
  have h1 := offQ_bd h hp
  obtain ⟨_, _, _, hr, _⟩ := quE_ok h
  have h2 := Int.ediv_nonneg (show 0 ≤ 10 * offQ q p by omega) (show 0 ≤ q.run by omega)
  have h3 := Int.ediv_le_self q.run (show 0 ≤ 10 * offQ q p by omega)
  omega
theorem wdV_lev {q : Qu} {p : Pt} (h : quE q = 0) (hp : good p = true) : wdV q p = 30000 ∨ (-20000 ≤ wdV q p ∧ wdV q p ≤ 20000) := by
  have h1 := wd_bd h hp
  obtain ⟨_, _, hl, _, _⟩ := quE_ok h
  unfold wdV
  split
  · exact .inl rfl
  split
  · exact .inl rfl
  split
  · exact .inl rfl
  · right; omega
set_option maxHeartbeats 4000000 in
theorem checkQuay_c (q : Qu) (w : World) :
    Calls Tryz.prog 8 #[.agg #[.string q.s, .int .i64 q.a.x, .int .i64 q.a.y, .int .i64 q.b.x, .int .i64 q.b.y, .int .i64 q.lev, .int .i64 q.run]] w fun e w' => e = .returned (.int .i64 (quE q)) ∧ Ext w w' := by
  have HN := Lib.hid (fun w => isName_c q.s w)
  have HA := Lib.hid (fun w => sPlace_c q.a.x q.a.y w)
  have HB := Lib.hid (fun w => sPlace_c q.b.x q.b.y w)
  have HL := Lib.hid (fun w => sLevel_c q.lev w)
  have HR := Lib.hid (fun w => swithin_c q.run 1 1000 w)
  rw [← good_pl] at HA HB
  unfold quE
  cases hn : nameB q.s
  · rw [hn] at HN
    rw [if_pos rfl]
    clear hn
    go_enter Tryz.func8, Tryz.ntmps8
    go_wp2_with (first | (go_at_call 24; with_reducible refine Calls.mono (HN.out _) ?_; rintro e w' ⟨rfl, rfl⟩))
    go_ret
    exact ⟨rfl, by (repeat (first | with_reducible exact Ext.rfl' _ | with_reducible assumption | with_reducible refine Ext.al ?_ _ | with_reducible refine Ext.dr ?_ | with_reducible refine Ext.st ?_ (by simp) _ | with_reducible refine Ext.tr ?_ (by assumption)))⟩
  rw [hn] at HN
  rw [if_neg (by decide)]
  clear hn
  cases g1 : good q.a <;> cases g2 : good q.b <;> cases g3 : lvB q.lev <;> cases g4 : withinB q.run 1 1000
  all_goals
    rw [g1] at HA
    rw [g2] at HB
    rw [g3] at HL
    rw [g4] at HR
  all_goals try rw [if_pos (by decide)]
  case true.true.true.true =>
    rw [if_neg (by decide)]
    clear g1 g2 g3 g4
    by_cases hx : q.a.x = q.b.x
    · by_cases hy : q.a.y = q.b.y
      · rw [if_pos ⟨hx, hy⟩]
        have hxb : (q.a.x == q.b.x) = true := by rw [beq_iff_eq]; exact hx
        have hyb : (q.a.y == q.b.y) = true := by rw [beq_iff_eq]; exact hy
        clear hx hy
        go_enter Tryz.func8, Tryz.ntmps8
        go_wp2_with (first | (go_at_call 24; with_reducible refine Calls.mono (HN.out _) ?_; rintro e w' ⟨rfl, rfl⟩) | (go_at_call 25; with_reducible refine Calls.mono (HA.out _) ?_; rintro e wa ⟨rfl, hb⟩; have hc := hb.ccell; have hf := hb.frz; have hs := hb.sz; (try simp at hs); (try have t0 := hs (w.heap.size) (by first | assumption | omega)); (try have t1 := hs (w.heap.size) (by first | assumption | omega)); (try have t2 := hs (w.heap.size) (by first | assumption | omega)); (try have t3 := hs (w.heap.size) (by first | assumption | omega)); (try have t4 := hs (w.heap.size) (by first | assumption | omega)); (try have t5 := hs (w.heap.size) (by first | assumption | omega))) | (go_at_call 25; with_reducible refine Calls.mono (HB.out _) ?_; rintro e wb ⟨rfl, hb⟩; have hc := hb.ccell; have hf := hb.frz; have hs := hb.sz; (try simp at hs); (try have t0 := hs (w.heap.size) (by first | assumption | omega)); (try have t1 := hs (w.heap.size) (by first | assumption | omega)); (try have t2 := hs (w.heap.size) (by first | assumption | omega)); (try have t3 := hs (w.heap.size) (by first | assumption | omega)); (try have t4 := hs (w.heap.size) (by first | assumption | omega)); (try have t5 := hs (w.heap.size) (by first | assumption | omega))) | (go_at_call 26; with_reducible refine Calls.mono (HL.out _) ?_; rintro e w' ⟨rfl, rfl⟩) | (go_at_call 27; with_reducible refine Calls.mono (HR.out _) ?_; rintro e w' ⟨rfl, rfl⟩))
        go_ret
        exact ⟨rfl, by (repeat (first | with_reducible exact Ext.rfl' _ | with_reducible assumption | with_reducible refine Ext.al ?_ _ | with_reducible refine Ext.dr ?_ | with_reducible refine Ext.st ?_ (by simp) _ | with_reducible refine Ext.tr ?_ (by assumption)))⟩
      · rw [if_neg (fun h => hy h.2)]
        have hxb : (q.a.x == q.b.x) = true := by rw [beq_iff_eq]; exact hx
        have hy1 : (q.a.y == q.b.y) = false := by rw [beq_eq_false_iff_ne]; exact hy
        clear hx hy
        go_enter Tryz.func8, Tryz.ntmps8
        go_wp2_with (first | (go_at_call 24; with_reducible refine Calls.mono (HN.out _) ?_; rintro e w' ⟨rfl, rfl⟩) | (go_at_call 25; with_reducible refine Calls.mono (HA.out _) ?_; rintro e wa ⟨rfl, hb⟩; have hc := hb.ccell; have hf := hb.frz; have hs := hb.sz; (try simp at hs); (try have t0 := hs (w.heap.size) (by first | assumption | omega)); (try have t1 := hs (w.heap.size) (by first | assumption | omega)); (try have t2 := hs (w.heap.size) (by first | assumption | omega)); (try have t3 := hs (w.heap.size) (by first | assumption | omega)); (try have t4 := hs (w.heap.size) (by first | assumption | omega)); (try have t5 := hs (w.heap.size) (by first | assumption | omega))) | (go_at_call 25; with_reducible refine Calls.mono (HB.out _) ?_; rintro e wb ⟨rfl, hb⟩; have hc := hb.ccell; have hf := hb.frz; have hs := hb.sz; (try simp at hs); (try have t0 := hs (w.heap.size) (by first | assumption | omega)); (try have t1 := hs (w.heap.size) (by first | assumption | omega)); (try have t2 := hs (w.heap.size) (by first | assumption | omega)); (try have t3 := hs (w.heap.size) (by first | assumption | omega)); (try have t4 := hs (w.heap.size) (by first | assumption | omega)); (try have t5 := hs (w.heap.size) (by first | assumption | omega))) | (go_at_call 26; with_reducible refine Calls.mono (HL.out _) ?_; rintro e w' ⟨rfl, rfl⟩) | (go_at_call 27; with_reducible refine Calls.mono (HR.out _) ?_; rintro e w' ⟨rfl, rfl⟩))
        go_ret
        exact ⟨rfl, by (repeat (first | with_reducible exact Ext.rfl' _ | with_reducible assumption | with_reducible refine Ext.al ?_ _ | with_reducible refine Ext.dr ?_ | with_reducible refine Ext.st ?_ (by simp) _ | with_reducible refine Ext.tr ?_ (by assumption)))⟩
    · rw [if_neg (fun h => hx h.1)]
      have hx1 : (q.a.x == q.b.x) = false := by rw [beq_eq_false_iff_ne]; exact hx
      clear hx
      go_enter Tryz.func8, Tryz.ntmps8
      go_wp2_with (first | (go_at_call 24; with_reducible refine Calls.mono (HN.out _) ?_; rintro e w' ⟨rfl, rfl⟩) | (go_at_call 25; with_reducible refine Calls.mono (HA.out _) ?_; rintro e wa ⟨rfl, hb⟩; have hc := hb.ccell; have hf := hb.frz; have hs := hb.sz; (try simp at hs); (try have t0 := hs (w.heap.size) (by first | assumption | omega)); (try have t1 := hs (w.heap.size) (by first | assumption | omega)); (try have t2 := hs (w.heap.size) (by first | assumption | omega)); (try have t3 := hs (w.heap.size) (by first | assumption | omega)); (try have t4 := hs (w.heap.size) (by first | assumption | omega)); (try have t5 := hs (w.heap.size) (by first | assumption | omega))) | (go_at_call 25; with_reducible refine Calls.mono (HB.out _) ?_; rintro e wb ⟨rfl, hb⟩; have hc := hb.ccell; have hf := hb.frz; have hs := hb.sz; (try simp at hs); (try have t0 := hs (w.heap.size) (by first | assumption | omega)); (try have t1 := hs (w.heap.size) (by first | assumption | omega)); (try have t2 := hs (w.heap.size) (by first | assumption | omega)); (try have t3 := hs (w.heap.size) (by first | assumption | omega)); (try have t4 := hs (w.heap.size) (by first | assumption | omega)); (try have t5 := hs (w.heap.size) (by first | assumption | omega))) | (go_at_call 26; with_reducible refine Calls.mono (HL.out _) ?_; rintro e w' ⟨rfl, rfl⟩) | (go_at_call 27; with_reducible refine Calls.mono (HR.out _) ?_; rintro e w' ⟨rfl, rfl⟩))
      go_ret
      exact ⟨rfl, by (repeat (first | with_reducible exact Ext.rfl' _ | with_reducible assumption | with_reducible refine Ext.al ?_ _ | with_reducible refine Ext.dr ?_ | with_reducible refine Ext.st ?_ (by simp) _ | with_reducible refine Ext.tr ?_ (by assumption)))⟩
  all_goals
    clear g1 g2 g3 g4
    go_enter Tryz.func8, Tryz.ntmps8
    go_wp2_with (first | (go_at_call 24; with_reducible refine Calls.mono (HN.out _) ?_; rintro e w' ⟨rfl, rfl⟩) | (go_at_call 25; with_reducible refine Calls.mono (HA.out _) ?_; rintro e wa ⟨rfl, hb⟩; have hc := hb.ccell; have hf := hb.frz; have hs := hb.sz; (try simp at hs); (try have t0 := hs (w.heap.size) (by first | assumption | omega)); (try have t1 := hs (w.heap.size) (by first | assumption | omega)); (try have t2 := hs (w.heap.size) (by first | assumption | omega)); (try have t3 := hs (w.heap.size) (by first | assumption | omega)); (try have t4 := hs (w.heap.size) (by first | assumption | omega)); (try have t5 := hs (w.heap.size) (by first | assumption | omega))) | (go_at_call 25; with_reducible refine Calls.mono (HB.out _) ?_; rintro e wb ⟨rfl, hb⟩; have hc := hb.ccell; have hf := hb.frz; have hs := hb.sz; (try simp at hs); (try have t0 := hs (w.heap.size) (by first | assumption | omega)); (try have t1 := hs (w.heap.size) (by first | assumption | omega)); (try have t2 := hs (w.heap.size) (by first | assumption | omega)); (try have t3 := hs (w.heap.size) (by first | assumption | omega)); (try have t4 := hs (w.heap.size) (by first | assumption | omega)); (try have t5 := hs (w.heap.size) (by first | assumption | omega))) | (go_at_call 26; with_reducible refine Calls.mono (HL.out _) ?_; rintro e w' ⟨rfl, rfl⟩) | (go_at_call 27; with_reducible refine Calls.mono (HR.out _) ?_; rintro e w' ⟨rfl, rfl⟩))
    go_ret
    exact ⟨rfl, by (repeat (first | with_reducible exact Ext.rfl' _ | with_reducible assumption | with_reducible refine Ext.al ?_ _ | with_reducible refine Ext.dr ?_ | with_reducible refine Ext.st ?_ (by simp) _ | with_reducible refine Ext.tr ?_ (by assumption)))⟩
set_option maxHeartbeats 4000000 in
theorem rcheckQuay_c (q : Qu) (w : World) :
    Calls Tryz.prog 9 #[.agg #[.string q.s, .int .i64 q.a.x, .int .i64 q.a.y, .int .i64 q.b.x, .int .i64 q.b.y, .int .i64 q.lev, .int .i64 q.run]] w fun e w' => e = .returned (.int .i64 (quE q)) ∧ Ext w w' := by
  have HN := Lib.hid (fun w => rIsName_c q.s w)
  rw [name_same] at HN
  have HA := Lib.hid (fun w => rgood_c q.a.x q.a.y w)
  have HB := Lib.hid (fun w => rgood_c q.b.x q.b.y w)
  have HL := Lib.hid (fun w => leveled_c q.lev w)
  have HR := Lib.hid (fun w => within_c q.run 1 1000 w)
  rw [show (⟨q.a.x, q.a.y⟩ : Pt) = q.a from rfl] at HA
  rw [show (⟨q.b.x, q.b.y⟩ : Pt) = q.b from rfl] at HB
  unfold quE
  cases hn : nameB q.s
  · rw [hn] at HN
    rw [if_pos rfl]
    clear hn
    go_enter Tryz.func9, Tryz.ntmps9
    go_wp2_with (first | (go_at_call 28; with_reducible refine Calls.mono (HN.out _) ?_; rintro e w' ⟨rfl, rfl⟩))
    go_ret
    exact ⟨rfl, by (repeat (first | with_reducible exact Ext.rfl' _ | with_reducible assumption | with_reducible refine Ext.al ?_ _ | with_reducible refine Ext.dr ?_ | with_reducible refine Ext.st ?_ (by simp) _ | with_reducible refine Ext.tr ?_ (by assumption)))⟩
  rw [hn] at HN
  rw [if_neg (by decide)]
  clear hn
  cases g1 : good q.a <;> cases g2 : good q.b <;> cases g3 : lvB q.lev <;> cases g4 : withinB q.run 1 1000
  all_goals
    rw [g1] at HA
    rw [g2] at HB
    rw [g3] at HL
    rw [g4] at HR
  all_goals try rw [if_pos (by decide)]
  case true.true.true.true =>
    rw [if_neg (by decide)]
    clear g1 g2 g3 g4
    by_cases hx : q.a.x = q.b.x
    · by_cases hy : q.a.y = q.b.y
      · rw [if_pos ⟨hx, hy⟩]
        have hxb : (q.a.x == q.b.x) = true := by rw [beq_iff_eq]; exact hx
        have hyb : (q.a.y == q.b.y) = true := by rw [beq_iff_eq]; exact hy
        clear hx hy
        go_enter Tryz.func9, Tryz.ntmps9
        go_wp2_with (first | (go_at_call 28; with_reducible refine Calls.mono (HN.out _) ?_; rintro e w' ⟨rfl, rfl⟩) | (go_at_call 29; with_reducible refine Calls.mono (HA.out _) ?_; rintro e wa ⟨rfl, hb⟩; have hc := hb.ccell; have hf := hb.frz; have hs := hb.sz; (try simp at hs); (try have t0 := hs (w.heap.size) (by first | assumption | omega)); (try have t1 := hs (w.heap.size) (by first | assumption | omega)); (try have t2 := hs (w.heap.size) (by first | assumption | omega)); (try have t3 := hs (w.heap.size) (by first | assumption | omega)); (try have t4 := hs (w.heap.size) (by first | assumption | omega)); (try have t5 := hs (w.heap.size) (by first | assumption | omega))) | (go_at_call 29; with_reducible refine Calls.mono (HB.out _) ?_; rintro e wb ⟨rfl, hb⟩; have hc := hb.ccell; have hf := hb.frz; have hs := hb.sz; (try simp at hs); (try have t0 := hs (w.heap.size) (by first | assumption | omega)); (try have t1 := hs (w.heap.size) (by first | assumption | omega)); (try have t2 := hs (w.heap.size) (by first | assumption | omega)); (try have t3 := hs (w.heap.size) (by first | assumption | omega)); (try have t4 := hs (w.heap.size) (by first | assumption | omega)); (try have t5 := hs (w.heap.size) (by first | assumption | omega))) | (go_at_call 30; with_reducible refine Calls.mono (HL.out _) ?_; rintro e w' ⟨rfl, rfl⟩) | (go_at_call 31; with_reducible refine Calls.mono (HR.out _) ?_; rintro e w' ⟨rfl, rfl⟩))
        go_ret
        exact ⟨rfl, by (repeat (first | with_reducible exact Ext.rfl' _ | with_reducible assumption | with_reducible refine Ext.al ?_ _ | with_reducible refine Ext.dr ?_ | with_reducible refine Ext.st ?_ (by simp) _ | with_reducible refine Ext.tr ?_ (by assumption)))⟩
      · rw [if_neg (fun h => hy h.2)]
        have hxb : (q.a.x == q.b.x) = true := by rw [beq_iff_eq]; exact hx
        have hy1 : (q.a.y == q.b.y) = false := by rw [beq_eq_false_iff_ne]; exact hy
        clear hx hy
        go_enter Tryz.func9, Tryz.ntmps9
        go_wp2_with (first | (go_at_call 28; with_reducible refine Calls.mono (HN.out _) ?_; rintro e w' ⟨rfl, rfl⟩) | (go_at_call 29; with_reducible refine Calls.mono (HA.out _) ?_; rintro e wa ⟨rfl, hb⟩; have hc := hb.ccell; have hf := hb.frz; have hs := hb.sz; (try simp at hs); (try have t0 := hs (w.heap.size) (by first | assumption | omega)); (try have t1 := hs (w.heap.size) (by first | assumption | omega)); (try have t2 := hs (w.heap.size) (by first | assumption | omega)); (try have t3 := hs (w.heap.size) (by first | assumption | omega)); (try have t4 := hs (w.heap.size) (by first | assumption | omega)); (try have t5 := hs (w.heap.size) (by first | assumption | omega))) | (go_at_call 29; with_reducible refine Calls.mono (HB.out _) ?_; rintro e wb ⟨rfl, hb⟩; have hc := hb.ccell; have hf := hb.frz; have hs := hb.sz; (try simp at hs); (try have t0 := hs (w.heap.size) (by first | assumption | omega)); (try have t1 := hs (w.heap.size) (by first | assumption | omega)); (try have t2 := hs (w.heap.size) (by first | assumption | omega)); (try have t3 := hs (w.heap.size) (by first | assumption | omega)); (try have t4 := hs (w.heap.size) (by first | assumption | omega)); (try have t5 := hs (w.heap.size) (by first | assumption | omega))) | (go_at_call 30; with_reducible refine Calls.mono (HL.out _) ?_; rintro e w' ⟨rfl, rfl⟩) | (go_at_call 31; with_reducible refine Calls.mono (HR.out _) ?_; rintro e w' ⟨rfl, rfl⟩))
        go_ret
        exact ⟨rfl, by (repeat (first | with_reducible exact Ext.rfl' _ | with_reducible assumption | with_reducible refine Ext.al ?_ _ | with_reducible refine Ext.dr ?_ | with_reducible refine Ext.st ?_ (by simp) _ | with_reducible refine Ext.tr ?_ (by assumption)))⟩
    · rw [if_neg (fun h => hx h.1)]
      have hx1 : (q.a.x == q.b.x) = false := by rw [beq_eq_false_iff_ne]; exact hx
      clear hx
      go_enter Tryz.func9, Tryz.ntmps9
      go_wp2_with (first | (go_at_call 28; with_reducible refine Calls.mono (HN.out _) ?_; rintro e w' ⟨rfl, rfl⟩) | (go_at_call 29; with_reducible refine Calls.mono (HA.out _) ?_; rintro e wa ⟨rfl, hb⟩; have hc := hb.ccell; have hf := hb.frz; have hs := hb.sz; (try simp at hs); (try have t0 := hs (w.heap.size) (by first | assumption | omega)); (try have t1 := hs (w.heap.size) (by first | assumption | omega)); (try have t2 := hs (w.heap.size) (by first | assumption | omega)); (try have t3 := hs (w.heap.size) (by first | assumption | omega)); (try have t4 := hs (w.heap.size) (by first | assumption | omega)); (try have t5 := hs (w.heap.size) (by first | assumption | omega))) | (go_at_call 29; with_reducible refine Calls.mono (HB.out _) ?_; rintro e wb ⟨rfl, hb⟩; have hc := hb.ccell; have hf := hb.frz; have hs := hb.sz; (try simp at hs); (try have t0 := hs (w.heap.size) (by first | assumption | omega)); (try have t1 := hs (w.heap.size) (by first | assumption | omega)); (try have t2 := hs (w.heap.size) (by first | assumption | omega)); (try have t3 := hs (w.heap.size) (by first | assumption | omega)); (try have t4 := hs (w.heap.size) (by first | assumption | omega)); (try have t5 := hs (w.heap.size) (by first | assumption | omega))) | (go_at_call 30; with_reducible refine Calls.mono (HL.out _) ?_; rintro e w' ⟨rfl, rfl⟩) | (go_at_call 31; with_reducible refine Calls.mono (HR.out _) ?_; rintro e w' ⟨rfl, rfl⟩))
      go_ret
      exact ⟨rfl, by (repeat (first | with_reducible exact Ext.rfl' _ | with_reducible assumption | with_reducible refine Ext.al ?_ _ | with_reducible refine Ext.dr ?_ | with_reducible refine Ext.st ?_ (by simp) _ | with_reducible refine Ext.tr ?_ (by assumption)))⟩
  all_goals
    clear g1 g2 g3 g4
    go_enter Tryz.func9, Tryz.ntmps9
    go_wp2_with (first | (go_at_call 28; with_reducible refine Calls.mono (HN.out _) ?_; rintro e w' ⟨rfl, rfl⟩) | (go_at_call 29; with_reducible refine Calls.mono (HA.out _) ?_; rintro e wa ⟨rfl, hb⟩; have hc := hb.ccell; have hf := hb.frz; have hs := hb.sz; (try simp at hs); (try have t0 := hs (w.heap.size) (by first | assumption | omega)); (try have t1 := hs (w.heap.size) (by first | assumption | omega)); (try have t2 := hs (w.heap.size) (by first | assumption | omega)); (try have t3 := hs (w.heap.size) (by first | assumption | omega)); (try have t4 := hs (w.heap.size) (by first | assumption | omega)); (try have t5 := hs (w.heap.size) (by first | assumption | omega))) | (go_at_call 29; with_reducible refine Calls.mono (HB.out _) ?_; rintro e wb ⟨rfl, hb⟩; have hc := hb.ccell; have hf := hb.frz; have hs := hb.sz; (try simp at hs); (try have t0 := hs (w.heap.size) (by first | assumption | omega)); (try have t1 := hs (w.heap.size) (by first | assumption | omega)); (try have t2 := hs (w.heap.size) (by first | assumption | omega)); (try have t3 := hs (w.heap.size) (by first | assumption | omega)); (try have t4 := hs (w.heap.size) (by first | assumption | omega)); (try have t5 := hs (w.heap.size) (by first | assumption | omega))) | (go_at_call 30; with_reducible refine Calls.mono (HL.out _) ?_; rintro e w' ⟨rfl, rfl⟩) | (go_at_call 31; with_reducible refine Calls.mono (HR.out _) ?_; rintro e w' ⟨rfl, rfl⟩))
    go_ret
    exact ⟨rfl, by (repeat (first | with_reducible exact Ext.rfl' _ | with_reducible assumption | with_reducible refine Ext.al ?_ _ | with_reducible refine Ext.dr ?_ | with_reducible refine Ext.st ?_ (by simp) _ | with_reducible refine Ext.tr ?_ (by assumption)))⟩
end Go.Proofs.YtgbkjioajmnjbaaGreat

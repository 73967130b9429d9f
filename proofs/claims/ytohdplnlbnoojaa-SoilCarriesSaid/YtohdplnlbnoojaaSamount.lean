/- The contracts of Bulked, Mass, the reference's Divided. -/
import Derived.Test.YtohdplnlbnoojaaSref
namespace Go.Proofs.Ytohdplnlbnoojaa
open Go Go.RowKit Go.IntWalk

/-- The error of an amount. -/
def amE (s : So) (v r d : Int) : Int := if chkSoils [s] ≠ 0 then chkSoils [s] else if withinB v 0 1000000000000000 = false then 2 else if withinB r 0 (d - 1) = false then 2 else 0
/-- The amount and what remains, zero with an error. -/
def amQ (s : So) (v r n d : Int) : Int := if amE s v r d = 0 then (v * n + r) / d else 0
def amR (s : So) (v r n d : Int) : Int := if amE s v r d = 0 then (v * n + r) % d else 0
abbrev amV (s : So) (v r n d : Int) : Value := .tuple #[.int .i64 (amQ s v r n d), .int .i64 (amR s v r n d), .int .i64 (amE s v r d)]
theorem chk1_num {s : So} (h : chkSoils [s] = 0) : (1 ≤ s.run ∧ s.run ≤ 1000) ∧ (1 ≤ s.den ∧ s.den ≤ 5000) ∧ (1 ≤ s.num ∧ s.num ≤ 1000) ∧ (1 ≤ s.dn ∧ s.dn ≤ 1000) ∧ s.dn ≤ s.num :=
  (numB_iff s).1 ((chkSoils_ok h).num 0 (by simp))
theorem am_bound {v r n d : Int} (hv : withinB v 0 1000000000000000 = true) (hr : withinB r 0 (d - 1) = true) (hn : 1 ≤ n ∧ n ≤ 5000) (hd : 1 ≤ d ∧ d ≤ 1000000) :
    0 ≤ v * n ∧ IntKind.i64.wrap (v * n) = v * n ∧ IntKind.i64.wrap (v * n + r) = v * n + r ∧ 0 ≤ v * n + r ∧ 0 ≤ (v * n + r) / d ∧ (v * n + r) / d ≤ v * n + r ∧ v * n + r ≤ 9000000000000000000 := by
  simp only [withinB, Bool.and_eq_true, decide_eq_true_eq] at hv hr
  have h1 : 0 ≤ v * n := Int.mul_nonneg hv.1 (by omega)
  have h2 : v * n ≤ 1000000000000000 * 5000 := Int.mul_le_mul hv.2 hn.2 (by omega) (by omega)
  have h3 : 0 ≤ (v * n + r) / d := Int.ediv_nonneg (by omega) (by omega)
  have h4 : (v * n + r) / d ≤ v * n + r := Int.ediv_le_self _ (by omega)
  exact ⟨h1, IntWalk.i64_in _ (by omega), IntWalk.i64_in _ (by omega), by omega, h3, h4, by omega⟩
theorem am_wrap {v n r d : Int} (h1 : 0 ≤ v * n) (h2 : 0 ≤ v * n + r) (h3 : 0 ≤ (v * n + r) / d) (h4 : (v * n + r) / d ≤ v * n + r) (h5 : v * n + r ≤ 9000000000000000000) (_hd : 0 < d) (hr : 0 ≤ r) :
    wrap64 ((wrap64 (wrap64 (v * n) + r)).tdiv d) = (v * n + r) / d ∧ (wrap64 (wrap64 (v * n) + r)).tmod d = (v * n + r) % d := by
  have e1 : wrap64 (v * n) = v * n := by unfold wrap64; omega
  have e2 : wrap64 (v * n + r) = v * n + r := by unfold wrap64; omega
  rw [e1, e2, Int.tdiv_eq_ediv_of_nonneg h2, Int.tmod_eq_emod_of_nonneg h2]
  refine ⟨?_, rfl⟩
  unfold wrap64; omega
set_option maxHeartbeats 4000000 in
theorem amount_c (s : So) (v r n d : Int) (w : World) (hnd : chkSoils [s] = 0 → (1 ≤ n ∧ n ≤ 5000) ∧ (1 ≤ d ∧ d ≤ 1000000)) :
    Calls Try.prog 91 #[.agg #[.string s.s, .int .i64 s.run, .int .i64 s.den, .int .i64 s.num, .int .i64 s.dn], .int .i64 v, .int .i64 r, .agg #[.int .i64 n, .int .i64 d]] w fun e w' => e = .returned (amV s v r n d) ∧ Ext w w' := by
  have HC := Lib.hid (fun w' A c hr => checkSoils_c [s] w' A c (by simp) hr)
  simp only [List.length_cons, List.length_nil] at HC
  unfold amV amQ amR amE
  by_cases h0 : chkSoils [s] = 0
  case neg =>
    rw [if_pos h0, if_neg h0, if_neg h0]
    have h0' : (chkSoils [s] != 0) = true := by simp [h0]
    clear h0 hnd
    generalize chkSoils [s] = E at *
    go_enter Try.func91, Try.ntmps91
    go_wp2_with (first | (go_at_call 16; with_reducible refine Calls.mono (HC.out _ _ _ (Row.new' encSo_len _ _ _ _ _ (by simp) rfl)) ?_; rintro e w1 ⟨rfl, hb⟩; have hc := hb.ccell; have hf := hb.frz; have hs := hb.sz; (try simp at hs); (try have hs0 := hs w.heap.size (by omega)); (try have hs1 := hs (w.heap.size + 1) (by omega)); (try have hs2 := hs (w.heap.size + 1 + 1) (by omega)); (try have hs3 := hs (w.heap.size + 1 + 1 + 1) (by omega))))
    exact bodyPost_ret (v := .tuple #[.int .i64 0, .int .i64 0, .int .i64 E]) (by simp [results, Try.results91, go_sem]) rfl ⟨rfl, by (repeat (first | with_reducible exact Ext.rfl' _ | with_reducible assumption | with_reducible refine Ext.al ?_ _ | with_reducible refine Ext.dr ?_ | with_reducible refine Ext.st ?_ (by simp) _ | with_reducible refine Ext.tr ?_ (by assumption)))⟩
  obtain ⟨hn, hd⟩ := hnd h0
  rw [h0] at HC
  simp only [h0, ne_eq, not_true_eq_false, if_false]
  have HV := Lib.hid (fun w => swithin_c v 0 1000000000000000 w)
  have HR := Lib.hid (fun w => swithin_c r 0 (d - 1) w)
  have hd1 : IntKind.i64.wrap (d - 1) = d - 1 := IntWalk.i64_in _ (by omega)
  cases h1 : withinB v 0 1000000000000000
  · rw [h1] at HV
    simp only [if_true]
    clear h1 h0 hnd
    go_enter Try.func91, Try.ntmps91
    go_wp2_with (first | (go_at_call 16; with_reducible refine Calls.mono (HC.out _ _ _ (Row.new' encSo_len _ _ _ _ _ (by simp) rfl)) ?_; rintro e w1 ⟨rfl, hb⟩; have hc := hb.ccell; have hf := hb.frz; have hs := hb.sz; (try simp at hs); (try have t0 := hs (w.heap.size) (by first | assumption | omega)); (try have t1 := hs (w.heap.size + 1) (by first | assumption | omega)); (try have t2 := hs (w.heap.size) (by first | assumption | omega)); (try have t3 := hs (w.heap.size) (by first | assumption | omega)); (try have t4 := hs (w.heap.size) (by first | assumption | omega)); (try have t5 := hs (w.heap.size) (by first | assumption | omega))) | (go_at_call 111; with_reducible refine Calls.mono (HV.out _) ?_; rintro e w' ⟨rfl, rfl⟩))
    exact bodyPost_ret (v := .tuple #[.int .i64 0, .int .i64 0, .int .i64 2]) (by simp [results, Try.results91, go_sem]) rfl ⟨rfl, by (repeat (first | with_reducible exact Ext.rfl' _ | with_reducible assumption | with_reducible refine Ext.al ?_ _ | with_reducible refine Ext.dr ?_ | with_reducible refine Ext.st ?_ (by simp) _ | with_reducible refine Ext.tr ?_ (by assumption)))⟩
  rw [h1] at HV
  simp only [Bool.true_eq_false, if_false]
  cases h2 : withinB r 0 (d - 1)
  · rw [h2] at HR
    simp only [if_true]
    clear h1 h2 h0 hnd
    go_enter Try.func91, Try.ntmps91
    go_wp2_with (first | (go_at_call 16; with_reducible refine Calls.mono (HC.out _ _ _ (Row.new' encSo_len _ _ _ _ _ (by simp) rfl)) ?_; rintro e w1 ⟨rfl, hb⟩; have hc := hb.ccell; have hf := hb.frz; have hs := hb.sz; (try simp at hs); (try have t0 := hs (w.heap.size) (by first | assumption | omega)); (try have t1 := hs (w.heap.size + 1) (by first | assumption | omega)); (try have t2 := hs (w.heap.size) (by first | assumption | omega)); (try have t3 := hs (w.heap.size) (by first | assumption | omega)); (try have t4 := hs (w.heap.size) (by first | assumption | omega)); (try have t5 := hs (w.heap.size) (by first | assumption | omega))) | (go_at_call 111; with_reducible refine Calls.mono (HV.out _) ?_; rintro e w' ⟨rfl, rfl⟩) | (go_at_call 111; with_reducible refine Calls.mono (HR.out _) ?_; rintro e w' ⟨rfl, rfl⟩))
    exact bodyPost_ret (v := .tuple #[.int .i64 0, .int .i64 0, .int .i64 2]) (by simp [results, Try.results91, go_sem]) rfl ⟨rfl, by (repeat (first | with_reducible exact Ext.rfl' _ | with_reducible assumption | with_reducible refine Ext.al ?_ _ | with_reducible refine Ext.dr ?_ | with_reducible refine Ext.st ?_ (by simp) _ | with_reducible refine Ext.tr ?_ (by assumption)))⟩
  rw [h2] at HR
  simp only [Bool.true_eq_false, if_false, if_true]
  obtain ⟨b1, b2, b3, b4, b5, b6, b7⟩ := am_bound h1 h2 hn hd
  have hd0 : ¬ d = 0 := by omega
  have hdp : 0 < d := by omega
  have HW := Lib.hid (am_wrap b1 b4 b5 b6 b7 hdp (by simp only [withinB, Bool.and_eq_true, decide_eq_true_eq] at h2; exact h2.1))
  clear h1 h2 h0 hnd b1 b2 b3 b4 b5 b6 b7
  go_enter Try.func91, Try.ntmps91
  go_upto_region 7 with (first | (go_at_call 16; with_reducible refine Calls.mono (HC.out _ _ _ (Row.new' encSo_len _ _ _ _ _ (by simp) rfl)) ?_; rintro e w1 ⟨rfl, hb⟩; have hc := hb.ccell; have hf := hb.frz; have hs := hb.sz; (try simp at hs); (try have t0 := hs (w.heap.size) (by first | assumption | omega)); (try have t1 := hs (w.heap.size + 1) (by first | assumption | omega)); (try have t2 := hs (w.heap.size) (by first | assumption | omega)); (try have t3 := hs (w.heap.size) (by first | assumption | omega)); (try have t4 := hs (w.heap.size) (by first | assumption | omega)); (try have t5 := hs (w.heap.size) (by first | assumption | omega))) | (go_at_call 111; with_reducible refine Calls.mono (HV.out _) ?_; rintro e w' ⟨rfl, rfl⟩) | (go_at_call 111; with_reducible refine Calls.mono (HR.out _) ?_; rintro e w' ⟨rfl, rfl⟩))
  have hE1 : Ext w w1 := by (repeat (first | with_reducible exact Ext.rfl' _ | with_reducible assumption | with_reducible refine Ext.al ?_ _ | with_reducible refine Ext.dr ?_ | with_reducible refine Ext.st ?_ (by simp) _ | with_reducible refine Ext.tr ?_ (by assumption)))
  have d1 : w1.cell? ⟨w.heap.size + 1, 1, none⟩ = some (.int .i64 d) := by simp [*, go_sem]
  have z1 : w.heap.size + 1 < w1.heap.size := t1
  obtain ⟨W, hW⟩ : ∃ W, W = w1 := ⟨_, rfl⟩
  subst hW
  clear hc hf hs hb t0 t2 t3 t4 t5
  refine region_grow (by kernel_rfl) (by kernel_rfl) ?_
  repeat (first | go_big_quiet_step (first  | fail) | quiet_step (first  | fail))
  refine wpQuiet_nil ?_
  intro w1 hb
  have hc := hb.ccell
  have hf := hb.frz
  have hs := hb.sz
  (try simp at hs); (try have hs0 := hs w.heap.size (by omega)); (try have hs1 := hs (w.heap.size + 1) (by omega)); (try have hs2 := hs (w.heap.size + 1 + 1) (by omega)); (try have hs3 := hs (w.heap.size + 1 + 1 + 1) (by omega))
  (try simp only [IntWalk.i64_left])
  go_wp2
  exact bodyPost_ret (v := .tuple #[.int .i64 ((v * n + r) / d), .int .i64 ((v * n + r) % d), .int .i64 0]) (by simp [results, Try.results91, go_sem]; exact HW.out) rfl ⟨rfl, by (repeat (first | with_reducible exact Ext.rfl' _ | with_reducible assumption | with_reducible refine Ext.al ?_ _ | with_reducible refine Ext.dr ?_ | with_reducible refine Ext.st ?_ (by simp) _ | with_reducible refine Ext.tr ?_ (by assumption)))⟩
set_option maxHeartbeats 4000000 in
theorem divided_c (s : So) (v r n d : Int) (w : World) (hnd : chkSoils [s] = 0 → (1 ≤ n ∧ n ≤ 5000) ∧ (1 ≤ d ∧ d ≤ 1000000)) :
    Calls Try.prog 55 #[.agg #[.string s.s, .int .i64 s.run, .int .i64 s.den, .int .i64 s.num, .int .i64 s.dn], .int .i64 v, .int .i64 r, .int .i64 n, .int .i64 d] w fun e w' => e = .returned (amV s v r n d) ∧ Ext w w' := by
  have HC := Lib.hid (fun w' A c hr => rcheckSoils_c [s] w' A c (by simp) hr)
  simp only [List.length_cons, List.length_nil] at HC
  unfold amV amQ amR amE
  by_cases h0 : chkSoils [s] = 0
  case neg =>
    rw [if_pos h0, if_neg h0, if_neg h0]
    have h0' : (chkSoils [s] != 0) = true := by simp [h0]
    clear h0 hnd
    generalize chkSoils [s] = E at *
    go_enter Try.func55, Try.ntmps55
    go_wp2_with (first | (go_at_call 17; with_reducible refine Calls.mono (HC.out _ _ _ (Row.new' encSo_len _ _ _ _ _ (by simp) rfl)) ?_; rintro e w1 ⟨rfl, hb⟩; have hc := hb.ccell; have hf := hb.frz; have hs := hb.sz; (try simp at hs); (try have hs0 := hs w.heap.size (by omega)); (try have hs1 := hs (w.heap.size + 1) (by omega)); (try have hs2 := hs (w.heap.size + 1 + 1) (by omega)); (try have hs3 := hs (w.heap.size + 1 + 1 + 1) (by omega))))
    exact bodyPost_ret (v := .tuple #[.int .i64 0, .int .i64 0, .int .i64 E]) (by simp [results, Try.results55, go_sem]) rfl ⟨rfl, by (repeat (first | with_reducible exact Ext.rfl' _ | with_reducible assumption | with_reducible refine Ext.al ?_ _ | with_reducible refine Ext.dr ?_ | with_reducible refine Ext.st ?_ (by simp) _ | with_reducible refine Ext.tr ?_ (by assumption)))⟩
  obtain ⟨hn, hd⟩ := hnd h0
  rw [h0] at HC
  simp only [h0, ne_eq, not_true_eq_false, if_false]
  have HV := Lib.hid (fun w => within_c v 0 1000000000000000 w)
  have HR := Lib.hid (fun w => within_c r 0 (d - 1) w)
  have hd1 : IntKind.i64.wrap (d - 1) = d - 1 := IntWalk.i64_in _ (by omega)
  cases h1 : withinB v 0 1000000000000000
  · rw [h1] at HV
    simp only [if_true]
    clear h1 h0 hnd
    go_enter Try.func55, Try.ntmps55
    go_wp2_with (first | (go_at_call 17; with_reducible refine Calls.mono (HC.out _ _ _ (Row.new' encSo_len _ _ _ _ _ (by simp) rfl)) ?_; rintro e w1 ⟨rfl, hb⟩; have hc := hb.ccell; have hf := hb.frz; have hs := hb.sz; (try simp at hs); (try have t0 := hs (w.heap.size) (by first | assumption | omega)); (try have t1 := hs (w.heap.size) (by first | assumption | omega)); (try have t2 := hs (w.heap.size) (by first | assumption | omega)); (try have t3 := hs (w.heap.size) (by first | assumption | omega)); (try have t4 := hs (w.heap.size) (by first | assumption | omega)); (try have t5 := hs (w.heap.size) (by first | assumption | omega))) | (go_at_call 56; with_reducible refine Calls.mono (HV.out _) ?_; rintro e w' ⟨rfl, rfl⟩))
    exact bodyPost_ret (v := .tuple #[.int .i64 0, .int .i64 0, .int .i64 2]) (by simp [results, Try.results55, go_sem]) rfl ⟨rfl, by (repeat (first | with_reducible exact Ext.rfl' _ | with_reducible assumption | with_reducible refine Ext.al ?_ _ | with_reducible refine Ext.dr ?_ | with_reducible refine Ext.st ?_ (by simp) _ | with_reducible refine Ext.tr ?_ (by assumption)))⟩
  rw [h1] at HV
  simp only [Bool.true_eq_false, if_false]
  cases h2 : withinB r 0 (d - 1)
  · rw [h2] at HR
    simp only [if_true]
    clear h1 h2 h0 hnd
    go_enter Try.func55, Try.ntmps55
    go_wp2_with (first | (go_at_call 17; with_reducible refine Calls.mono (HC.out _ _ _ (Row.new' encSo_len _ _ _ _ _ (by simp) rfl)) ?_; rintro e w1 ⟨rfl, hb⟩; have hc := hb.ccell; have hf := hb.frz; have hs := hb.sz; (try simp at hs); (try have t0 := hs (w.heap.size) (by first | assumption | omega)); (try have t1 := hs (w.heap.size) (by first | assumption | omega)); (try have t2 := hs (w.heap.size) (by first | assumption | omega)); (try have t3 := hs (w.heap.size) (by first | assumption | omega)); (try have t4 := hs (w.heap.size) (by first | assumption | omega)); (try have t5 := hs (w.heap.size) (by first | assumption | omega))) | (go_at_call 56; with_reducible refine Calls.mono (HV.out _) ?_; rintro e w' ⟨rfl, rfl⟩) | (go_at_call 56; with_reducible refine Calls.mono (HR.out _) ?_; rintro e w' ⟨rfl, rfl⟩))
    exact bodyPost_ret (v := .tuple #[.int .i64 0, .int .i64 0, .int .i64 2]) (by simp [results, Try.results55, go_sem]) rfl ⟨rfl, by (repeat (first | with_reducible exact Ext.rfl' _ | with_reducible assumption | with_reducible refine Ext.al ?_ _ | with_reducible refine Ext.dr ?_ | with_reducible refine Ext.st ?_ (by simp) _ | with_reducible refine Ext.tr ?_ (by assumption)))⟩
  rw [h2] at HR
  simp only [Bool.true_eq_false, if_false, if_true]
  obtain ⟨b1, b2, b3, b4, b5, b6, b7⟩ := am_bound h1 h2 hn hd
  have hd0 : ¬ d = 0 := by omega
  have hdp : 0 < d := by omega
  have HW := Lib.hid (am_wrap b1 b4 b5 b6 b7 hdp (by simp only [withinB, Bool.and_eq_true, decide_eq_true_eq] at h2; exact h2.1))
  clear h1 h2 h0 hnd b1 b2 b3 b4 b5 b6 b7
  go_enter Try.func55, Try.ntmps55
  go_upto_region 6 with (first | (go_at_call 17; with_reducible refine Calls.mono (HC.out _ _ _ (Row.new' encSo_len _ _ _ _ _ (by simp) rfl)) ?_; rintro e w1 ⟨rfl, hb⟩; have hc := hb.ccell; have hf := hb.frz; have hs := hb.sz; (try simp at hs); (try have t0 := hs (w.heap.size) (by first | assumption | omega)); (try have t1 := hs (w.heap.size) (by first | assumption | omega)); (try have t2 := hs (w.heap.size) (by first | assumption | omega)); (try have t3 := hs (w.heap.size) (by first | assumption | omega)); (try have t4 := hs (w.heap.size) (by first | assumption | omega)); (try have t5 := hs (w.heap.size) (by first | assumption | omega))) | (go_at_call 56; with_reducible refine Calls.mono (HV.out _) ?_; rintro e w' ⟨rfl, rfl⟩) | (go_at_call 56; with_reducible refine Calls.mono (HR.out _) ?_; rintro e w' ⟨rfl, rfl⟩))
  have hE1 : Ext w w1 := by (repeat (first | with_reducible exact Ext.rfl' _ | with_reducible assumption | with_reducible refine Ext.al ?_ _ | with_reducible refine Ext.dr ?_ | with_reducible refine Ext.st ?_ (by simp) _ | with_reducible refine Ext.tr ?_ (by assumption)))
  obtain ⟨W, hW⟩ : ∃ W, W = w1 := ⟨_, rfl⟩
  subst hW
  clear hc hf hs hb t0 t1 t2 t3 t4 t5
  refine region_grow (by kernel_rfl) (by kernel_rfl) ?_
  repeat (first | go_big_quiet_step (first  | fail) | quiet_step (first  | fail))
  refine wpQuiet_nil ?_
  intro w1 hb
  have hc := hb.ccell
  have hf := hb.frz
  have hs := hb.sz
  (try simp at hs); (try have hs0 := hs w.heap.size (by omega)); (try have hs1 := hs (w.heap.size + 1) (by omega)); (try have hs2 := hs (w.heap.size + 1 + 1) (by omega)); (try have hs3 := hs (w.heap.size + 1 + 1 + 1) (by omega))
  (try simp only [IntWalk.i64_left])
  go_wp2
  exact bodyPost_ret (v := .tuple #[.int .i64 ((v * n + r) / d), .int .i64 ((v * n + r) % d), .int .i64 0]) (by simp [results, Try.results55, go_sem]; exact HW.out) rfl ⟨rfl, by (repeat (first | with_reducible exact Ext.rfl' _ | with_reducible assumption | with_reducible refine Ext.al ?_ _ | with_reducible refine Ext.dr ?_ | with_reducible refine Ext.st ?_ (by simp) _ | with_reducible refine Ext.tr ?_ (by assumption)))⟩
theorem bulked_c (s : So) (v r : Int) (w : World) :
    Calls Try.prog 53 #[.agg #[.string s.s, .int .i64 s.run, .int .i64 s.den, .int .i64 s.num, .int .i64 s.dn], .int .i64 v, .int .i64 r] w fun e w' => e = .returned (amV s v r s.num s.dn) ∧ Ext w w' := by
  have H := Lib.hid (fun w' => amount_c s v r s.num s.dn w' (fun h => by have := chk1_num h; omega))
  unfold amV at *
  generalize amQ s v r s.num s.dn = q at *
  generalize amR s v r s.num s.dn = m at *
  generalize amE s v r s.dn = E at *
  go_enter Try.func53, Try.ntmps53
  go_wp2_with (first | (go_at_call 91; with_reducible refine Calls.mono (H.out _) ?_; rintro e w1 ⟨rfl, hb⟩; have hc := hb.ccell; have hf := hb.frz; have hs := hb.sz; (try simp at hs); (try have hs0 := hs w.heap.size (by omega)); (try have hs1 := hs (w.heap.size + 1) (by omega)); (try have hs2 := hs (w.heap.size + 1 + 1) (by omega)); (try have hs3 := hs (w.heap.size + 1 + 1 + 1) (by omega))))
  exact bodyPost_ret (v := .tuple #[.int .i64 q, .int .i64 m, .int .i64 E]) (by simp [results, Try.results53, go_sem]) rfl ⟨rfl, by (repeat (first | with_reducible exact Ext.rfl' _ | with_reducible assumption | with_reducible refine Ext.al ?_ _ | with_reducible refine Ext.dr ?_ | with_reducible refine Ext.st ?_ (by simp) _ | with_reducible refine Ext.tr ?_ (by assumption)))⟩
theorem mass_c (s : So) (v r : Int) (w : World) :
    Calls Try.prog 54 #[.agg #[.string s.s, .int .i64 s.run, .int .i64 s.den, .int .i64 s.num, .int .i64 s.dn], .int .i64 v, .int .i64 r] w fun e w' => e = .returned (amV s v r s.den 1000000) ∧ Ext w w' := by
  have H := Lib.hid (fun w' => amount_c s v r s.den 1000000 w' (fun h => by have := chk1_num h; omega))
  unfold amV at *
  generalize amQ s v r s.den 1000000 = q at *
  generalize amR s v r s.den 1000000 = m at *
  generalize amE s v r 1000000 = E at *
  go_enter Try.func54, Try.ntmps54
  go_wp2_with (first | (go_at_call 91; with_reducible refine Calls.mono (H.out _) ?_; rintro e w1 ⟨rfl, hb⟩; have hc := hb.ccell; have hf := hb.frz; have hs := hb.sz; (try simp at hs); (try have hs0 := hs w.heap.size (by omega)); (try have hs1 := hs (w.heap.size + 1) (by omega)); (try have hs2 := hs (w.heap.size + 1 + 1) (by omega)); (try have hs3 := hs (w.heap.size + 1 + 1 + 1) (by omega))))
  exact bodyPost_ret (v := .tuple #[.int .i64 q, .int .i64 m, .int .i64 E]) (by simp [results, Try.results54, go_sem]) rfl ⟨rfl, by (repeat (first | with_reducible exact Ext.rfl' _ | with_reducible assumption | with_reducible refine Ext.al ?_ _ | with_reducible refine Ext.dr ?_ | with_reducible refine Ext.st ?_ (by simp) _ | with_reducible refine Ext.tr ?_ (by assumption)))⟩
end Go.Proofs.Ytohdplnlbnoojaa

/- The contracts of MassAt and of the reference's. -/
import Derived.Test.YtmhmfjgahhgbpaaVmas
namespace Go.Proofs.Ytmhmfjgahhgbpaa
open Go Go.RowKit Go.IntWalk

set_option maxHeartbeats 2000000 in
theorem massClo_c (s : ByteArray) (hold : Int) (l : List Pt) (d n : Int) (w : World) (A : Option Addr) (c bh bd : Nat) (hG : GoodH l) (h0 : (gt l 0).x ≤ n) (h1 : n ≤ (gt l (l.length - 1)).x) (hA : Row 2 encP w A l)
    (k0 : w.cell? ⟨bh, 0, none⟩ = some (.string s)) (k1 : w.cell? ⟨bh, 1, none⟩ = some (.int .i64 hold)) (k2 : w.cell? ⟨bh, 2, none⟩ = some (.slice A l.length c)) (k3 : w.cell? ⟨bd, 0, none⟩ = some (.int .i64 d)) (zh : bh < w.heap.size) (zd : bd < w.heap.size) :
    Calls Try.prog 30 #[.int .i64 n, .pointer (some ⟨bh, 0, none⟩), .pointer (some ⟨bd, 0, none⟩)] w fun e w' => e = .returned (.bool (decide (lad l n ≤ d))) ∧ Ext w w' := by
  have HD := Lib.hid (fun w' (hw : Ext w w') => draughtOf_c s hold l n w' A c hG h0 h1 (hA.ext hw))
  generalize lad l n = q at *
  clear h0 h1 hG hA
  go_enter Try.func30, Try.ntmps30
  go_wp2_with fail
  refine region_grow (by kernel_rfl) (by kernel_rfl) ?_
  repeat (first | go_big_quiet_step (first | (go_at_call 27; exact callsGrow (HD.out _ (Grow.ok _))) | fail) | quiet_step (first | (go_at_call 27; exact callsGrow (HD.out _ (Grow.ok _))) | fail))
  refine wpQuiet_nil ?_
  intro w1 hb
  have hc := hb.ccell
  have hf := hb.frz
  have hs := hb.sz
  (try simp at hs); (try have hs0 := hs w.heap.size (by omega)); (try have hs1 := hs (w.heap.size + 1) (by omega)); (try have hs2 := hs (w.heap.size + 1 + 1) (by omega)); (try have hs3 := hs (w.heap.size + 1 + 1 + 1) (by omega))
  (try simp only [IntWalk.i64_left])
  go_wp2
  go_ret
  exact ⟨rfl, by (repeat (first | with_reducible exact Ext.rfl' _ | with_reducible assumption | with_reducible refine Ext.al ?_ _ | with_reducible refine Ext.dr ?_ | with_reducible refine Ext.st ?_ (by simp) _ | with_reducible refine Ext.tr ?_ (by assumption)))⟩
set_option maxHeartbeats 4000000 in
theorem greatest_c (s : ByteArray) (hold : Int) (l : List Pt) (d m : Int) (w : World) (A : Option Addr) (c bh bd : Nat) (hG : GoodH l) (hA : Row 2 encP w A l) (hM : MasP l d (gt l 0).x (gt l (l.length - 1)).x m)
    (k0 : w.cell? ⟨bh, 0, none⟩ = some (.string s)) (k1 : w.cell? ⟨bh, 1, none⟩ = some (.int .i64 hold)) (k2 : w.cell? ⟨bh, 2, none⟩ = some (.slice A l.length c)) (k3 : w.cell? ⟨bd, 0, none⟩ = some (.int .i64 d)) (zh : bh < w.heap.size) (zd : bd < w.heap.size) :
    Calls Try.prog 29 #[.int .i64 (gt l 0).x, .int .i64 (gt l (l.length - 1)).x, .func (.func 30) #[] #[.pointer (some ⟨bh, 0, none⟩), .pointer (some ⟨bd, 0, none⟩)]] w fun e w' => e = .returned (.tuple #[.int .i64 m, .bool true]) ∧ Ext w w' := by
  have HC := Lib.hid (fun w' n (hw : Ext w w') h0 h1 => massClo_c s hold l d n w' A c bh bd hG h0 h1 (hA.ext hw) ((hw.ccell _ _ zh).trans k0) ((hw.ccell _ _ zh).trans k1) ((hw.ccell _ _ zh).trans k2) ((hw.ccell _ _ zd).trans k3) (hw.sz _ zh) (hw.sz _ zd))
  have h2 := hG.two
  have r0 := hG.rng 0 (by omega)
  have r1 := hG.rng (l.length - 1) (by omega)
  have m0 := hM.lo
  have m1 := hM.hi
  have HI := Lib.hid hM.iff
  generalize (gt l 0).x = x0 at *
  generalize (gt l (l.length - 1)).x = x1 at *
  have hd0 : decide (lad l x0 ≤ d) = true := decide_eq_true ((HI.out x0 (Int.le_refl _) (by omega)).2 m0)
  have HC0 := Lib.hid (fun w' (hw : Ext w w') => HC.out w' x0 hw (Int.le_refl _) (by omega))
  rw [hd0] at HC0
  clear k0 k1 k2 k3 zh zd hA hd0 hM
  go_enter Try.func29, Try.ntmps29
  go_wp2_with (first | (go_at_call 30; with_reducible refine Calls.mono (HC0.out _ (by (repeat (first | with_reducible exact Ext.rfl' _ | with_reducible assumption | with_reducible refine Ext.al ?_ _ | with_reducible refine Ext.dr ?_ | with_reducible refine Ext.st ?_ (by simp) _ | with_reducible refine Ext.tr ?_ (by assumption))))) ?_; rintro e w1 ⟨rfl, hb⟩; have hc := hb.ccell; have hf := hb.frz; have hs := hb.sz; (try simp at hs); (try have hs0 := hs w.heap.size (by omega)); (try have hs1 := hs (w.heap.size + 1) (by omega)); (try have hs2 := hs (w.heap.size + 1 + 1) (by omega)); (try have hs3 := hs (w.heap.size + 1 + 1 + 1) (by omega))))
  have hE1 : Ext w w1 := by (repeat (first | with_reducible exact Ext.rfl' _ | with_reducible assumption | with_reducible refine Ext.al ?_ _ | with_reducible refine Ext.dr ?_ | with_reducible refine Ext.st ?_ (by simp) _ | with_reducible refine Ext.tr ?_ (by assumption)))
  go_loopw [0, 1, 8] (fun a b _ wr => Ext w wr ∧ ∃ p q : Int, a = .int .i64 p ∧ b = .int .i64 q ∧ (x0 ≤ p ∧ p ≤ m) ∧ (m ≤ q ∧ q ≤ x1)) (fun a b _ _ => (intOf b - intOf a).toNat)
  case atStart => exact ⟨hE1, x0, x1, rfl, rfl, ⟨Int.le_refl _, m0⟩, ⟨m1, Int.le_refl _⟩⟩
  case round =>
    obtain ⟨hE, p, q, rfl, rfl, ⟨p0, p1⟩, ⟨q0, q1⟩⟩ := hrel
    by_cases hlt : p < q
    · have e1 : IntKind.i64.wrap (p + q) = p + q := i64_in _ (by omega)
      have e2 : IntKind.i64.wrap (p + q + 1) = p + q + 1 := i64_in _ (by omega)
      have e3 : (p + q + 1).tdiv 2 = (p + q + 1) / 2 := Int.tdiv_eq_ediv_of_nonneg (by omega)
      have e4 : IntKind.i64.wrap ((p + q + 1) / 2) = (p + q + 1) / 2 := i64_in _ (by omega)
      have HCM := Lib.hid (fun w' (hw : Ext w w') => HC.out w' ((p + q + 1) / 2) hw (by omega) (by omega))
      have HIM := Lib.hid (HI.out ((p + q + 1) / 2) (by omega) (by omega))
      have HB := Lib.hid (show p < (p + q + 1) / 2 ∧ (p + q + 1) / 2 ≤ q by omega)
      by_cases hm : (p + q + 1) / 2 ≤ m
      · rw [decide_eq_true (HIM.out.2 hm)] at HCM
        go_wp2_with (first | (go_at_call 30; with_reducible refine Calls.mono (HCM.out _ (by (repeat (first | with_reducible exact Ext.rfl' _ | with_reducible assumption | with_reducible refine Ext.al ?_ _ | with_reducible refine Ext.dr ?_ | with_reducible refine Ext.st ?_ (by simp) _ | with_reducible refine Ext.tr ?_ (by assumption))))) ?_; rintro e w1 ⟨rfl, hb⟩; have hc := hb.ccell; have hf := hb.frz; have hs := hb.sz; (try simp at hs); (try have hs0 := hs w.heap.size (by omega)); (try have hs1 := hs (w.heap.size + 1) (by omega)); (try have hs2 := hs (w.heap.size + 1 + 1) (by omega)); (try have hs3 := hs (w.heap.size + 1 + 1 + 1) (by omega))))
        exact ⟨⟨by (repeat (first | with_reducible exact Ext.rfl' _ | with_reducible assumption | with_reducible refine Ext.al ?_ _ | with_reducible refine Ext.dr ?_ | with_reducible refine Ext.st ?_ (by simp) _ | with_reducible refine Ext.tr ?_ (by assumption))), _, q, rfl, rfl, by have := HB.out; omega, by omega⟩, by have := HB.out; simp [intOf]; omega⟩
      · rw [decide_eq_false (fun h => hm (HIM.out.1 h))] at HCM
        go_wp2_with (first | (go_at_call 30; with_reducible refine Calls.mono (HCM.out _ (by (repeat (first | with_reducible exact Ext.rfl' _ | with_reducible assumption | with_reducible refine Ext.al ?_ _ | with_reducible refine Ext.dr ?_ | with_reducible refine Ext.st ?_ (by simp) _ | with_reducible refine Ext.tr ?_ (by assumption))))) ?_; rintro e w1 ⟨rfl, hb⟩; have hc := hb.ccell; have hf := hb.frz; have hs := hb.sz; (try simp at hs); (try have hs0 := hs w.heap.size (by omega)); (try have hs1 := hs (w.heap.size + 1) (by omega)); (try have hs2 := hs (w.heap.size + 1 + 1) (by omega)); (try have hs3 := hs (w.heap.size + 1 + 1 + 1) (by omega))))
        exact ⟨⟨by (repeat (first | with_reducible exact Ext.rfl' _ | with_reducible assumption | with_reducible refine Ext.al ?_ _ | with_reducible refine Ext.dr ?_ | with_reducible refine Ext.st ?_ (by simp) _ | with_reducible refine Ext.tr ?_ (by assumption))), p, (p + q + 1) / 2 - 1, rfl, rfl, by omega, by have := HB.out; omega⟩, by have := HB.out; simp [intOf]; omega⟩
    · go_wp2
      exact bodyPost_ret (v := .tuple #[.int .i64 m, .bool true]) (by simp [results, Try.results29, go_sem]; omega) rfl ⟨rfl, by (repeat (first | with_reducible exact Ext.rfl' _ | with_reducible assumption | with_reducible refine Ext.al ?_ _ | with_reducible refine Ext.dr ?_ | with_reducible refine Ext.st ?_ (by simp) _ | with_reducible refine Ext.tr ?_ (by assumption)))⟩
set_option maxHeartbeats 4000000 in
theorem greatNo_c (s : ByteArray) (hold : Int) (l : List Pt) (d : Int) (w : World) (A : Option Addr) (c bh bd : Nat) (hG : GoodH l) (hA : Row 2 encP w A l) (hM : d < lad l (gt l 0).x)
    (k0 : w.cell? ⟨bh, 0, none⟩ = some (.string s)) (k1 : w.cell? ⟨bh, 1, none⟩ = some (.int .i64 hold)) (k2 : w.cell? ⟨bh, 2, none⟩ = some (.slice A l.length c)) (k3 : w.cell? ⟨bd, 0, none⟩ = some (.int .i64 d)) (zh : bh < w.heap.size) (zd : bd < w.heap.size) :
    Calls Try.prog 29 #[.int .i64 (gt l 0).x, .int .i64 (gt l (l.length - 1)).x, .func (.func 30) #[] #[.pointer (some ⟨bh, 0, none⟩), .pointer (some ⟨bd, 0, none⟩)]] w fun e w' => e = .returned (.tuple #[.int .i64 0, .bool false]) ∧ Ext w w' := by
  have h2 := hG.two
  have hx := hG.incx (a := 0) (b := l.length - 1) (by omega) (by omega)
  have HC0 := Lib.hid (massClo_c s hold l d (gt l 0).x w A c bh bd hG (Int.le_refl _) (by omega) hA k0 k1 k2 k3 zh zd)
  rw [decide_eq_false (show ¬ lad l (gt l 0).x ≤ d by omega)] at HC0
  generalize (gt l 0).x = x0 at *
  generalize (gt l (l.length - 1)).x = x1 at *
  clear k0 k1 k2 k3 zh zd hA hM hG
  go_enter Try.func29, Try.ntmps29
  go_wp2_with (first | (go_at_call 30; with_reducible refine Calls.mono (HC0.out) ?_; rintro e w1 ⟨rfl, hb⟩; have hc := hb.ccell; have hf := hb.frz; have hs := hb.sz; (try simp at hs); (try have hs0 := hs w.heap.size (by omega)); (try have hs1 := hs (w.heap.size + 1) (by omega)); (try have hs2 := hs (w.heap.size + 1 + 1) (by omega)); (try have hs3 := hs (w.heap.size + 1 + 1 + 1) (by omega))))
  exact bodyPost_ret (v := .tuple #[.int .i64 0, .bool false]) (by simp [results, Try.results29, go_sem]) rfl ⟨rfl, by (repeat (first | with_reducible exact Ext.rfl' _ | with_reducible assumption | with_reducible refine Ext.al ?_ _ | with_reducible refine Ext.dr ?_ | with_reducible refine Ext.st ?_ (by simp) _ | with_reducible refine Ext.tr ?_ (by assumption)))⟩

set_option maxHeartbeats 4000000 in
theorem massAt_c (s : ByteArray) (hold : Int) (l : List Pt) (d m q : Int) (w : World) (A : Option Addr) (c : Nat) (hl : l.length ≤ 1000) (hA : Row 2 encP w A l) (hR : MasR s hold l d m q) :
    Calls Try.prog 8 #[.agg #[.string s, .int .i64 hold, .slice A l.length c], .int .i64 d] w fun e w' => e = .returned (.tuple #[.int .i64 m, .int .i64 q]) ∧ Ext w w' := by
  have HC := Lib.hid (fun w' (hw : Ext w w') => checkHopper_c s hold l w' A c hl (hA.ext hw))
  have HD := Lib.hid (fun w => vDraught_c d w)
  rcases hR with ⟨h0, rfl, rfl⟩ | ⟨h0, h1, rfl, rfl⟩ | ⟨h0, h1, h3, rfl, rfl⟩ | ⟨h0, h1, h3, hM, rfl⟩
  · generalize hopE s hold l = E at *
    have h0' : (E == 0) = false := by simp [h0]
    have h0'' : (E != 0) = true := by simp [h0]
    go_enter Try.func8, Try.ntmps8
    go_wp2_with (first | (go_at_call 11; with_reducible refine Calls.mono (HC.out _ (by (repeat (first | with_reducible exact Ext.rfl' _ | with_reducible assumption | with_reducible refine Ext.al ?_ _ | with_reducible refine Ext.dr ?_ | with_reducible refine Ext.st ?_ (by simp) _ | with_reducible refine Ext.tr ?_ (by assumption))))) ?_; rintro e w1 ⟨rfl, hb⟩; have hc := hb.ccell; have hf := hb.frz; have hs := hb.sz; (try simp at hs); (try have hs0 := hs w.heap.size (by omega)); (try have hs1 := hs (w.heap.size + 1) (by omega)); (try have hs2 := hs (w.heap.size + 1 + 1) (by omega)); (try have hs3 := hs (w.heap.size + 1 + 1 + 1) (by omega))))
    exact bodyPost_ret (v := .tuple #[.int .i64 0, .int .i64 E]) (by simp [results, Try.results8, go_sem]) rfl ⟨rfl, by (repeat (first | with_reducible exact Ext.rfl' _ | with_reducible assumption | with_reducible refine Ext.al ?_ _ | with_reducible refine Ext.dr ?_ | with_reducible refine Ext.st ?_ (by simp) _ | with_reducible refine Ext.tr ?_ (by assumption)))⟩
  · rw [h0] at HC
    rw [h1] at HD
    clear h0 h1
    go_enter Try.func8, Try.ntmps8
    go_wp2_with (first | (go_at_call 11; with_reducible refine Calls.mono (HC.out _ (by (repeat (first | with_reducible exact Ext.rfl' _ | with_reducible assumption | with_reducible refine Ext.al ?_ _ | with_reducible refine Ext.dr ?_ | with_reducible refine Ext.st ?_ (by simp) _ | with_reducible refine Ext.tr ?_ (by assumption))))) ?_; rintro e w1 ⟨rfl, hb⟩; have hc := hb.ccell; have hf := hb.frz; have hs := hb.sz; (try simp at hs); (try have t0 := hs (w.heap.size) (by first | assumption | omega)); (try have t1 := hs (w.heap.size + 1) (by first | assumption | omega)); (try have t2 := hs (w.heap.size) (by first | assumption | omega)); (try have t3 := hs (w.heap.size) (by first | assumption | omega)); (try have t4 := hs (w.heap.size) (by first | assumption | omega)); (try have t5 := hs (w.heap.size) (by first | assumption | omega))) | (go_at_call 28; with_reducible refine Calls.mono (HD.out _) ?_; rintro e w' ⟨rfl, rfl⟩))
    exact bodyPost_ret (v := .tuple #[.int .i64 0, .int .i64 2]) (by simp [results, Try.results8, go_sem]) rfl ⟨rfl, by (repeat (first | with_reducible exact Ext.rfl' _ | with_reducible assumption | with_reducible refine Ext.al ?_ _ | with_reducible refine Ext.dr ?_ | with_reducible refine Ext.st ?_ (by simp) _ | with_reducible refine Ext.tr ?_ (by assumption)))⟩
  all_goals
    have hG := hop_good h0
    rw [h0] at HC
    rw [h1] at HD
    have HM := Lib.hid (fun w' (hw : Ext w w') => masses_c s hold l w' A c hG (hA.ext hw))
  · have HG := Lib.hid (fun w' bh bd (hw : Ext w w') k0 k1 k2 k3 z0 z1 => greatNo_c s hold l d w' A c bh bd hG (hA.ext hw) h3 k0 k1 k2 k3 z0 z1)
    generalize (gt l 0).x = x0 at *
    generalize (gt l (l.length - 1)).x = x1 at *
    clear h0 h1 hG h3
    go_enter Try.func8, Try.ntmps8
    go_upto_region 7 with (first | (go_at_call 11; with_reducible refine Calls.mono (HC.out _ (by (repeat (first | with_reducible exact Ext.rfl' _ | with_reducible assumption | with_reducible refine Ext.al ?_ _ | with_reducible refine Ext.dr ?_ | with_reducible refine Ext.st ?_ (by simp) _ | with_reducible refine Ext.tr ?_ (by assumption))))) ?_; rintro e w1 ⟨rfl, hb⟩; have hc := hb.ccell; have hf := hb.frz; have hs := hb.sz; (try simp at hs); (try have t0 := hs (w.heap.size) (by first | assumption | omega)); (try have t1 := hs (w.heap.size + 1) (by first | assumption | omega)); (try have t2 := hs (w.heap.size) (by first | assumption | omega)); (try have t3 := hs (w.heap.size) (by first | assumption | omega)); (try have t4 := hs (w.heap.size) (by first | assumption | omega)); (try have t5 := hs (w.heap.size) (by first | assumption | omega))) | (go_at_call 28; with_reducible refine Calls.mono (HD.out _) ?_; rintro e w' ⟨rfl, rfl⟩) | (go_at_call 25; with_reducible refine Calls.mono (HM.out _ (by (repeat (first | with_reducible exact Ext.rfl' _ | with_reducible assumption | with_reducible refine Ext.al ?_ _ | with_reducible refine Ext.dr ?_ | with_reducible refine Ext.st ?_ (by simp) _ | with_reducible refine Ext.tr ?_ (by assumption))))) ?_; rintro e w2 ⟨rfl, hb⟩; have hc := hb.ccell; have hf := hb.frz; have hs := hb.sz; (try simp at hs); (try have t0 := hs (w.heap.size) (by first | assumption | omega)); (try have t1 := hs (w.heap.size + 1) (by first | assumption | omega)); (try have t2 := hs (w.heap.size) (by first | assumption | omega)); (try have t3 := hs (w.heap.size) (by first | assumption | omega)); (try have t4 := hs (w.heap.size) (by first | assumption | omega)); (try have t5 := hs (w.heap.size) (by first | assumption | omega))))
    have hE2 : Ext w w2 := by (repeat (first | with_reducible exact Ext.rfl' _ | with_reducible assumption | with_reducible refine Ext.al ?_ _ | with_reducible refine Ext.dr ?_ | with_reducible refine Ext.st ?_ (by simp) _ | with_reducible refine Ext.tr ?_ (by assumption)))
    have j0 : w2.cell? ⟨w.heap.size, 0, none⟩ = some (.string s) := by simp [*, go_sem]
    have j1 : w2.cell? ⟨w.heap.size, 1, none⟩ = some (.int .i64 hold) := by simp [*, go_sem]
    have j2 : w2.cell? ⟨w.heap.size, 2, none⟩ = some (.slice A l.length c) := by simp [*, go_sem]
    have j3 : w2.cell? ⟨w.heap.size + 1, 0, none⟩ = some (.int .i64 d) := by simp [*, go_sem]
    have z0 : w.heap.size < w2.heap.size := by assumption
    have z1 : w.heap.size + 1 < w2.heap.size := by assumption
    clear hc hf hs hb t0 t1 t2 t3 t4 t5
    go_wp2_with (first | (go_at_call 29; with_reducible refine Calls.mono (HG.out _ _ _ hE2 j0 j1 j2 j3 z0 z1) ?_; rintro e w1 ⟨rfl, hb⟩; have hc := hb.ccell; have hf := hb.frz; have hs := hb.sz; (try simp at hs); (try have hs0 := hs w.heap.size (by omega)); (try have hs1 := hs (w.heap.size + 1) (by omega)); (try have hs2 := hs (w.heap.size + 1 + 1) (by omega)); (try have hs3 := hs (w.heap.size + 1 + 1 + 1) (by omega))))
    exact bodyPost_ret (v := .tuple #[.int .i64 0, .int .i64 11]) (by simp [results, Try.results8, go_sem]) rfl ⟨rfl, by (repeat (first | with_reducible exact Ext.rfl' _ | with_reducible assumption | with_reducible refine Ext.al ?_ _ | with_reducible refine Ext.dr ?_ | with_reducible refine Ext.st ?_ (by simp) _ | with_reducible refine Ext.tr ?_ (by assumption)))⟩
  · have HG := Lib.hid (fun w' bh bd (hw : Ext w w') k0 k1 k2 k3 z0 z1 => greatest_c s hold l d m w' A c bh bd hG (hA.ext hw) hM k0 k1 k2 k3 z0 z1)
    generalize (gt l 0).x = x0 at *
    generalize (gt l (l.length - 1)).x = x1 at *
    clear h0 h1 hG h3 hM
    go_enter Try.func8, Try.ntmps8
    go_upto_region 7 with (first | (go_at_call 11; with_reducible refine Calls.mono (HC.out _ (by (repeat (first | with_reducible exact Ext.rfl' _ | with_reducible assumption | with_reducible refine Ext.al ?_ _ | with_reducible refine Ext.dr ?_ | with_reducible refine Ext.st ?_ (by simp) _ | with_reducible refine Ext.tr ?_ (by assumption))))) ?_; rintro e w1 ⟨rfl, hb⟩; have hc := hb.ccell; have hf := hb.frz; have hs := hb.sz; (try simp at hs); (try have t0 := hs (w.heap.size) (by first | assumption | omega)); (try have t1 := hs (w.heap.size + 1) (by first | assumption | omega)); (try have t2 := hs (w.heap.size) (by first | assumption | omega)); (try have t3 := hs (w.heap.size) (by first | assumption | omega)); (try have t4 := hs (w.heap.size) (by first | assumption | omega)); (try have t5 := hs (w.heap.size) (by first | assumption | omega))) | (go_at_call 28; with_reducible refine Calls.mono (HD.out _) ?_; rintro e w' ⟨rfl, rfl⟩) | (go_at_call 25; with_reducible refine Calls.mono (HM.out _ (by (repeat (first | with_reducible exact Ext.rfl' _ | with_reducible assumption | with_reducible refine Ext.al ?_ _ | with_reducible refine Ext.dr ?_ | with_reducible refine Ext.st ?_ (by simp) _ | with_reducible refine Ext.tr ?_ (by assumption))))) ?_; rintro e w2 ⟨rfl, hb⟩; have hc := hb.ccell; have hf := hb.frz; have hs := hb.sz; (try simp at hs); (try have t0 := hs (w.heap.size) (by first | assumption | omega)); (try have t1 := hs (w.heap.size + 1) (by first | assumption | omega)); (try have t2 := hs (w.heap.size) (by first | assumption | omega)); (try have t3 := hs (w.heap.size) (by first | assumption | omega)); (try have t4 := hs (w.heap.size) (by first | assumption | omega)); (try have t5 := hs (w.heap.size) (by first | assumption | omega))))
    have hE2 : Ext w w2 := by (repeat (first | with_reducible exact Ext.rfl' _ | with_reducible assumption | with_reducible refine Ext.al ?_ _ | with_reducible refine Ext.dr ?_ | with_reducible refine Ext.st ?_ (by simp) _ | with_reducible refine Ext.tr ?_ (by assumption)))
    have j0 : w2.cell? ⟨w.heap.size, 0, none⟩ = some (.string s) := by simp [*, go_sem]
    have j1 : w2.cell? ⟨w.heap.size, 1, none⟩ = some (.int .i64 hold) := by simp [*, go_sem]
    have j2 : w2.cell? ⟨w.heap.size, 2, none⟩ = some (.slice A l.length c) := by simp [*, go_sem]
    have j3 : w2.cell? ⟨w.heap.size + 1, 0, none⟩ = some (.int .i64 d) := by simp [*, go_sem]
    have z0 : w.heap.size < w2.heap.size := by assumption
    have z1 : w.heap.size + 1 < w2.heap.size := by assumption
    clear hc hf hs hb t0 t1 t2 t3 t4 t5
    go_wp2_with (first | (go_at_call 29; with_reducible refine Calls.mono (HG.out _ _ _ hE2 j0 j1 j2 j3 z0 z1) ?_; rintro e w1 ⟨rfl, hb⟩; have hc := hb.ccell; have hf := hb.frz; have hs := hb.sz; (try simp at hs); (try have hs0 := hs w.heap.size (by omega)); (try have hs1 := hs (w.heap.size + 1) (by omega)); (try have hs2 := hs (w.heap.size + 1 + 1) (by omega)); (try have hs3 := hs (w.heap.size + 1 + 1 + 1) (by omega))))
    exact bodyPost_ret (v := .tuple #[.int .i64 m, .int .i64 0]) (by simp [results, Try.results8, go_sem]) rfl ⟨rfl, by (repeat (first | with_reducible exact Ext.rfl' _ | with_reducible assumption | with_reducible refine Ext.al ?_ _ | with_reducible refine Ext.dr ?_ | with_reducible refine Ext.st ?_ (by simp) _ | with_reducible refine Ext.tr ?_ (by assumption)))⟩

set_option maxHeartbeats 8000000 in
theorem rmassAt_c (s : ByteArray) (hold : Int) (l : List Pt) (d m q : Int) (w : World) (A : Option Addr) (c : Nat) (hl : l.length ≤ 1000) (hA : Row 2 encP w A l) (hR : MasR s hold l d m q) :
    Calls Try.prog 10 #[.agg #[.string s, .int .i64 hold, .slice A l.length c], .int .i64 d] w fun e w' => e = .returned (.tuple #[.int .i64 m, .int .i64 q]) ∧ Ext w w' := by
  have HC := Lib.hid (fun w' (hw : Ext w w') => rcheckHopper_c s hold l w' A c hl (hA.ext hw))
  have HD := Lib.hid (fun w => within3_c d 0 5000 w)
  rcases hR with ⟨h0, rfl, rfl⟩ | ⟨h0, h1, rfl, rfl⟩ | ⟨h0, h1, h3, rfl, rfl⟩ | ⟨h0, h1, h3, hM, rfl⟩
  · generalize hopE s hold l = E at *
    have h0' : (E == 0) = false := by simp [h0]
    have h0'' : (E != 0) = true := by simp [h0]
    go_enter Try.func10, Try.ntmps10
    go_wp2_with (first | (go_at_call 12; with_reducible refine Calls.mono (HC.out _ (by (repeat (first | with_reducible exact Ext.rfl' _ | with_reducible assumption | with_reducible refine Ext.al ?_ _ | with_reducible refine Ext.dr ?_ | with_reducible refine Ext.st ?_ (by simp) _ | with_reducible refine Ext.tr ?_ (by assumption))))) ?_; rintro e w1 ⟨rfl, hb⟩; have hc := hb.ccell; have hf := hb.frz; have hs := hb.sz; (try simp at hs); (try have hs0 := hs w.heap.size (by omega)); (try have hs1 := hs (w.heap.size + 1) (by omega)); (try have hs2 := hs (w.heap.size + 1 + 1) (by omega)); (try have hs3 := hs (w.heap.size + 1 + 1 + 1) (by omega))))
    exact bodyPost_ret (v := .tuple #[.int .i64 0, .int .i64 E]) (by simp [results, Try.results10, go_sem]) rfl ⟨rfl, by (repeat (first | with_reducible exact Ext.rfl' _ | with_reducible assumption | with_reducible refine Ext.al ?_ _ | with_reducible refine Ext.dr ?_ | with_reducible refine Ext.st ?_ (by simp) _ | with_reducible refine Ext.tr ?_ (by assumption)))⟩
  · rw [h0] at HC
    rw [h1] at HD
    clear h0 h1
    go_enter Try.func10, Try.ntmps10
    go_wp2_with (first | (go_at_call 12; with_reducible refine Calls.mono (HC.out _ (by (repeat (first | with_reducible exact Ext.rfl' _ | with_reducible assumption | with_reducible refine Ext.al ?_ _ | with_reducible refine Ext.dr ?_ | with_reducible refine Ext.st ?_ (by simp) _ | with_reducible refine Ext.tr ?_ (by assumption))))) ?_; rintro e w1 ⟨rfl, hb⟩; have hc := hb.ccell; have hf := hb.frz; have hs := hb.sz; (try simp at hs); (try have hs0 := hs w.heap.size (by omega)); (try have hs1 := hs (w.heap.size + 1) (by omega)); (try have hs2 := hs (w.heap.size + 1 + 1) (by omega)); (try have hs3 := hs (w.heap.size + 1 + 1 + 1) (by omega))) | (go_at_call 18; with_reducible refine Calls.mono (HD.out _) ?_; rintro e w' ⟨rfl, rfl⟩))
    exact bodyPost_ret (v := .tuple #[.int .i64 0, .int .i64 2]) (by simp [results, Try.results10, go_sem]) rfl ⟨rfl, by (repeat (first | with_reducible exact Ext.rfl' _ | with_reducible assumption | with_reducible refine Ext.al ?_ _ | with_reducible refine Ext.dr ?_ | with_reducible refine Ext.st ?_ (by simp) _ | with_reducible refine Ext.tr ?_ (by assumption)))⟩
  all_goals
    have hG := hop_good h0
    rw [h0] at HC
    rw [h1] at HD
    have hx := hG.incx (a := 0) (b := l.length - 1) (by have := hG.two; omega) (by have := hG.two; omega)
    have r0 := hG.rng 0 (by have := hG.two; omega)
    have r1 := hG.rng (l.length - 1) (by have := hG.two; omega)
    have HM := Lib.hid (fun w' (hw : Ext w w') => rends_c s hold l w' A c hG (hA.ext hw))
    have HL0 := Lib.hid (fun w' (hw : Ext w w') => laden_c s hold l (gt l 0).x w' A c hG (Int.le_refl _) (by omega) (hA.ext hw))
  · generalize lad l (gt l 0).x = d0 at *
    generalize (gt l 0).x = x0 at *
    generalize (gt l (l.length - 1)).x = x1 at *
    clear h0 h1 hG
    go_enter Try.func10, Try.ntmps10
    go_wp2_with (first | (go_at_call 12; with_reducible refine Calls.mono (HC.out _ (by (repeat (first | with_reducible exact Ext.rfl' _ | with_reducible assumption | with_reducible refine Ext.al ?_ _ | with_reducible refine Ext.dr ?_ | with_reducible refine Ext.st ?_ (by simp) _ | with_reducible refine Ext.tr ?_ (by assumption))))) ?_; rintro e w1 ⟨rfl, hb⟩; have hc := hb.ccell; have hf := hb.frz; have hs := hb.sz; (try simp at hs); (try have t0 := hs (w.heap.size) (by first | assumption | omega)); (try have t1 := hs (w.heap.size) (by first | assumption | omega)); (try have t2 := hs (w.heap.size) (by first | assumption | omega)); (try have t3 := hs (w.heap.size) (by first | assumption | omega)); (try have t4 := hs (w.heap.size) (by first | assumption | omega)); (try have t5 := hs (w.heap.size) (by first | assumption | omega))) | (go_at_call 18; with_reducible refine Calls.mono (HD.out _) ?_; rintro e w' ⟨rfl, rfl⟩) | (go_at_call 31; with_reducible refine Calls.mono (HM.out _ (by (repeat (first | with_reducible exact Ext.rfl' _ | with_reducible assumption | with_reducible refine Ext.al ?_ _ | with_reducible refine Ext.dr ?_ | with_reducible refine Ext.st ?_ (by simp) _ | with_reducible refine Ext.tr ?_ (by assumption))))) ?_; rintro e w2 ⟨rfl, hb⟩; have hc := hb.ccell; have hf := hb.frz; have hs := hb.sz; (try simp at hs); (try have t0 := hs (w.heap.size) (by first | assumption | omega)); (try have t1 := hs (w.heap.size) (by first | assumption | omega)); (try have t2 := hs (w.heap.size) (by first | assumption | omega)); (try have t3 := hs (w.heap.size) (by first | assumption | omega)); (try have t4 := hs (w.heap.size) (by first | assumption | omega)); (try have t5 := hs (w.heap.size) (by first | assumption | omega))) | (go_at_call 32; with_reducible refine Calls.mono (HL0.out _ (by (repeat (first | with_reducible exact Ext.rfl' _ | with_reducible assumption | with_reducible refine Ext.al ?_ _ | with_reducible refine Ext.dr ?_ | with_reducible refine Ext.st ?_ (by simp) _ | with_reducible refine Ext.tr ?_ (by assumption))))) ?_; rintro e w3 ⟨rfl, hb⟩; have hc := hb.ccell; have hf := hb.frz; have hs := hb.sz; (try simp at hs); (try have t0 := hs (w.heap.size) (by first | assumption | omega)); (try have t1 := hs (w.heap.size) (by first | assumption | omega)); (try have t2 := hs (w.heap.size) (by first | assumption | omega)); (try have t3 := hs (w.heap.size) (by first | assumption | omega)); (try have t4 := hs (w.heap.size) (by first | assumption | omega)); (try have t5 := hs (w.heap.size) (by first | assumption | omega))))
    exact bodyPost_ret (v := .tuple #[.int .i64 0, .int .i64 11]) (by simp [results, Try.results10, go_sem]) rfl ⟨rfl, by (repeat (first | with_reducible exact Ext.rfl' _ | with_reducible assumption | with_reducible refine Ext.al ?_ _ | with_reducible refine Ext.dr ?_ | with_reducible refine Ext.st ?_ (by simp) _ | with_reducible refine Ext.tr ?_ (by assumption)))⟩
  · have m0 := hM.lo
    have m1 := hM.hi
    have HI := Lib.hid hM.iff
    have HL := Lib.hid (fun w' n (hw : Ext w w') h0 h1 => laden_c s hold l n w' A c hG h0 h1 (hA.ext hw))
    have h3' : ¬ d < lad l (gt l 0).x := by omega
    generalize (gt l 0).x = x0 at *
    generalize (gt l (l.length - 1)).x = x1 at *
    generalize lad l x0 = d0 at *
    clear h0 h1 hG hM h3
    go_enter Try.func10, Try.ntmps10
    go_wp2_with (first | (go_at_call 12; with_reducible refine Calls.mono (HC.out _ (by (repeat (first | with_reducible exact Ext.rfl' _ | with_reducible assumption | with_reducible refine Ext.al ?_ _ | with_reducible refine Ext.dr ?_ | with_reducible refine Ext.st ?_ (by simp) _ | with_reducible refine Ext.tr ?_ (by assumption))))) ?_; rintro e w1 ⟨rfl, hb⟩; have hc := hb.ccell; have hf := hb.frz; have hs := hb.sz; (try simp at hs); (try have t0 := hs (w.heap.size) (by first | assumption | omega)); (try have t1 := hs (w.heap.size) (by first | assumption | omega)); (try have t2 := hs (w.heap.size) (by first | assumption | omega)); (try have t3 := hs (w.heap.size) (by first | assumption | omega)); (try have t4 := hs (w.heap.size) (by first | assumption | omega)); (try have t5 := hs (w.heap.size) (by first | assumption | omega))) | (go_at_call 18; with_reducible refine Calls.mono (HD.out _) ?_; rintro e w' ⟨rfl, rfl⟩) | (go_at_call 31; with_reducible refine Calls.mono (HM.out _ (by (repeat (first | with_reducible exact Ext.rfl' _ | with_reducible assumption | with_reducible refine Ext.al ?_ _ | with_reducible refine Ext.dr ?_ | with_reducible refine Ext.st ?_ (by simp) _ | with_reducible refine Ext.tr ?_ (by assumption))))) ?_; rintro e w2 ⟨rfl, hb⟩; have hc := hb.ccell; have hf := hb.frz; have hs := hb.sz; (try simp at hs); (try have t0 := hs (w.heap.size) (by first | assumption | omega)); (try have t1 := hs (w.heap.size) (by first | assumption | omega)); (try have t2 := hs (w.heap.size) (by first | assumption | omega)); (try have t3 := hs (w.heap.size) (by first | assumption | omega)); (try have t4 := hs (w.heap.size) (by first | assumption | omega)); (try have t5 := hs (w.heap.size) (by first | assumption | omega))) | (go_at_call 32; with_reducible refine Calls.mono (HL0.out _ (by (repeat (first | with_reducible exact Ext.rfl' _ | with_reducible assumption | with_reducible refine Ext.al ?_ _ | with_reducible refine Ext.dr ?_ | with_reducible refine Ext.st ?_ (by simp) _ | with_reducible refine Ext.tr ?_ (by assumption))))) ?_; rintro e w3 ⟨rfl, hb⟩; have hc := hb.ccell; have hf := hb.frz; have hs := hb.sz; (try simp at hs); (try have t0 := hs (w.heap.size) (by first | assumption | omega)); (try have t1 := hs (w.heap.size) (by first | assumption | omega)); (try have t2 := hs (w.heap.size) (by first | assumption | omega)); (try have t3 := hs (w.heap.size) (by first | assumption | omega)); (try have t4 := hs (w.heap.size) (by first | assumption | omega)); (try have t5 := hs (w.heap.size) (by first | assumption | omega))))
    have hE3 : Ext w w3 := by (repeat (first | with_reducible exact Ext.rfl' _ | with_reducible assumption | with_reducible refine Ext.al ?_ _ | with_reducible refine Ext.dr ?_ | with_reducible refine Ext.st ?_ (by simp) _ | with_reducible refine Ext.tr ?_ (by assumption)))
    have j0 : w3.cell? ⟨w.heap.size, 0, none⟩ = some (.string s) := by simp [*, go_sem]
    have j1 : w3.cell? ⟨w.heap.size, 1, none⟩ = some (.int .i64 hold) := by simp [*, go_sem]
    have j2 : w3.cell? ⟨w.heap.size, 2, none⟩ = some (.slice A l.length c) := by simp [*, go_sem]
    have z3 : w.heap.size < w3.heap.size := by assumption
    clear hc hf hs hb t0 t1 t2 t3 t4 t5
    go_loopw [7, 8, 9] (fun a b _ wr => Ext w3 wr ∧ ∃ p q : Int, a = .int .i64 p ∧ b = .int .i64 q ∧ (x0 ≤ p ∧ p ≤ m) ∧ (m ≤ q ∧ q ≤ x1)) (fun a b _ _ => (intOf b - intOf a).toNat)
    case atStart => exact ⟨Ext.rfl' _, x0, x1, rfl, rfl, ⟨Int.le_refl _, m0⟩, ⟨m1, Int.le_refl _⟩⟩
    case round =>
      obtain ⟨hE, p, q, rfl, rfl, ⟨p0, p1⟩, ⟨q0, q1⟩⟩ := hrel
      have y0 := (hE.ccell _ 0 z3).trans j0
      have y1 := (hE.ccell _ 1 z3).trans j1
      have y2 := (hE.ccell _ 2 z3).trans j2
      have yz := hE.sz _ z3
      have hEr := hE3.tr hE
      have hE4 := hE
      clear j0 j1 j2 z3 hE
      by_cases hlt : p < q
      · have e1 : IntKind.i64.wrap (q - p) = q - p := i64_in _ (by omega)
        have e2 : IntKind.i64.wrap (q - p + 1) = q - p + 1 := i64_in _ (by omega)
        have e4 : IntKind.i64.wrap ((q - p + 1) / 2) = (q - p + 1) / 2 := i64_in _ (by omega)
        have e5 : IntKind.i64.wrap (p + (q - p + 1) / 2) = p + (q - p + 1) / 2 := i64_in _ (by omega)
        have HCM := Lib.hid (fun w' (hw : Ext w w') => HL.out w' (p + (q - p + 1) / 2) hw (by omega) (by omega))
        have HIM := Lib.hid (HI.out (p + (q - p + 1) / 2) (by omega) (by omega))
        have HB := Lib.hid (show p < p + (q - p + 1) / 2 ∧ p + (q - p + 1) / 2 ≤ q by omega)
        by_cases hm : p + (q - p + 1) / 2 ≤ m
        · have hlm := HIM.out.2 hm
          clear HI HL HIM
          generalize lad l (p + (q - p + 1) / 2) = dm at *
          go_wp2_with (first | (go_at_call 32; with_reducible refine Calls.mono (HCM.out _ (hEr.tr (by (repeat (first | with_reducible exact Ext.rfl' _ | with_reducible assumption | with_reducible refine Ext.al ?_ _ | with_reducible refine Ext.dr ?_ | with_reducible refine Ext.st ?_ (by simp) _ | with_reducible refine Ext.tr ?_ (by assumption)))))) ?_; rintro e w4 ⟨rfl, hb⟩; have hc := hb.ccell; have hf := hb.frz; have hs := hb.sz; (try simp at hs); (try have t0 := hs (w.heap.size) (by first | assumption | omega)); (try have t1 := hs (w.heap.size) (by first | assumption | omega)); (try have t2 := hs (w.heap.size) (by first | assumption | omega)); (try have t3 := hs (w.heap.size) (by first | assumption | omega)); (try have t4 := hs (w.heap.size) (by first | assumption | omega)); (try have t5 := hs (w.heap.size) (by first | assumption | omega))))
          exact ⟨⟨hE4.tr (by (repeat (first | with_reducible exact Ext.rfl' _ | with_reducible assumption | with_reducible refine Ext.al ?_ _ | with_reducible refine Ext.dr ?_ | with_reducible refine Ext.st ?_ (by simp) _ | with_reducible refine Ext.tr ?_ (by assumption)))), _, q, rfl, rfl, by have := HB.out; omega, by omega⟩, by have := HB.out; simp [intOf]; omega⟩
        · have hlm : ¬ lad l (p + (q - p + 1) / 2) ≤ d := fun h => hm (HIM.out.1 h)
          clear HI HL HIM
          generalize lad l (p + (q - p + 1) / 2) = dm at *
          go_wp2_with (first | (go_at_call 32; with_reducible refine Calls.mono (HCM.out _ (hEr.tr (by (repeat (first | with_reducible exact Ext.rfl' _ | with_reducible assumption | with_reducible refine Ext.al ?_ _ | with_reducible refine Ext.dr ?_ | with_reducible refine Ext.st ?_ (by simp) _ | with_reducible refine Ext.tr ?_ (by assumption)))))) ?_; rintro e w4 ⟨rfl, hb⟩; have hc := hb.ccell; have hf := hb.frz; have hs := hb.sz; (try simp at hs); (try have t0 := hs (w.heap.size) (by first | assumption | omega)); (try have t1 := hs (w.heap.size) (by first | assumption | omega)); (try have t2 := hs (w.heap.size) (by first | assumption | omega)); (try have t3 := hs (w.heap.size) (by first | assumption | omega)); (try have t4 := hs (w.heap.size) (by first | assumption | omega)); (try have t5 := hs (w.heap.size) (by first | assumption | omega))))
          exact ⟨⟨hE4.tr (by (repeat (first | with_reducible exact Ext.rfl' _ | with_reducible assumption | with_reducible refine Ext.al ?_ _ | with_reducible refine Ext.dr ?_ | with_reducible refine Ext.st ?_ (by simp) _ | with_reducible refine Ext.tr ?_ (by assumption)))), p, p + (q - p + 1) / 2 - 1, rfl, rfl, by omega, by have := HB.out; omega⟩, by have := HB.out; simp [intOf]; omega⟩
      · have hpm : p = m := by omega
        subst hpm
        go_wp2
        exact bodyPost_ret (v := .tuple #[.int .i64 p, .int .i64 0]) (by simp [results, Try.results10, go_sem]) rfl ⟨rfl, hEr.tr (by (repeat (first | with_reducible exact Ext.rfl' _ | with_reducible assumption | with_reducible refine Ext.al ?_ _ | with_reducible refine Ext.dr ?_ | with_reducible refine Ext.st ?_ (by simp) _ | with_reducible refine Ext.tr ?_ (by assumption))))⟩
end Go.Proofs.Ytmhmfjgahhgbpaa

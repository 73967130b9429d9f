/- The contracts of softestRun, allowed. -/
import Derived.Test.YtgbkjioajmnjbaaGreatScen
namespace Go.Proofs.YtgbkjioajmnjbaaGreat
open Go Go.RowKit Go.IntWalk

theorem ite_maxS (a b : Int) : (if a < b then b else a) = max a b := by split <;> omega
theorem soLayer_c (x : La) (s : ByteArray) (n : Nat) (w : World) (h : w.cell? ⟨n, 0, none⟩ = some (.string s)) (hn : n < w.heap.size) :
    Calls Tryz.prog 99 #[.agg #[.int .i64 x.t, .string x.s], .pointer (some ⟨n, 0, none⟩)] w fun e w' => e = .returned (.bool (sameS x.s s)) ∧ Ext w w' := by
  go_enter Tryz.func99, Tryz.ntmps99
  go_wp2
  go_ret
  exact ⟨rfl, by (repeat (first | with_reducible exact Ext.rfl' _ | with_reducible assumption | with_reducible refine Ext.al ?_ _ | with_reducible refine Ext.dr ?_ | with_reducible refine Ext.st ?_ (by simp) _ | with_reducible refine Ext.tr ?_ (by assumption)))⟩
set_option maxHeartbeats 1000000 in
theorem indexLa_c (l : List La) (s : ByteArray) (n : Nat) (w : World) (A : Option Addr) (c : Nat) (hl : l.length ≤ 1000) (hA : Row 2 encLa w A l) (h : ∀ w', Ext w w' → w'.cell? ⟨n, 0, none⟩ = some (.string s)) (hn : n < w.heap.size) :
    Calls Tryz.prog 111 #[.slice A l.length c, .func (.func 99) #[] #[.pointer (some ⟨n, 0, none⟩)]] w
      fun e w' => (∃ r : Int, e = .returned (.int .i64 r) ∧ decide (0 ≤ r) = hasLa l s) ∧ Ext w w' := by
  unfold hasLa
  go_enter Tryz.func111, Tryz.ntmps111
  go_wp2
  go_loopw [5, 8] (fun _ i wr => Ext w wr ∧ ∃ k : Nat, k ≤ l.length ∧ i = .int .i64 k ∧ Hid (anyN (fun j => sameS (el l j).s s) k = false)) (fun _ i _ => l.length - (intOf i).toNat)
  case atStart => exact ⟨Ext.rfl' _, 0, Nat.zero_le _, rfl, rfl⟩
  case round =>
    obtain ⟨hE, k, hk, rfl, HN⟩ := hrel
    by_cases hlt : k < l.length
    · obtain ⟨b, off, rfl, hb0, hcell⟩ := hA.la hlt
      have c := hcell _ hE
      clear hcell
      have hz := hE.sz _ hb0
      have hzn := hE.sz _ hn
      obtain ⟨x, hx⟩ : ∃ x, el l k = x := ⟨_, rfl⟩
      rw [hx] at c
      have HX := Lib.hid hx
      have HS := Lib.hid (soLayer_c x s n wr (h _ hE) hzn)
      clear hx
      cases hb : sameS x.s s
      · rw [hb] at HS
        have HF := Lib.hid hb
        clear hb
        go_wp2_with (first | (go_at_call 99; with_reducible refine Calls.mono (HS.out) ?_; rintro e w1 ⟨rfl, hb⟩; have hc := hb.ccell; have hf := hb.frz; have hs := hb.sz; (try simp at hs); (try have hs0 := hs w.heap.size (by omega)); (try have hs1 := hs (w.heap.size + 1) (by omega)); (try have hs2 := hs (w.heap.size + 1 + 1) (by omega)); (try have hs3 := hs (w.heap.size + 1 + 1 + 1) (by omega))))
        exact ⟨⟨by (repeat (first | with_reducible exact Ext.rfl' _ | with_reducible assumption | with_reducible refine Ext.al ?_ _ | with_reducible refine Ext.dr ?_ | with_reducible refine Ext.st ?_ (by simp) _ | with_reducible refine Ext.tr ?_ (by assumption))), k + 1, by omega, by go_num, by show anyN _ (k + 1) = false; rw [anyN, HN.out, HX.out, HF.out]; rfl⟩, by simp [intOf]; omega⟩
      · rw [hb] at HS
        have HF := Lib.hid hb
        clear hb
        go_wp2_with (first | (go_at_call 99; with_reducible refine Calls.mono (HS.out) ?_; rintro e w1 ⟨rfl, hb⟩; have hc := hb.ccell; have hf := hb.frz; have hs := hb.sz; (try simp at hs); (try have hs0 := hs w.heap.size (by omega)); (try have hs1 := hs (w.heap.size + 1) (by omega)); (try have hs2 := hs (w.heap.size + 1 + 1) (by omega)); (try have hs3 := hs (w.heap.size + 1 + 1 + 1) (by omega))))
        go_ret
        exact ⟨⟨k, rfl, by rw [anyN_at (fun j => sameS (el l j).s s) hlt (by show sameS (el l k).s s = true; rw [HX.out, HF.out])]; simp⟩, by (repeat (first | with_reducible exact Ext.rfl' _ | with_reducible assumption | with_reducible refine Ext.al ?_ _ | with_reducible refine Ext.dr ?_ | with_reducible refine Ext.st ?_ (by simp) _ | with_reducible refine Ext.tr ?_ (by assumption)))⟩
    · have hks : k = l.length := by omega
      subst hks
      go_wp2
      go_ret
      exact ⟨⟨-1, rfl, by rw [HN.out]; rfl⟩, hE⟩
theorem containsLa_c (l : List La) (s : ByteArray) (n : Nat) (w : World) (A : Option Addr) (c : Nat) (hl : l.length ≤ 1000) (hA : Row 2 encLa w A l) (h : ∀ w', Ext w w' → w'.cell? ⟨n, 0, none⟩ = some (.string s)) (hn : n < w.heap.size) :
    Calls Tryz.prog 98 #[.slice A l.length c, .func (.func 99) #[] #[.pointer (some ⟨n, 0, none⟩)]] w
      fun e w' => e = .returned (.bool (hasLa l s)) ∧ Ext w w' := by
  have HI := Lib.hid (indexLa_c l s n w A c hl hA h hn)
  go_enter Tryz.func98, Tryz.ntmps98
  go_wp2_with (first | (go_at_call 111; with_reducible refine Calls.mono (HI.out) ?_; rintro e w1 ⟨⟨r, rfl, hr⟩, hb⟩))
  go_ret
  exact ⟨by rw [← hr]; rfl, hb⟩
set_option maxHeartbeats 4000000 in
theorem softest_c (soils : List So) (l : List La) (w : World) (A B : Option Addr) (c d : Nat) (hs : soils.length ≤ 1000) (hl : l.length ≤ 1000) (hA : Row 5 encSo w A soils) (hB : Row 2 encLa w B l) :
    Calls Tryz.prog 79 #[.slice A soils.length c, .slice B l.length d] w fun e w' => e = .returned (.int .i64 (softN soils l soils.length)) ∧ Ext w w' := by
  have HC := Lib.hid (fun s n w' (hw : Ext w w') h hn => containsLa_c l s n w' B d hl (hB.ext hw) h hn)
  obtain ⟨N, hN⟩ : ∃ N, softN soils l soils.length = N := ⟨_, rfl⟩
  rw [hN]
  have HN := Lib.hid hN
  clear hN
  go_enter Tryz.func79, Tryz.ntmps79
  go_wp2
  go_loopw [5, 10] (fun o i wr => Ext w wr ∧ ∃ k : Nat, k ≤ soils.length ∧ i = .int .i64 k ∧ o = .int .i64 (softN soils l k)) (fun _ i _ => soils.length - (intOf i).toNat)
  case atStart => exact ⟨Ext.rfl' _, 0, Nat.zero_le _, rfl, rfl⟩
  case round =>
    obtain ⟨hE, k, hk, rfl, rfl⟩ := hrel
    by_cases hlt : k < soils.length
    · obtain ⟨b, off, rfl, hb0, hcell⟩ := hA.so hlt
      have c := hcell _ hE
      have hz := hE.sz _ hb0
      have HX : Hid (softN soils l (k + 1) = if hasLa l (el soils k).s = true then max (softN soils l k) (el soils k).run else softN soils l k) := rfl
      clear hcell
      generalize softN soils l k = m at *
      generalize el soils k = x at *
      have HH := Lib.hid (fun n w' (hw : Ext w w') h hn => HC.out x.s n w' hw h hn)
      go_upto_region 5 with fail
      refine wp_name (fun W hW => ?_)
      have hEW : Ext wr W := by rw [hW]; (repeat (first | with_reducible exact Ext.rfl' _ | with_reducible assumption | with_reducible refine Ext.al ?_ _ | with_reducible refine Ext.dr ?_ | with_reducible refine Ext.st ?_ (by simp) _ | with_reducible refine Ext.tr ?_ (by assumption)))
      have s0 : W.cell? ⟨wr.heap.size, 0, none⟩ = some (.string x.s) := by rw [hW]; simp [go_sem]
      have s1 : W.cell? ⟨wr.heap.size, 1, none⟩ = some (.int .i64 x.run) := by rw [hW]; simp [go_sem]
      have z0 : wr.heap.size < W.heap.size := by rw [hW]; simp
      have hEw := hE.tr hEW
      clear hW c hb0 hz
      cases hh : hasLa l x.s
      · rw [hh] at HH HX
        clear hh
        go_wp2_with (first | (go_at_call 98; with_reducible refine Calls.mono (HH.out _ _ hEw (fun w' hw => (hw.ccell _ 0 z0).trans s0) z0) ?_; rintro e w1 ⟨rfl, hb⟩; have hc := hb.ccell; have hf := hb.frz; have hs := hb.sz; (try simp at hs); (try have t0 := hs (wr.heap.size) (by first | assumption | omega)); (try have t1 := hs (wr.heap.size) (by first | assumption | omega)); (try have t2 := hs (wr.heap.size) (by first | assumption | omega)); (try have t3 := hs (wr.heap.size) (by first | assumption | omega)); (try have t4 := hs (wr.heap.size) (by first | assumption | omega)); (try have t5 := hs (wr.heap.size) (by first | assumption | omega))))
        exact ⟨⟨by (repeat (first | with_reducible exact Ext.rfl' _ | with_reducible assumption | with_reducible refine Ext.al ?_ _ | with_reducible refine Ext.dr ?_ | with_reducible refine Ext.st ?_ (by simp) _ | with_reducible refine Ext.tr ?_ (by assumption))), k + 1, by omega, by go_num, by rw [HX.out]; rfl⟩, by simp [intOf]; omega⟩
      · rw [hh] at HH HX
        clear hh
        go_wp2_with (first | (go_at_call 98; with_reducible refine Calls.mono (HH.out _ _ hEw (fun w' hw => (hw.ccell _ 0 z0).trans s0) z0) ?_; rintro e w1 ⟨rfl, hb⟩; have hc := hb.ccell; have hf := hb.frz; have hs := hb.sz; (try simp at hs); (try have t0 := hs (wr.heap.size) (by first | assumption | omega)); (try have t1 := hs (wr.heap.size) (by first | assumption | omega)); (try have t2 := hs (wr.heap.size) (by first | assumption | omega)); (try have t3 := hs (wr.heap.size) (by first | assumption | omega)); (try have t4 := hs (wr.heap.size) (by first | assumption | omega)); (try have t5 := hs (wr.heap.size) (by first | assumption | omega))))
        all_goals exact ⟨⟨by (repeat (first | with_reducible exact Ext.rfl' _ | with_reducible assumption | with_reducible refine Ext.al ?_ _ | with_reducible refine Ext.dr ?_ | with_reducible refine Ext.st ?_ (by simp) _ | with_reducible refine Ext.tr ?_ (by assumption))), k + 1, by omega, by go_num, by rw [HX.out]; first | (simp; omega) | (simp; done) | rfl⟩, by simp [intOf]; omega⟩
    · have hks : k = soils.length := by omega
      subst hks
      go_wp2
      go_ret
      exact ⟨ret_int HN.out, hE⟩
set_option maxHeartbeats 4000000 in
theorem allowed_c (g : Gr) (r : List Int) (a b : Nat) (w : World) (A B : Option Addr) (c d : Nat) (hS : 100 ≤ g.S ∧ g.S ≤ 10000) (ha : a < r.length) (hb : b < r.length) (_hr : r.length ≤ 2000) (hra : 1 ≤ gi r a ∧ gi r a ≤ 1000) (hrb : 1 ≤ gi r b ∧ gi r b ≤ 1000) (hB : Row 1 encZ w B r) :
    Calls Tryz.prog 59 #[.agg #[.int .i64 g.X, .int .i64 g.Y, .int .i64 g.S, .int .i64 g.C, .int .i64 g.R, .slice A g.L.length c, .slice B r.length d], .int .i64 a, .int .i64 b] w fun e w' => e = .returned (.int .i64 (alw g.S r a b)) ∧ Ext w w' := by
  unfold alw
  obtain ⟨q, off, rfl, hq, hcell⟩ := hB.p1 ha
  have e0 := hcell _ (Ext.rfl' w)
  obtain ⟨q', off', hqe, _, hcell'⟩ := hB.p1 hb
  injection hqe with hqe
  injection hqe with h1 h2
  subst h1 h2
  have e1 := hcell' _ (Ext.rfl' w)
  rw [← gi_lt] at e0 e1
  generalize gi r a = u at *
  generalize gi r b = v at *
  clear hcell hcell'
  go_enter Tryz.func59, Tryz.ntmps59
  go_upto_region 1 with fail
  refine wp_name (fun W hW => ?_)
  have hEW : Ext w W := by rw [hW]; (repeat (first | with_reducible exact Ext.rfl' _ | with_reducible assumption | with_reducible refine Ext.al ?_ _ | with_reducible refine Ext.dr ?_ | with_reducible refine Ext.st ?_ (by simp) _ | with_reducible refine Ext.tr ?_ (by assumption)))
  have s2 : W.cell? ⟨w.heap.size, 2, none⟩ = some (.int .i64 g.S) := by rw [hW]; simp [go_sem]
  have s6 : W.cell? ⟨w.heap.size, 6, none⟩ = some (.slice (some ⟨q, off, none⟩) r.length d) := by rw [hW]; simp [go_sem]
  have z0 : w.heap.size < W.heap.size := by rw [hW]; simp
  have zq := hEW.sz _ hq
  have e0 := (hEW.ccell _ (off + a) hq).trans e0
  have e1 := (hEW.ccell _ (off + b) hq).trans e1
  clear hW hq
  refine region_grow (by kernel_rfl) (by kernel_rfl) ?_
  repeat (first | go_big_quiet_step (first  | fail) | quiet_step (first  | fail))
  refine wpQuiet_nil ?_
  intro w1 hb
  have hc := hb.ccell
  have hf := hb.frz
  have hs := hb.sz
  (try simp at hs); (try have hs0 := hs w.heap.size (by omega)); (try have hs1 := hs (w.heap.size + 1) (by omega)); (try have hs2 := hs (w.heap.size + 1 + 1) (by omega)); (try have hs3 := hs (w.heap.size + 1 + 1 + 1) (by omega))
  (try simp only [IntWalk.i64_left])
  go_wp2
  go_ret
  exact ⟨ret_int (by simp), by (repeat (first | with_reducible exact Ext.rfl' _ | with_reducible assumption | with_reducible refine Ext.al ?_ _ | with_reducible refine Ext.dr ?_ | with_reducible refine Ext.st ?_ (by simp) _ | with_reducible refine Ext.tr ?_ (by assumption)))⟩
end Go.Proofs.YtgbkjioajmnjbaaGreat

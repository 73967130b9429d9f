/- Contracts of bed.Centre, bed.Near and of what they call, of the reference's Centre. -/
import Derived.Test.YtgbkjioajmnjbaaGreatBcell
import Derived.Test.YtgbkjioajmnjbaaGreatBnear
import Derived.Test.YtgbkjioajmnjbaaGreatBplpure
import Derived.Test.YtgbkjioajmnjbaaGreatTtail
namespace Go.Proofs.YtgbkjioajmnjbaaGreat
open Go Go.RowKit Go.IntWalk

def OutZN (base : Nat) (l : List Nat) (e : Ending) (w' : World) : Prop := ∃ A c, e = .returned (.slice A l.length c) ∧ NewZ base w' A c (zl l)
theorem OutZN.of {base : Nat} {l : List Nat} {e : Ending} {w' : World} (h : OutZ base (zl l) e w') : OutZN base l e w' := by
  obtain ⟨A, c, h1, h2⟩ := h
  rw [zl_len] at h1
  exact ⟨A, c, h1, h2⟩
theorem isCell_iff {n : Nat} {i : Int} : (decide (0 ≤ i) && decide (i < n)) = true ↔ 0 ≤ i ∧ i < n := by simp
/-- The error of a grid and a cell's number. -/
def gcE (g : Gr) (i : Int) : Int := if chkG g ≠ 0 then chkG g else if (decide (0 ≤ i) && decide (i < g.L.length)) = true then 0 else 6
set_option maxHeartbeats 4000000 in
theorem checkCell_c (g : Gr) (i : Int) (w : World) (A : Option Addr) (c : Nat) (hl : g.L.length ≤ maxLen) (hA : Row 1 encZ w A g.L) :
    Calls Tryz.prog 81 #[.agg #[.int .i64 g.X, .int .i64 g.Y, .int .i64 g.S, .int .i64 g.C, .int .i64 g.R, .slice A g.L.length c], .int .i64 i] w fun e w' => e = .returned (.int .i64 (gcE g i)) ∧ Ext w w' := by
  have HC := Lib.hid (fun w' (hw : Ext w w') => check_c g w' A c hl (hA.ext hw))
  have HI := Lib.hid (fun w' => isCell_c g i w' A c hl)
  unfold gcE
  by_cases h0 : chkG g = 0
  case neg =>
    rw [if_pos h0]
    have h0' : (chkG g != 0) = true := by simp [h0]
    clear h0
    generalize chkG g = E at *
    go_enter Tryz.func81, Tryz.ntmps81
    go_wp2_with (first | (go_at_call 42; with_reducible refine Calls.mono (HC.out _ (by (repeat (first | with_reducible exact Ext.rfl' _ | with_reducible assumption | with_reducible refine Ext.al ?_ _ | with_reducible refine Ext.dr ?_ | with_reducible refine Ext.st ?_ (by simp) _ | with_reducible refine Ext.tr ?_ (by assumption))))) ?_; rintro e w1 ⟨rfl, hb⟩; have hc := hb.ccell; have hf := hb.frz; have hs := hb.sz; (try simp at hs); (try have hs0 := hs w.heap.size (by omega)); (try have hs1 := hs (w.heap.size + 1) (by omega)); (try have hs2 := hs (w.heap.size + 1 + 1) (by omega)); (try have hs3 := hs (w.heap.size + 1 + 1 + 1) (by omega))))
    go_ret
    exact ⟨rfl, by (repeat (first | with_reducible exact Ext.rfl' _ | with_reducible assumption | with_reducible refine Ext.al ?_ _ | with_reducible refine Ext.dr ?_ | with_reducible refine Ext.st ?_ (by simp) _ | with_reducible refine Ext.tr ?_ (by assumption)))⟩
  rw [if_neg (by omega)]
  rw [h0] at HC
  cases hq : (decide (0 ≤ i) && decide (i < g.L.length))
  all_goals
    rw [hq] at HI
    clear hq h0
    go_enter Tryz.func81, Tryz.ntmps81
    go_wp2_with (first | (go_at_call 42; with_reducible refine Calls.mono (HC.out _ (by (repeat (first | with_reducible exact Ext.rfl' _ | with_reducible assumption | with_reducible refine Ext.al ?_ _ | with_reducible refine Ext.dr ?_ | with_reducible refine Ext.st ?_ (by simp) _ | with_reducible refine Ext.tr ?_ (by assumption))))) ?_; rintro e w1 ⟨rfl, hb⟩; have hc := hb.ccell; have hf := hb.frz; have hs := hb.sz; (try simp at hs); (try have hs0 := hs w.heap.size (by omega)); (try have hs1 := hs (w.heap.size + 1) (by omega)); (try have hs2 := hs (w.heap.size + 1 + 1) (by omega)); (try have hs3 := hs (w.heap.size + 1 + 1 + 1) (by omega))) | (go_at_call 100; with_reducible refine Calls.mono (HI.out _) ?_; rintro e w1 ⟨rfl, hb⟩; have hc := hb.ccell; have hf := hb.frz; have hs := hb.sz; (try simp at hs); (try have hs0 := hs w.heap.size (by omega)); (try have hs1 := hs (w.heap.size + 1) (by omega)); (try have hs2 := hs (w.heap.size + 1 + 1) (by omega)); (try have hs3 := hs (w.heap.size + 1 + 1 + 1) (by omega))))
    go_ret
    exact ⟨rfl, by (repeat (first | with_reducible exact Ext.rfl' _ | with_reducible assumption | with_reducible refine Ext.al ?_ _ | with_reducible refine Ext.dr ?_ | with_reducible refine Ext.st ?_ (by simp) _ | with_reducible refine Ext.tr ?_ (by assumption)))⟩
set_option maxHeartbeats 4000000 in
theorem centre_c (g : Gr) (cn i : Nat) (w : World) (A : Option Addr) (c : Nat) (v : VG g) (hC : g.C = cn) (hi : i < g.L.length) :
    Calls Tryz.prog 82 #[.agg #[.int .i64 g.X, .int .i64 g.Y, .int .i64 g.S, .int .i64 g.C, .int .i64 g.R, .slice A g.L.length c], .int .i64 i] w fun e w' => e = .returned (.agg #[.int .i64 (ctX g cn i), .int .i64 (ctY g cn i)]) ∧ Ext w w' := by
  have hx := v.hx
  have hy := v.hy
  have hs := v.hs
  have hc := v.hc
  have hn := v.hn
  have hln := v.len
  obtain ⟨cn', rn, e1, e2, e3, e4, e5, e6, e7, e8⟩ := v.nat
  have hcn : cn' = cn := by omega
  subst hcn
  have hd1 : i / cn' < rn := by rw [Nat.div_lt_iff_lt_mul e3, Nat.mul_comm]; omega
  have hd2 := Nat.mod_lt i e3
  have ed : (i : Int) / g.C = ((i / cn' : Nat) : Int) := by rw [e1]; simp
  have em : (i : Int) % g.C = ((i % cn' : Nat) : Int) := by rw [e1]; simp
  have hC00 : ¬ g.C = 0 := by omega
  have hgC : 0 < g.C ∧ g.C ≤ 1024 := by omega
  clear hC e1 e2 e7 e8 hn hln hc v
  unfold ctX ctY
  generalize i / cn' = dv at *
  generalize i % cn' = md at *
  have b1 : 0 ≤ (md : Int) * g.S ∧ (md : Int) * g.S ≤ 1024 * 10000 := ⟨Int.mul_nonneg (by omega) (by omega), Int.mul_le_mul (by omega) (by omega) (by omega) (by omega)⟩
  have b2 : 0 ≤ (dv : Int) * g.S ∧ (dv : Int) * g.S ≤ 1024 * 10000 := ⟨Int.mul_nonneg (by omega) (by omega), Int.mul_le_mul (by omega) (by omega) (by omega) (by omega)⟩
  go_enter Tryz.func82, Tryz.ntmps82
  go_upto_region 1 with fail
  refine region_grow (by kernel_rfl) (by kernel_rfl) ?_
  repeat (first | go_big_quiet_step (first  | fail) | quiet_step (first  | fail))
  refine wpQuiet_nil ?_
  intro w1 hb
  have hc := hb.ccell
  have hf := hb.frz
  have hs := hb.sz
  (try simp at hs); (try have hs0 := hs w.heap.size (by omega)); (try have hs1 := hs (w.heap.size + 1) (by omega)); (try have hs2 := hs (w.heap.size + 1 + 1) (by omega)); (try have hs3 := hs (w.heap.size + 1 + 1 + 1) (by omega))
  (try simp only [IntWalk.i64_left])
  go_wp2
  have z0 : w1.cell? ⟨w.heap.size + 1, 0, none⟩ = some (.int .i64 0) := by simp [*, go_sem]
  have z1 : w1.cell? ⟨w.heap.size + 1, 1, none⟩ = some (.int .i64 0) := by simp [*, go_sem]
  exact bodyPost_ret (v := .agg #[.int .i64 (g.X + (md : Int) * g.S + g.S / 2), .int .i64 (g.Y + (dv : Int) * g.S + g.S / 2)]) (by simp [results, Tryz.results82, go_sem, z0, z1]) rfl ⟨rfl, Ext.st (Ext.st (show Ext w w1 by (repeat (first | with_reducible exact Ext.rfl' _ | with_reducible assumption | with_reducible refine Ext.al ?_ _ | with_reducible refine Ext.dr ?_ | with_reducible refine Ext.st ?_ (by simp) _ | with_reducible refine Ext.tr ?_ (by assumption)))) (by simp) _) (by simp) _⟩
set_option maxHeartbeats 4000000 in
theorem rcentre_c (g : Gr) (cn i : Nat) (w : World) (A : Option Addr) (c : Nat) (v : VG g) (hC : g.C = cn) (hi : i < g.L.length) :
    Calls Tryz.prog 34 #[.agg #[.int .i64 g.X, .int .i64 g.Y, .int .i64 g.S, .int .i64 g.C, .int .i64 g.R, .slice A g.L.length c], .int .i64 i] w fun e w' => e = .returned (.agg #[.int .i64 (ctX g cn i), .int .i64 (ctY g cn i)]) ∧ Ext w w' := by
  have hx := v.hx
  have hy := v.hy
  have hs := v.hs
  have hc := v.hc
  have hn := v.hn
  have hln := v.len
  obtain ⟨cn', rn, e1, e2, e3, e4, e5, e6, e7, e8⟩ := v.nat
  have hcn : cn' = cn := by omega
  subst hcn
  have hd1 : i / cn' < rn := by rw [Nat.div_lt_iff_lt_mul e3, Nat.mul_comm]; omega
  have hd2 := Nat.mod_lt i e3
  have ed : (i : Int) / g.C = ((i / cn' : Nat) : Int) := by rw [e1]; simp
  have em : (i : Int) % g.C = ((i % cn' : Nat) : Int) := by rw [e1]; simp
  have hC00 : ¬ g.C = 0 := by omega
  have hgC : 0 < g.C ∧ g.C ≤ 1024 := by omega
  clear hC e1 e2 e7 e8 hn hln hc v
  unfold ctX ctY
  generalize i / cn' = dv at *
  generalize i % cn' = md at *
  have b1 : 0 ≤ (md : Int) * g.S ∧ (md : Int) * g.S ≤ 1024 * 10000 := ⟨Int.mul_nonneg (by omega) (by omega), Int.mul_le_mul (by omega) (by omega) (by omega) (by omega)⟩
  have b2 : 0 ≤ (dv : Int) * g.S ∧ (dv : Int) * g.S ≤ 1024 * 10000 := ⟨Int.mul_nonneg (by omega) (by omega), Int.mul_le_mul (by omega) (by omega) (by omega) (by omega)⟩
  go_enter Tryz.func34, Tryz.ntmps34
  go_upto_region 1 with fail
  refine region_grow_tail 29 (by kernel_rfl) (by kernel_rfl) ?_
  simp only [List.take_succ_cons, List.take_zero, List.drop_succ_cons, List.drop_zero]
  repeat (first | go_big_quiet_step (first | fail | fail) | quiet_step (first | fail | fail))
  refine wpQuiet_nil ?_
  intro w1 hb
  have hc := hb.ccell
  have hf := hb.frz
  have hs := hb.sz
  (try simp at hs); (try have hs0 := hs w.heap.size (by omega)); (try have hs1 := hs (w.heap.size + 1) (by omega)); (try have hs2 := hs (w.heap.size + 1 + 1) (by omega)); (try have hs3 := hs (w.heap.size + 1 + 1 + 1) (by omega))
  go_wp2
  have z0 : w1.cell? ⟨w.heap.size + 1, 0, none⟩ = some (.int .i64 0) := by simp [*, go_sem]
  have z1 : w1.cell? ⟨w.heap.size + 1, 1, none⟩ = some (.int .i64 0) := by simp [*, go_sem]
  exact bodyPost_ret (v := .agg #[.int .i64 (g.X + (md : Int) * g.S + g.S / 2), .int .i64 (g.Y + (dv : Int) * g.S + g.S / 2)]) (by simp [results, Tryz.results34, go_sem, z0, z1]) rfl ⟨rfl, Ext.st (Ext.st (show Ext w w1 by (repeat (first | with_reducible exact Ext.rfl' _ | with_reducible assumption | with_reducible refine Ext.al ?_ _ | with_reducible refine Ext.dr ?_ | with_reducible refine Ext.st ?_ (by simp) _ | with_reducible refine Ext.tr ?_ (by assumption)))) (by simp) _) (by simp) _⟩
set_option maxHeartbeats 4000000 in
theorem centre_err_c (g : Gr) (i : Int) (w : World) (A : Option Addr) (c : Nat) (hl : g.L.length ≤ maxLen) (hA : Row 1 encZ w A g.L) (h0 : gcE g i ≠ 0) :
    Calls Tryz.prog 64 #[.agg #[.int .i64 g.X, .int .i64 g.Y, .int .i64 g.S, .int .i64 g.C, .int .i64 g.R, .slice A g.L.length c], .int .i64 i] w fun e w' => e = .returned (.tuple #[.agg #[.int .i64 0, .int .i64 0], .int .i64 (gcE g i)]) ∧ Ext w w' := by
  have HC := Lib.hid (fun w' (hw : Ext w w') => checkCell_c g i w' A c hl (hA.ext hw))
  have h0' : (gcE g i != 0) = true := by simp [h0]
  clear h0
  generalize gcE g i = E at *
  go_enter Tryz.func64, Tryz.ntmps64
  go_wp2_with (first | (go_at_call 81; with_reducible refine Calls.mono (HC.out _ (by (repeat (first | with_reducible exact Ext.rfl' _ | with_reducible assumption | with_reducible refine Ext.al ?_ _ | with_reducible refine Ext.dr ?_ | with_reducible refine Ext.st ?_ (by simp) _ | with_reducible refine Ext.tr ?_ (by assumption))))) ?_; rintro e w1 ⟨rfl, hb⟩; have hc := hb.ccell; have hf := hb.frz; have hs := hb.sz; (try simp at hs); (try have t0 := hs (w.heap.size) (by first | assumption | omega)); (try have t1 := hs (w.heap.size + 1) (by first | assumption | omega)); (try have t2 := hs (w.heap.size) (by first | assumption | omega)); (try have t3 := hs (w.heap.size) (by first | assumption | omega)); (try have t4 := hs (w.heap.size) (by first | assumption | omega)); (try have t5 := hs (w.heap.size) (by first | assumption | omega))))
  have z0 : w1.cell? ⟨w.heap.size + 1, 0, none⟩ = some (.int .i64 0) := by simp [*, go_sem]
  have z1 : w1.cell? ⟨w.heap.size + 1, 1, none⟩ = some (.int .i64 0) := by simp [*, go_sem]
  exact bodyPost_ret (v := .tuple #[.agg #[.int .i64 0, .int .i64 0], .int .i64 E]) (by simp [results, Tryz.results64, go_sem, z0, z1]) rfl ⟨rfl, Ext.st (Ext.st (show Ext w w1 by (repeat (first | with_reducible exact Ext.rfl' _ | with_reducible assumption | with_reducible refine Ext.al ?_ _ | with_reducible refine Ext.dr ?_ | with_reducible refine Ext.st ?_ (by simp) _ | with_reducible refine Ext.tr ?_ (by assumption)))) (by simp) _) (by simp) _⟩
set_option maxHeartbeats 4000000 in
theorem centre_ok_c (g : Gr) (cn i : Nat) (w : World) (A : Option Addr) (c : Nat) (hC : g.C = cn) (hA : Row 1 encZ w A g.L) (h0 : gcE g i = 0) (hc0 : chkG g = 0) (hi : i < g.L.length) :
    Calls Tryz.prog 64 #[.agg #[.int .i64 g.X, .int .i64 g.Y, .int .i64 g.S, .int .i64 g.C, .int .i64 g.R, .slice A g.L.length c], .int .i64 i] w fun e w' => e = .returned (.tuple #[.agg #[.int .i64 (ctX g cn i), .int .i64 (ctY g cn i)], .int .i64 0]) ∧ Ext w w' := by
  have v := chkG_ok hc0
  have hl : g.L.length ≤ maxLen := by have h1 := v.len; have h2 := v.hn; unfold maxLen; omega
  have HC := Lib.hid (fun w' (hw : Ext w w') => by have h := checkCell_c g i w' A c hl (hA.ext hw); rw [h0] at h; exact h)
  have HT := Lib.hid (fun w' => centre_c g cn i w' A c v hC hi)
  generalize ctX g cn i = x at *
  generalize ctY g cn i = y at *
  clear h0 hc0 v hC
  go_enter Tryz.func64, Tryz.ntmps64
  go_wp2_with (first | (go_at_call 81; with_reducible refine Calls.mono (HC.out _ (by (repeat (first | with_reducible exact Ext.rfl' _ | with_reducible assumption | with_reducible refine Ext.al ?_ _ | with_reducible refine Ext.dr ?_ | with_reducible refine Ext.st ?_ (by simp) _ | with_reducible refine Ext.tr ?_ (by assumption))))) ?_; rintro e w1 ⟨rfl, hb⟩; have hc := hb.ccell; have hf := hb.frz; have hs := hb.sz; (try simp at hs); (try have t0 := hs (w.heap.size) (by first | assumption | omega)); (try have t1 := hs (w.heap.size + 1) (by first | assumption | omega)); (try have t2 := hs (w.heap.size) (by first | assumption | omega)); (try have t3 := hs (w.heap.size) (by first | assumption | omega)); (try have t4 := hs (w.heap.size) (by first | assumption | omega)); (try have t5 := hs (w.heap.size) (by first | assumption | omega))) | (go_at_call 82; with_reducible refine Calls.mono (HT.out _) ?_; rintro e w2 ⟨rfl, hb⟩; have hc := hb.ccell; have hf := hb.frz; have hs := hb.sz; (try simp at hs); (try have t0 := hs (w.heap.size) (by first | assumption | omega)); (try have t1 := hs (w.heap.size + 1) (by first | assumption | omega)); (try have t2 := hs (w.heap.size) (by first | assumption | omega)); (try have t3 := hs (w.heap.size) (by first | assumption | omega)); (try have t4 := hs (w.heap.size) (by first | assumption | omega)); (try have t5 := hs (w.heap.size) (by first | assumption | omega))))
  have z0 : w2.cell? ⟨w.heap.size + 1, 0, none⟩ = some (.int .i64 0) := by simp [*, go_sem]
  have z1 : w2.cell? ⟨w.heap.size + 1, 1, none⟩ = some (.int .i64 0) := by simp [*, go_sem]
  exact bodyPost_ret (v := .tuple #[.agg #[.int .i64 x, .int .i64 y], .int .i64 0]) (by simp [results, Tryz.results64, go_sem, z0, z1]) rfl ⟨rfl, Ext.st (Ext.st (show Ext w w2 by (repeat (first | with_reducible exact Ext.rfl' _ | with_reducible assumption | with_reducible refine Ext.al ?_ _ | with_reducible refine Ext.dr ?_ | with_reducible refine Ext.st ?_ (by simp) _ | with_reducible refine Ext.tr ?_ (by assumption)))) (by simp) _) (by simp) _⟩
def OutN (l : List Nat) (e : Ending) (w' : World) : Prop := ∃ A c, e = .returned (.tuple #[.slice A l.length c, .int .i64 0]) ∧ Row 1 encZ w' A (zl l)
end Go.Proofs.YtgbkjioajmnjbaaGreat

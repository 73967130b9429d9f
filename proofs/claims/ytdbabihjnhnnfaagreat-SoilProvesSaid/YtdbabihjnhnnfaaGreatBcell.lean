/- Contracts about cells of a grid, and about two grids. -/
import Derived.Test.YtdbabihjnhnnfaaGreatBown
import Derived.Test.YtdbabihjnhnnfaaGreatBrcheck
import Derived.Test.YtdbabihjnhnnfaaGreatBeq
namespace Go.Proofs.YtdbabihjnhnnfaaGreat
open Go Go.RowKit Go.IntWalk

theorem isCell_c (g : Gr) (i : Int) (w : World) (A : Option Addr) (c : Nat) (hl : g.L.length ≤ maxLen) :
    Calls Tryz.prog 99 #[.agg #[.int .i64 g.X, .int .i64 g.Y, .int .i64 g.S, .int .i64 g.C, .int .i64 g.R, .slice A g.L.length c], .int .i64 i] w fun e w' => e = .returned (.bool (decide (0 ≤ i) && decide (i < g.L.length))) ∧ Ext w w' := by
  unfold maxLen at hl
  have H := Lib.hid (fun w => bwithin_c i 0 ((g.L.length : Int) - 1) w)
  rw [show withinB i 0 ((g.L.length : Int) - 1) = (decide (0 ≤ i) && decide (i < g.L.length)) by unfold withinB; congr 1; rw [decide_eq_decide]; omega] at H
  go_enter Tryz.func99, Tryz.ntmps99
  go_wp2_with (first | (go_at_call 73; with_reducible refine Calls.mono (H.out _) ?_; rintro e w' ⟨rfl, rfl⟩))
  go_ret; exact ⟨rfl, by (repeat (first | with_reducible exact Ext.rfl' _ | with_reducible assumption | with_reducible refine Ext.al ?_ _ | with_reducible refine Ext.dr ?_ | with_reducible refine Ext.st ?_ (by simp) _ | with_reducible refine Ext.tr ?_ (by assumption)))⟩
theorem isKnown_c (g : Gr) (k : Nat) (w : World) (A : Option Addr) (c : Nat) (hk : k < g.L.length) (_hl : g.L.length ≤ maxLen) (hA : Row 1 encZ w A g.L) :
    Calls Tryz.prog 84 #[.agg #[.int .i64 g.X, .int .i64 g.Y, .int .i64 g.S, .int .i64 g.C, .int .i64 g.R, .slice A g.L.length c], .int .i64 k] w fun e w' => e = .returned (.bool (knB g.L k)) ∧ Ext w w' := by
  unfold maxLen at _hl
  unfold knB
  rw [gi_lt g.L k hk]
  obtain ⟨b, off, rfl, hb0, hcell⟩ := hA.p1 hk
  have e0 := hcell _ (Ext.rfl' w)
  clear hcell
  generalize g.L[k] = v at *
  go_enter Tryz.func84, Tryz.ntmps84
  go_wp2
  go_ret
  exact ⟨ret_bool (by rw [Bool.eq_iff_iff]; simp), by (repeat (first | with_reducible exact Ext.rfl' _ | with_reducible assumption | with_reducible refine Ext.al ?_ _ | with_reducible refine Ext.dr ?_ | with_reducible refine Ext.st ?_ (by simp) _ | with_reducible refine Ext.tr ?_ (by assumption)))⟩
theorem there_c (g : Gr) (i : Int) (w : World) (A : Option Addr) (c : Nat) :
    Calls Tryz.prog 55 #[.agg #[.int .i64 g.X, .int .i64 g.Y, .int .i64 g.S, .int .i64 g.C, .int .i64 g.R, .slice A g.L.length c], .int .i64 i] w fun e w' => e = .returned (.bool (decide (0 ≤ i) && decide (i < g.L.length))) ∧ Ext w w' := by
  by_cases h : 0 ≤ i
  · rw [decide_eq_true h]
    go_enter Tryz.func55, Tryz.ntmps55
    go_wp2
    go_ret
    exact ⟨rfl, by (repeat (first | with_reducible exact Ext.rfl' _ | with_reducible assumption | with_reducible refine Ext.al ?_ _ | with_reducible refine Ext.dr ?_ | with_reducible refine Ext.st ?_ (by simp) _ | with_reducible refine Ext.tr ?_ (by assumption)))⟩
  · rw [decide_eq_false h]
    have h' : decide (0 ≤ i) = false := decide_eq_false h
    go_enter Tryz.func55, Tryz.ntmps55
    go_wp2
    go_ret
    exact ⟨rfl, by (repeat (first | with_reducible exact Ext.rfl' _ | with_reducible assumption | with_reducible refine Ext.al ?_ _ | with_reducible refine Ext.dr ?_ | with_reducible refine Ext.st ?_ (by simp) _ | with_reducible refine Ext.tr ?_ (by assumption)))⟩
theorem known_c (g : Gr) (k : Nat) (w : World) (A : Option Addr) (c : Nat) (hk : k < g.L.length) (hA : Row 1 encZ w A g.L) :
    Calls Tryz.prog 32 #[.agg #[.int .i64 g.X, .int .i64 g.Y, .int .i64 g.S, .int .i64 g.C, .int .i64 g.R, .slice A g.L.length c], .int .i64 k] w fun e w' => e = .returned (.bool (knB g.L k)) ∧ Ext w w' := by
  unfold knB
  rw [gi_lt g.L k hk]
  obtain ⟨b, off, rfl, hb0, hcell⟩ := hA.p1 hk
  have e0 := hcell _ (Ext.rfl' w)
  clear hcell
  have H := Lib.hid (fun w A c => there_c g (k : Int) w A c)
  rw [show (decide (0 ≤ (k : Int)) && decide ((k : Int) < g.L.length)) = true by simp; omega] at H
  generalize g.L[k] = v at *
  go_enter Tryz.func32, Tryz.ntmps32
  go_wp2_with (first | (go_at_call 55; with_reducible refine Calls.mono (H.out _ _ _) ?_; rintro e w1 ⟨rfl, hb⟩; have hc := hb.ccell; have hf := hb.frz; have hs := hb.sz; (try simp at hs); (try have hs0 := hs w.heap.size (by omega)); (try have hs1 := hs (w.heap.size + 1) (by omega)); (try have hs2 := hs (w.heap.size + 1 + 1) (by omega)); (try have hs3 := hs (w.heap.size + 1 + 1 + 1) (by omega))))
  go_ret
  exact ⟨ret_bool (by rw [Bool.eq_iff_iff]; simp), by (repeat (first | with_reducible exact Ext.rfl' _ | with_reducible assumption | with_reducible refine Ext.al ?_ _ | with_reducible refine Ext.dr ?_ | with_reducible refine Ext.st ?_ (by simp) _ | with_reducible refine Ext.tr ?_ (by assumption)))⟩
theorem known_no_c (g : Gr) (i : Int) (w : World) (A : Option Addr) (c : Nat) (hi : i < 0 ∨ g.L.length ≤ i) :
    Calls Tryz.prog 32 #[.agg #[.int .i64 g.X, .int .i64 g.Y, .int .i64 g.S, .int .i64 g.C, .int .i64 g.R, .slice A g.L.length c], .int .i64 i] w fun e w' => e = .returned (.bool false) ∧ Ext w w' := by
  have H := Lib.hid (fun w A c => there_c g i w A c)
  rw [show (decide (0 ≤ i) && decide (i < g.L.length)) = false by simp; omega] at H
  go_enter Tryz.func32, Tryz.ntmps32
  go_wp2_with (first | (go_at_call 55; with_reducible refine Calls.mono (H.out _ _ _) ?_; rintro e w1 ⟨rfl, hb⟩; have hc := hb.ccell; have hf := hb.frz; have hs := hb.sz; (try simp at hs); (try have hs0 := hs w.heap.size (by omega)); (try have hs1 := hs (w.heap.size + 1) (by omega)); (try have hs2 := hs (w.heap.size + 1 + 1) (by omega)); (try have hs3 := hs (w.heap.size + 1 + 1 + 1) (by omega))))
  go_ret
  exact ⟨rfl, by (repeat (first | with_reducible exact Ext.rfl' _ | with_reducible assumption | with_reducible refine Ext.al ?_ _ | with_reducible refine Ext.dr ?_ | with_reducible refine Ext.st ?_ (by simp) _ | with_reducible refine Ext.tr ?_ (by assumption)))⟩
theorem area_c (g : Gr) (w : World) (A : Option Addr) (c : Nat) (h0 : 0 ≤ g.S) (h1 : g.S ≤ 10000) :
    Calls Tryz.prog 85 #[.agg #[.int .i64 g.X, .int .i64 g.Y, .int .i64 g.S, .int .i64 g.C, .int .i64 g.R, .slice A g.L.length c]] w fun e w' => e = .returned (.int .i64 (g.S * g.S)) ∧ Ext w w' := by
  have h2 : 0 ≤ g.S * g.S := Int.mul_nonneg h0 h0
  have h3 : g.S * g.S ≤ 10000 * 10000 := Int.mul_le_mul h1 h1 h0 (by omega)
  have h4 : g.S * g.S ≤ 100000000 := h3
  go_enter Tryz.func85, Tryz.ntmps85
  go_wp2
  go_ret
  exact ⟨rfl, by (repeat (first | with_reducible exact Ext.rfl' _ | with_reducible assumption | with_reducible refine Ext.al ?_ _ | with_reducible refine Ext.dr ?_ | with_reducible refine Ext.st ?_ (by simp) _ | with_reducible refine Ext.tr ?_ (by assumption)))⟩
theorem frameOf_c (g : Gr) (w : World) (A : Option Addr) (c : Nat) :
    Calls Tryz.prog 83 #[.agg #[.int .i64 g.X, .int .i64 g.Y, .int .i64 g.S, .int .i64 g.C, .int .i64 g.R, .slice A g.L.length c]] w fun e w' => e = .returned (.agg #[.int .i64 g.X, .int .i64 g.Y, .int .i64 g.S, .int .i64 g.C, .int .i64 g.R]) ∧ Ext w w' := by
  go_enter Tryz.func83, Tryz.ntmps83
  go_wp2
  exact bodyPost_ret (v := .agg #[.int .i64 g.X, .int .i64 g.Y, .int .i64 g.S, .int .i64 g.C, .int .i64 g.R]) (by simp [results, Tryz.results83, go_sem]) rfl ⟨rfl, by (repeat (first | with_reducible exact Ext.rfl' _ | with_reducible assumption | with_reducible refine Ext.al ?_ _ | with_reducible refine Ext.dr ?_ | with_reducible refine Ext.st ?_ (by simp) _ | with_reducible refine Ext.tr ?_ (by assumption)))⟩
set_option maxHeartbeats 4000000 in
theorem checkTwo_c (g h : Gr) (w : World) (A B : Option Addr) (c d : Nat) (hl : g.L.length ≤ maxLen) (hm : h.L.length ≤ maxLen) (hA : Row 1 encZ w A g.L) (hB : Row 1 encZ w B h.L) :
    Calls Tryz.prog 64 #[.agg #[.int .i64 g.X, .int .i64 g.Y, .int .i64 g.S, .int .i64 g.C, .int .i64 g.R, .slice A g.L.length c], .agg #[.int .i64 h.X, .int .i64 h.Y, .int .i64 h.S, .int .i64 h.C, .int .i64 h.R, .slice B h.L.length d]] w fun e w' => e = .returned (.int .i64 (twoE g h)) ∧ Ext w w' := by
  have H1 := Lib.hid (fun w' (hw : Ext w w') => check_c g w' A c hl (hA.ext hw))
  have H2 := Lib.hid (fun w' (hw : Ext w w') => check_c h w' B d hm (hB.ext hw))
  have F1 := Lib.hid (fun w => frameOf_c g w A c)
  have F2 := Lib.hid (fun w => frameOf_c h w B d)
  unfold twoE
  generalize chkG g = e1 at *
  generalize chkG h = e2 at *
  by_cases h1 : e1 = 0
  case neg =>
    rw [if_pos h1]
    have h1' : (e1 != 0) = true := by rw [bne_iff_ne]; exact h1
    go_enter Tryz.func64, Tryz.ntmps64
    go_wp2_with (first | (go_at_call 51; with_reducible refine Calls.mono (H1.out _ (by (repeat (first | with_reducible exact Ext.rfl' _ | with_reducible assumption | with_reducible refine Ext.al ?_ _ | with_reducible refine Ext.dr ?_ | with_reducible refine Ext.st ?_ (by simp) _ | with_reducible refine Ext.tr ?_ (by assumption))))) ?_; rintro e w1 ⟨rfl, hb⟩; have hc := hb.ccell; have hf := hb.frz; have hs := hb.sz; (try simp at hs); (try have hs0 := hs w.heap.size (by omega)); (try have hs1 := hs (w.heap.size + 1) (by omega)); (try have hs2 := hs (w.heap.size + 1 + 1) (by omega)); (try have hs3 := hs (w.heap.size + 1 + 1 + 1) (by omega))))
    go_ret
    exact ⟨rfl, by (repeat (first | with_reducible exact Ext.rfl' _ | with_reducible assumption | with_reducible refine Ext.al ?_ _ | with_reducible refine Ext.dr ?_ | with_reducible refine Ext.st ?_ (by simp) _ | with_reducible refine Ext.tr ?_ (by assumption)))⟩
  subst h1
  rw [if_neg (by decide)]
  by_cases h2 : e2 = 0
  case neg =>
    rw [if_pos h2]
    have h2' : (e2 != 0) = true := by rw [bne_iff_ne]; exact h2
    go_enter Tryz.func64, Tryz.ntmps64
    go_wp2_with (first | (go_at_call 51; with_reducible refine Calls.mono (H1.out _ (by (repeat (first | with_reducible exact Ext.rfl' _ | with_reducible assumption | with_reducible refine Ext.al ?_ _ | with_reducible refine Ext.dr ?_ | with_reducible refine Ext.st ?_ (by simp) _ | with_reducible refine Ext.tr ?_ (by assumption))))) ?_; rintro e w1 ⟨rfl, hb⟩; have hc := hb.ccell; have hf := hb.frz; have hs := hb.sz; (try simp at hs); (try have hs0 := hs w.heap.size (by omega)); (try have hs1 := hs (w.heap.size + 1) (by omega)); (try have hs2 := hs (w.heap.size + 1 + 1) (by omega)); (try have hs3 := hs (w.heap.size + 1 + 1 + 1) (by omega))) | (go_at_call 51; with_reducible refine Calls.mono (H2.out _ (by (repeat (first | with_reducible exact Ext.rfl' _ | with_reducible assumption | with_reducible refine Ext.al ?_ _ | with_reducible refine Ext.dr ?_ | with_reducible refine Ext.st ?_ (by simp) _ | with_reducible refine Ext.tr ?_ (by assumption))))) ?_; rintro e w1 ⟨rfl, hb⟩; have hc := hb.ccell; have hf := hb.frz; have hs := hb.sz; (try simp at hs); (try have hs0 := hs w.heap.size (by omega)); (try have hs1 := hs (w.heap.size + 1) (by omega)); (try have hs2 := hs (w.heap.size + 1 + 1) (by omega)); (try have hs3 := hs (w.heap.size + 1 + 1 + 1) (by omega))))
    go_ret
    exact ⟨rfl, by (repeat (first | with_reducible exact Ext.rfl' _ | with_reducible assumption | with_reducible refine Ext.al ?_ _ | with_reducible refine Ext.dr ?_ | with_reducible refine Ext.st ?_ (by simp) _ | with_reducible refine Ext.tr ?_ (by assumption)))⟩
  subst h2
  rw [if_neg (by decide)]
  obtain ⟨Z, hZ⟩ : ∃ Z : Int, (if sameB g h = false then 10 else 0) = Z := ⟨_, rfl⟩
  rw [hZ]
  have HZ := Lib.hid hZ
  clear hZ
  go_enter Tryz.func64, Tryz.ntmps64
  go_wp2_with (first | (go_at_call 51; with_reducible refine Calls.mono (H1.out _ (by (repeat (first | with_reducible exact Ext.rfl' _ | with_reducible assumption | with_reducible refine Ext.al ?_ _ | with_reducible refine Ext.dr ?_ | with_reducible refine Ext.st ?_ (by simp) _ | with_reducible refine Ext.tr ?_ (by assumption))))) ?_; rintro e w1 ⟨rfl, hb⟩; have hc := hb.ccell; have hf := hb.frz; have hs := hb.sz; (try simp at hs); (try have hs0 := hs w.heap.size (by omega)); (try have hs1 := hs (w.heap.size + 1) (by omega)); (try have hs2 := hs (w.heap.size + 1 + 1) (by omega)); (try have hs3 := hs (w.heap.size + 1 + 1 + 1) (by omega))) | (go_at_call 51; with_reducible refine Calls.mono (H2.out _ (by (repeat (first | with_reducible exact Ext.rfl' _ | with_reducible assumption | with_reducible refine Ext.al ?_ _ | with_reducible refine Ext.dr ?_ | with_reducible refine Ext.st ?_ (by simp) _ | with_reducible refine Ext.tr ?_ (by assumption))))) ?_; rintro e w1 ⟨rfl, hb⟩; have hc := hb.ccell; have hf := hb.frz; have hs := hb.sz; (try simp at hs); (try have hs0 := hs w.heap.size (by omega)); (try have hs1 := hs (w.heap.size + 1) (by omega)); (try have hs2 := hs (w.heap.size + 1 + 1) (by omega)); (try have hs3 := hs (w.heap.size + 1 + 1 + 1) (by omega))))
  refine region_grow (by kernel_rfl) (by kernel_rfl) ?_
  repeat (first | go_big_quiet_step (first | (go_at_call 83; with_reducible exact callsGrow (F1.out _)) | (go_at_call 83; with_reducible exact callsGrow (F2.out _)) | fail) | quiet_step (first | (go_at_call 83; with_reducible exact callsGrow (F1.out _)) | (go_at_call 83; with_reducible exact callsGrow (F2.out _)) | fail))
  refine wpQuiet_nil ?_
  intro w1 hb
  have hc := hb.ccell
  have hf := hb.frz
  have hs := hb.sz
  (try simp at hs); (try have hs0 := hs w.heap.size (by omega)); (try have hs1 := hs (w.heap.size + 1) (by omega)); (try have hs2 := hs (w.heap.size + 1 + 1) (by omega)); (try have hs3 := hs (w.heap.size + 1 + 1 + 1) (by omega))
  (try simp only [IntWalk.i64_left])
  cases hs : frB g.X g.Y g.S g.C g.R h.X h.Y h.S h.C h.R
  · have hz := HZ.out
    rw [show sameB g h = false from hs, if_pos rfl] at hz
    subst hz
    go_wp2
    go_ret
    exact ⟨rfl, by (repeat (first | with_reducible exact Ext.rfl' _ | with_reducible assumption | with_reducible refine Ext.al ?_ _ | with_reducible refine Ext.dr ?_ | with_reducible refine Ext.st ?_ (by simp) _ | with_reducible refine Ext.tr ?_ (by assumption)))⟩
  · have hz := HZ.out
    rw [show sameB g h = true from hs, if_neg (by decide)] at hz
    subst hz
    go_wp2
    go_ret
    exact ⟨rfl, by (repeat (first | with_reducible exact Ext.rfl' _ | with_reducible assumption | with_reducible refine Ext.al ?_ _ | with_reducible refine Ext.dr ?_ | with_reducible refine Ext.st ?_ (by simp) _ | with_reducible refine Ext.tr ?_ (by assumption)))⟩
end Go.Proofs.YtdbabihjnhnnfaaGreat

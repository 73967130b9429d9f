/- Contracts of Cell, Centre, Near and Level, and of the reference's Near. -/
import Derived.Test.YtgnakeemcccfjaaBplace
import Derived.Test.YtgnakeemcccfjaaBclear
namespace Go.Proofs.Ytgnakeemcccfjaa
open Go Go.RowKit Go.IntWalk

theorem asc_ext : ∀ {l m : List Nat}, l.Pairwise (· < ·) → m.Pairwise (· < ·) → (∀ x, x ∈ l ↔ x ∈ m) → l = m
  | [], [], _, _, _ => rfl
  | [], y :: m, _, _, h => absurd ((h y).2 (List.mem_cons_self ..)) (by simp)
  | x :: l, [], _, _, h => absurd ((h x).1 (List.mem_cons_self ..)) (by simp)
  | x :: l, y :: m, hl, hm, h => by
    rw [List.pairwise_cons] at hl hm
    have hxy : x = y := by
      rcases List.mem_cons.1 ((h x).1 (List.mem_cons_self ..)) with h1 | h1
      · exact h1
      · rcases List.mem_cons.1 ((h y).2 (List.mem_cons_self ..)) with h2 | h2
        · exact h2.symm
        · have := hl.1 y h2; have := hm.1 x h1; omega
    subst hxy
    congr 1
    refine asc_ext hl.2 hm.2 fun z => ?_
    constructor
    · intro hz
      rcases List.mem_cons.1 ((h z).1 (List.mem_cons_of_mem _ hz)) with h1 | h1
      · have := hl.1 z hz; omega
      · exact h1
    · intro hz
      rcases List.mem_cons.1 ((h z).2 (List.mem_cons_of_mem _ hz)) with h1 | h1
      · have := hm.1 z hz; omega
      · exact h1
theorem nbr_chs {cn rn i : Nat} (h0 : 0 < cn) (hi : i < cn * rn) : nbr cn rn i = chs (nbB cn i) (cn * rn) := by
  refine asc_ext (nbr_asc h0) ?_ fun x => ?_
  · unfold chs
    exact List.pairwise_lt_range.sublist List.filter_sublist
  · rw [nbr_mem h0 hi x]
    unfold chs
    rw [List.mem_filter, List.mem_range]
set_option maxHeartbeats 4000000 in
theorem cell_c (g : Gr) (x y : Int) (w : World) (A : Option Addr) (c : Nat) (hl : g.L.length ≤ maxLen) (hA : Row 1 encZ w A g.L) :
    Calls Try.prog 24 #[.agg #[.int .i64 g.X, .int .i64 g.Y, .int .i64 g.S, .int .i64 g.C, .int .i64 g.R, .slice A g.L.length c], .agg #[.int .i64 x, .int .i64 y]] w
      fun e w' => e = .returned (if chkG g ≠ 0 then .tuple #[.int .i64 0, .int .i64 (chkG g)] else if inB g x y = true then .tuple #[.int .i64 (cIdx g x y), .int .i64 0] else .tuple #[.int .i64 0, .int .i64 11]) ∧ Ext w w' := by
  have HC := Lib.hid (fun w' (hw : Ext w w') => check_c g w' A c hl (hA.ext hw))
  by_cases h0 : chkG g = 0
  case neg =>
    rw [if_pos h0]
    have h0' : (chkG g != 0) = true := by simp [h0]
    clear h0
    generalize chkG g = E at *
    go_enter Try.func24, Try.ntmps24
    go_wp2_with (first | (go_at_call 21; with_reducible refine Calls.mono (HC.out _ (by (repeat (first | with_reducible exact Ext.rfl' _ | with_reducible assumption | with_reducible refine Ext.al ?_ _ | with_reducible refine Ext.dr ?_ | with_reducible refine Ext.st ?_ (by simp) _ | with_reducible refine Ext.tr ?_ (by assumption))))) ?_; rintro e w1 ⟨rfl, hb⟩; have hc := hb.ccell; have hf := hb.frz; have hs := hb.sz; (try simp at hs); (try have hs0 := hs w.heap.size (by omega)); (try have hs1 := hs (w.heap.size + 1) (by omega)); (try have hs2 := hs (w.heap.size + 1 + 1) (by omega)); (try have hs3 := hs (w.heap.size + 1 + 1 + 1) (by omega))))
    exact bodyPost_ret (v := .tuple #[.int .i64 0, .int .i64 E]) (by simp [results, Try.results24, go_sem]) rfl ⟨rfl, by (repeat (first | with_reducible exact Ext.rfl' _ | with_reducible assumption | with_reducible refine Ext.al ?_ _ | with_reducible refine Ext.dr ?_ | with_reducible refine Ext.st ?_ (by simp) _ | with_reducible refine Ext.tr ?_ (by assumption)))⟩
  rw [if_neg (by omega)]
  have HA := Lib.hid (fun w' => cellAt_c g x y w' A c (chkG_ok h0))
  rw [h0] at HC
  cases hb : inB g x y
  · rw [hb, if_neg (by decide)] at HA
    rw [if_neg (by decide)]
    clear hb h0
    go_enter Try.func24, Try.ntmps24
    go_wp2_with (first | (go_at_call 21; with_reducible refine Calls.mono (HC.out _ (by (repeat (first | with_reducible exact Ext.rfl' _ | with_reducible assumption | with_reducible refine Ext.al ?_ _ | with_reducible refine Ext.dr ?_ | with_reducible refine Ext.st ?_ (by simp) _ | with_reducible refine Ext.tr ?_ (by assumption))))) ?_; rintro e w1 ⟨rfl, hb⟩; have hc := hb.ccell; have hf := hb.frz; have hs := hb.sz; (try simp at hs); (try have t0 := hs (w.heap.size) (by first | assumption | omega)); (try have t1 := hs (w.heap.size + 1) (by first | assumption | omega)); (try have t2 := hs (w.heap.size) (by first | assumption | omega)); (try have t3 := hs (w.heap.size) (by first | assumption | omega)); (try have t4 := hs (w.heap.size) (by first | assumption | omega)); (try have t5 := hs (w.heap.size) (by first | assumption | omega))) | (go_at_call 75; with_reducible refine Calls.mono (HA.out _) ?_; rintro e w2 ⟨rfl, hb⟩; have hc := hb.ccell; have hf := hb.frz; have hs := hb.sz; (try simp at hs); (try have t0 := hs (w.heap.size) (by first | assumption | omega)); (try have t1 := hs (w.heap.size + 1) (by first | assumption | omega)); (try have t2 := hs (w.heap.size) (by first | assumption | omega)); (try have t3 := hs (w.heap.size) (by first | assumption | omega)); (try have t4 := hs (w.heap.size) (by first | assumption | omega)); (try have t5 := hs (w.heap.size) (by first | assumption | omega))))
    exact bodyPost_ret (v := .tuple #[.int .i64 0, .int .i64 11]) (by simp [results, Try.results24, go_sem]) rfl ⟨rfl, by (repeat (first | with_reducible exact Ext.rfl' _ | with_reducible assumption | with_reducible refine Ext.al ?_ _ | with_reducible refine Ext.dr ?_ | with_reducible refine Ext.st ?_ (by simp) _ | with_reducible refine Ext.tr ?_ (by assumption)))⟩
  · rw [hb, if_pos rfl] at HA
    rw [if_pos rfl]
    clear hb h0
    generalize cIdx g x y = I at *
    go_enter Try.func24, Try.ntmps24
    go_wp2_with (first | (go_at_call 21; with_reducible refine Calls.mono (HC.out _ (by (repeat (first | with_reducible exact Ext.rfl' _ | with_reducible assumption | with_reducible refine Ext.al ?_ _ | with_reducible refine Ext.dr ?_ | with_reducible refine Ext.st ?_ (by simp) _ | with_reducible refine Ext.tr ?_ (by assumption))))) ?_; rintro e w1 ⟨rfl, hb⟩; have hc := hb.ccell; have hf := hb.frz; have hs := hb.sz; (try simp at hs); (try have t0 := hs (w.heap.size) (by first | assumption | omega)); (try have t1 := hs (w.heap.size + 1) (by first | assumption | omega)); (try have t2 := hs (w.heap.size) (by first | assumption | omega)); (try have t3 := hs (w.heap.size) (by first | assumption | omega)); (try have t4 := hs (w.heap.size) (by first | assumption | omega)); (try have t5 := hs (w.heap.size) (by first | assumption | omega))) | (go_at_call 75; with_reducible refine Calls.mono (HA.out _) ?_; rintro e w2 ⟨rfl, hb⟩; have hc := hb.ccell; have hf := hb.frz; have hs := hb.sz; (try simp at hs); (try have t0 := hs (w.heap.size) (by first | assumption | omega)); (try have t1 := hs (w.heap.size + 1) (by first | assumption | omega)); (try have t2 := hs (w.heap.size) (by first | assumption | omega)); (try have t3 := hs (w.heap.size) (by first | assumption | omega)); (try have t4 := hs (w.heap.size) (by first | assumption | omega)); (try have t5 := hs (w.heap.size) (by first | assumption | omega))))
    exact bodyPost_ret (v := .tuple #[.int .i64 I, .int .i64 0]) (by simp [results, Try.results24, go_sem]) rfl ⟨rfl, by (repeat (first | with_reducible exact Ext.rfl' _ | with_reducible assumption | with_reducible refine Ext.al ?_ _ | with_reducible refine Ext.dr ?_ | with_reducible refine Ext.st ?_ (by simp) _ | with_reducible refine Ext.tr ?_ (by assumption)))⟩
theorem gcE_cases (g : Gr) (i : Int) : (chkG g ≠ 0 ∧ gcE g i = chkG g) ∨ (chkG g = 0 ∧ gcE g i = 6 ∧ ¬ (0 ≤ i ∧ i < g.L.length)) ∨ (chkG g = 0 ∧ gcE g i = 0 ∧ ∃ k : Nat, i = k ∧ k < g.L.length) := by
  unfold gcE
  by_cases h0 : chkG g = 0
  · rw [if_neg (by omega)]
    by_cases h1 : (decide (0 ≤ i) && decide (i < g.L.length)) = true
    · rw [if_pos h1]
      have h2 := isCell_iff.1 h1
      exact .inr (.inr ⟨h0, rfl, i.toNat, by omega, by omega⟩)
    · rw [if_neg h1]
      exact .inr (.inl ⟨h0, rfl, fun h => h1 (isCell_iff.2 h)⟩)
  · rw [if_pos h0]; exact .inl ⟨h0, rfl⟩
set_option maxHeartbeats 4000000 in
theorem centre_err_c (g : Gr) (i : Int) (w : World) (A : Option Addr) (c : Nat) (hl : g.L.length ≤ maxLen) (hA : Row 1 encZ w A g.L) (h0 : gcE g i ≠ 0) :
    Calls Try.prog 25 #[.agg #[.int .i64 g.X, .int .i64 g.Y, .int .i64 g.S, .int .i64 g.C, .int .i64 g.R, .slice A g.L.length c], .int .i64 i] w fun e w' => e = .returned (.tuple #[.agg #[.int .i64 0, .int .i64 0], .int .i64 (gcE g i)]) ∧ Ext w w' := by
  have HC := Lib.hid (fun w' (hw : Ext w w') => checkCell_c g i w' A c hl (hA.ext hw))
  have h0' : (gcE g i != 0) = true := by simp [h0]
  clear h0
  generalize gcE g i = E at *
  go_enter Try.func25, Try.ntmps25
  go_wp2_with (first | (go_at_call 76; with_reducible refine Calls.mono (HC.out _ (by (repeat (first | with_reducible exact Ext.rfl' _ | with_reducible assumption | with_reducible refine Ext.al ?_ _ | with_reducible refine Ext.dr ?_ | with_reducible refine Ext.st ?_ (by simp) _ | with_reducible refine Ext.tr ?_ (by assumption))))) ?_; rintro e w1 ⟨rfl, hb⟩; have hc := hb.ccell; have hf := hb.frz; have hs := hb.sz; (try simp at hs); (try have t0 := hs (w.heap.size) (by first | assumption | omega)); (try have t1 := hs (w.heap.size + 1) (by first | assumption | omega)); (try have t2 := hs (w.heap.size) (by first | assumption | omega)); (try have t3 := hs (w.heap.size) (by first | assumption | omega)); (try have t4 := hs (w.heap.size) (by first | assumption | omega)); (try have t5 := hs (w.heap.size) (by first | assumption | omega))))
  have z0 : w1.cell? ⟨w.heap.size + 1, 0, none⟩ = some (.int .i64 0) := by simp [*, go_sem]
  have z1 : w1.cell? ⟨w.heap.size + 1, 1, none⟩ = some (.int .i64 0) := by simp [*, go_sem]
  exact bodyPost_ret (v := .tuple #[.agg #[.int .i64 0, .int .i64 0], .int .i64 E]) (by simp [results, Try.results25, go_sem, z0, z1]) rfl ⟨rfl, Ext.st (Ext.st (show Ext w w1 by (repeat (first | with_reducible exact Ext.rfl' _ | with_reducible assumption | with_reducible refine Ext.al ?_ _ | with_reducible refine Ext.dr ?_ | with_reducible refine Ext.st ?_ (by simp) _ | with_reducible refine Ext.tr ?_ (by assumption)))) (by simp) _) (by simp) _⟩
set_option maxHeartbeats 4000000 in
theorem centre_ok_c (g : Gr) (cn i : Nat) (w : World) (A : Option Addr) (c : Nat) (hC : g.C = cn) (hA : Row 1 encZ w A g.L) (h0 : gcE g i = 0) (hc0 : chkG g = 0) (hi : i < g.L.length) :
    Calls Try.prog 25 #[.agg #[.int .i64 g.X, .int .i64 g.Y, .int .i64 g.S, .int .i64 g.C, .int .i64 g.R, .slice A g.L.length c], .int .i64 i] w fun e w' => e = .returned (.tuple #[.agg #[.int .i64 (ctX g cn i), .int .i64 (ctY g cn i)], .int .i64 0]) ∧ Ext w w' := by
  have v := chkG_ok hc0
  have hl : g.L.length ≤ maxLen := by have h1 := v.len; have h2 := v.hn; unfold maxLen; omega
  have HC := Lib.hid (fun w' (hw : Ext w w') => by have h := checkCell_c g i w' A c hl (hA.ext hw); rw [h0] at h; exact h)
  have HT := Lib.hid (fun w' => centre_c g cn i w' A c v hC hi)
  generalize ctX g cn i = x at *
  generalize ctY g cn i = y at *
  clear h0 hc0 v hC
  go_enter Try.func25, Try.ntmps25
  go_wp2_with (first | (go_at_call 76; with_reducible refine Calls.mono (HC.out _ (by (repeat (first | with_reducible exact Ext.rfl' _ | with_reducible assumption | with_reducible refine Ext.al ?_ _ | with_reducible refine Ext.dr ?_ | with_reducible refine Ext.st ?_ (by simp) _ | with_reducible refine Ext.tr ?_ (by assumption))))) ?_; rintro e w1 ⟨rfl, hb⟩; have hc := hb.ccell; have hf := hb.frz; have hs := hb.sz; (try simp at hs); (try have t0 := hs (w.heap.size) (by first | assumption | omega)); (try have t1 := hs (w.heap.size + 1) (by first | assumption | omega)); (try have t2 := hs (w.heap.size) (by first | assumption | omega)); (try have t3 := hs (w.heap.size) (by first | assumption | omega)); (try have t4 := hs (w.heap.size) (by first | assumption | omega)); (try have t5 := hs (w.heap.size) (by first | assumption | omega))) | (go_at_call 77; with_reducible refine Calls.mono (HT.out _) ?_; rintro e w2 ⟨rfl, hb⟩; have hc := hb.ccell; have hf := hb.frz; have hs := hb.sz; (try simp at hs); (try have t0 := hs (w.heap.size) (by first | assumption | omega)); (try have t1 := hs (w.heap.size + 1) (by first | assumption | omega)); (try have t2 := hs (w.heap.size) (by first | assumption | omega)); (try have t3 := hs (w.heap.size) (by first | assumption | omega)); (try have t4 := hs (w.heap.size) (by first | assumption | omega)); (try have t5 := hs (w.heap.size) (by first | assumption | omega))))
  have z0 : w2.cell? ⟨w.heap.size + 1, 0, none⟩ = some (.int .i64 0) := by simp [*, go_sem]
  have z1 : w2.cell? ⟨w.heap.size + 1, 1, none⟩ = some (.int .i64 0) := by simp [*, go_sem]
  exact bodyPost_ret (v := .tuple #[.agg #[.int .i64 x, .int .i64 y], .int .i64 0]) (by simp [results, Try.results25, go_sem, z0, z1]) rfl ⟨rfl, Ext.st (Ext.st (show Ext w w2 by (repeat (first | with_reducible exact Ext.rfl' _ | with_reducible assumption | with_reducible refine Ext.al ?_ _ | with_reducible refine Ext.dr ?_ | with_reducible refine Ext.st ?_ (by simp) _ | with_reducible refine Ext.tr ?_ (by assumption)))) (by simp) _) (by simp) _⟩
set_option maxHeartbeats 4000000 in
theorem near_err_c (g : Gr) (i : Int) (w : World) (A : Option Addr) (c : Nat) (hl : g.L.length ≤ maxLen) (hA : Row 1 encZ w A g.L) (h0 : gcE g i ≠ 0) :
    Calls Try.prog 26 #[.agg #[.int .i64 g.X, .int .i64 g.Y, .int .i64 g.S, .int .i64 g.C, .int .i64 g.R, .slice A g.L.length c], .int .i64 i] w fun e w' => e = .returned (.tuple #[.slice none 0 0, .int .i64 (gcE g i)]) ∧ Ext w w' := by
  have HC := Lib.hid (fun w' (hw : Ext w w') => checkCell_c g i w' A c hl (hA.ext hw))
  have h0' : (gcE g i != 0) = true := by simp [h0]
  clear h0
  generalize gcE g i = E at *
  go_enter Try.func26, Try.ntmps26
  go_wp2_with (first | (go_at_call 76; with_reducible refine Calls.mono (HC.out _ (by (repeat (first | with_reducible exact Ext.rfl' _ | with_reducible assumption | with_reducible refine Ext.al ?_ _ | with_reducible refine Ext.dr ?_ | with_reducible refine Ext.st ?_ (by simp) _ | with_reducible refine Ext.tr ?_ (by assumption))))) ?_; rintro e w1 ⟨rfl, hb⟩; have hc := hb.ccell; have hf := hb.frz; have hs := hb.sz; (try simp at hs); (try have hs0 := hs w.heap.size (by omega)); (try have hs1 := hs (w.heap.size + 1) (by omega)); (try have hs2 := hs (w.heap.size + 1 + 1) (by omega)); (try have hs3 := hs (w.heap.size + 1 + 1 + 1) (by omega))))
  exact bodyPost_ret (v := .tuple #[.slice none 0 0, .int .i64 E]) (by simp [results, Try.results26, go_sem]) rfl ⟨rfl, by (repeat (first | with_reducible exact Ext.rfl' _ | with_reducible assumption | with_reducible refine Ext.al ?_ _ | with_reducible refine Ext.dr ?_ | with_reducible refine Ext.st ?_ (by simp) _ | with_reducible refine Ext.tr ?_ (by assumption)))⟩
def OutN (l : List Nat) (e : Ending) (w' : World) : Prop := ∃ A c, e = .returned (.tuple #[.slice A l.length c, .int .i64 0]) ∧ Row 1 encZ w' A (zl l)
set_option maxHeartbeats 4000000 in
theorem near_ok_c (g : Gr) (cn rn i : Nat) (w : World) (A : Option Addr) (c : Nat) (hC : g.C = cn) (hR : g.R = rn) (hA : Row 1 encZ w A g.L) (h0 : gcE g i = 0) (hc0 : chkG g = 0) (hi : i < g.L.length) :
    Calls Try.prog 26 #[.agg #[.int .i64 g.X, .int .i64 g.Y, .int .i64 g.S, .int .i64 g.C, .int .i64 g.R, .slice A g.L.length c], .int .i64 i] w fun e w' => OutN (nbr cn rn i) e w' ∧ Ext w w' := by
  have v := chkG_ok hc0
  have hl : g.L.length ≤ maxLen := by have h1 := v.len; have h2 := v.hn; unfold maxLen; omega
  obtain ⟨cn', rn', e1, e2, e3, e4, e5, e6, e7, e8⟩ := v.nat
  have hcc : cn' = cn := by omega
  have hrr : rn' = rn := by omega
  subst hcc hrr
  have HC := Lib.hid (fun w' (hw : Ext w w') => by have h := checkCell_c g i w' A c hl (hA.ext hw); rw [h0] at h; exact h)
  have HT := Lib.hid (fun w' => (neighbours_c g cn' rn' i w' A c hC hR e3 e4 e6 (by omega) e8).mono fun e w'' h => (⟨OutZN.of h.1, h.2⟩ : OutZN w'.heap.size (nbr cn' rn' i) e w'' ∧ Ext w' w''))
  clear h0 hc0 v hC hR e1 e2 e3 e4 e5 e6 e7 e8
  go_enter Try.func26, Try.ntmps26
  go_wp2_with (first | (go_at_call 76; with_reducible refine Calls.mono (HC.out _ (by (repeat (first | with_reducible exact Ext.rfl' _ | with_reducible assumption | with_reducible refine Ext.al ?_ _ | with_reducible refine Ext.dr ?_ | with_reducible refine Ext.st ?_ (by simp) _ | with_reducible refine Ext.tr ?_ (by assumption))))) ?_; rintro e w1 ⟨rfl, hb⟩; have hc := hb.ccell; have hf := hb.frz; have hs := hb.sz; (try simp at hs); (try have t0 := hs (w.heap.size) (by first | assumption | omega)); (try have t1 := hs (w.heap.size) (by first | assumption | omega)); (try have t2 := hs (w.heap.size) (by first | assumption | omega)); (try have t3 := hs (w.heap.size) (by first | assumption | omega)); (try have t4 := hs (w.heap.size) (by first | assumption | omega)); (try have t5 := hs (w.heap.size) (by first | assumption | omega))) | (go_at_call 78; (with_reducible refine Calls.mono (HT.out _) ?_); rintro e w2 ⟨⟨A2, c2, rfl, hN⟩, hb⟩; have hc := hb.ccell; have hf := hb.frz; have hs := hb.sz; (try simp at hs); (try have t0 := hs (w.heap.size) (by first | assumption | omega)); (try have t1 := hs (w.heap.size) (by first | assumption | omega)); (try have t2 := hs (w.heap.size) (by first | assumption | omega)); (try have t3 := hs (w.heap.size) (by first | assumption | omega)); (try have t4 := hs (w.heap.size) (by first | assumption | omega)); (try have t5 := hs (w.heap.size) (by first | assumption | omega))))
  exact bodyPost_ret (v := .tuple #[.slice A2 (nbr cn' rn' i).length c2, .int .i64 0]) (by simp [results, Try.results26, go_sem]) rfl ⟨⟨A2, c2, rfl, hN.row⟩, by (repeat (first | with_reducible exact Ext.rfl' _ | with_reducible assumption | with_reducible refine Ext.al ?_ _ | with_reducible refine Ext.dr ?_ | with_reducible refine Ext.st ?_ (by simp) _ | with_reducible refine Ext.tr ?_ (by assumption)))⟩
end Go.Proofs.Ytgnakeemcccfjaa

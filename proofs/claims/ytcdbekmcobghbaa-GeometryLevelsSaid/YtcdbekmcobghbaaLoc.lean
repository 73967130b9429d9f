/- Contracts of checkLocate and Locate, and of the reference's Check and has. -/
import Derived.Test.YtcdbekmcobghbaaBelongs
namespace Go.Proofs.Ytcdbekmcobghbaa
open Go Go.RowKit Go.IntWalk

theorem gcheck_c (l : List Pt) (w : World) (A : Option Addr) (c : Nat) (hl : l.length ≤ maxLen) (hA : Row 2 encP w A l) (r : Int) (hr : chkP l = r) :
    Calls Try.prog 52 #[.slice A l.length c] w fun e w' => e = .returned (.int .i64 r) ∧ Ext w w' := by
  rw [← hr]; exact check_c l w A c hl hA
theorem rcheck_c (l : List Pt) (w : World) (A : Option Addr) (c : Nat) (hl : l.length ≤ maxLen) (hA : Row 2 encP w A l) :
    Calls Try.prog 51 #[.slice A l.length c] w
      fun e w' => e = .returned (.int .i64 (chkP l)) ∧ Ext w w' := by
  unfold maxLen at hl
  unfold chkP
  by_cases h : 64 < l.length
  · have h' : (64 : Int) < (l.length : Int) := by omega
    rw [if_pos h]
    go_enter Try.func51, Try.ntmps51
    go_wp2
    go_ret
    exact ⟨rfl, Ext.rfl' _⟩
  · have h' : (l.length : Int) ≤ 64 := by omega
    rw [if_neg h]
    unfold allGood
    obtain ⟨E, hE0⟩ : ∃ E, (if l.all good = true then (0 : Int) else 2) = E := ⟨_, rfl⟩
    rw [hE0]
    have HT := Lib.hid hE0
    clear hE0
    go_enter Try.func51, Try.ntmps51
    go_wp2
    go_loopw [3] (fun i wr => Ext w wr ∧ ∃ k : Nat, k ≤ l.length ∧ i = .int .i64 k ∧ Hid ((l.take k).all good = true)) (fun i _ => l.length - (intOf i).toNat)
    case atStart => exact ⟨Ext.rfl' _, 0, Nat.zero_le _, rfl, by simp [Hid]⟩
    case round =>
      obtain ⟨hE, k, hk, rfl, hK⟩ := hrel
      by_cases hlt : k < l.length
      · obtain ⟨b, off, rfl, hb0, hcell⟩ := hA.p2 hlt
        have c := hcell _ hE
        clear hcell
        have hz := hE.sz _ hb0
        have HG := Lib.hid (fun w => rgood_c l[k].x l[k].y w)
        cases hg : good l[k]
        all_goals
          have hg' : good ⟨l[k].x, l[k].y⟩ = _ := hg
          rw [hg'] at HG
          have H1 := Lib.hid hg
          clear hg hg'
          go_wp2_with (first | (go_at_call 24; with_reducible refine Calls.mono (HG.out _) ?_; rintro e w1 ⟨rfl, hb⟩; have hc := hb.ccell; have hf := hb.frz; have hs := hb.sz; (try simp at hs); (try have hs0 := hs w.heap.size (by omega)); (try have hs1 := hs (w.heap.size + 1) (by omega)); (try have hs2 := hs (w.heap.size + 1 + 1) (by omega)); (try have hs3 := hs (w.heap.size + 1 + 1 + 1) (by omega))))
        · go_ret
          refine ⟨ret_int ?_, by (repeat (first | with_reducible exact Ext.rfl' _ | with_reducible assumption | with_reducible refine Ext.al ?_ _ | with_reducible refine Ext.dr ?_ | with_reducible refine Ext.st ?_ (by simp) _ | with_reducible refine Ext.tr ?_ (by assumption)))⟩
          rw [← HT.out, all_false _ _ k hlt H1.out]; rfl
        · exact ⟨⟨by (repeat (first | with_reducible exact Ext.rfl' _ | with_reducible assumption | with_reducible refine Ext.al ?_ _ | with_reducible refine Ext.dr ?_ | with_reducible refine Ext.st ?_ (by simp) _ | with_reducible refine Ext.tr ?_ (by assumption))), k + 1, by omega, by go_num, all_take_succ _ _ k hlt hK.out H1.out⟩, by simp [intOf]; omega⟩
      · go_wp2
        go_ret
        exact ⟨ret_int (by rw [← HT.out, take_all _ _ k (by omega) hK.out]; rfl), hE⟩

theorem within_in (l : List Pt) (a : Int) (r : Bool) (hr : inL l a = r) (w : World) :
    Calls Try.prog 66 #[.int .i64 a, .int .i64 0, .int .i64 ((l.length : Int) - 1)] w fun e w' => e = .returned (.bool r) ∧ w = w' := by
  have h := within3_c a 0 ((l.length : Int) - 1) w
  have e : withinB a 0 ((l.length : Int) - 1) = r := by
    rw [← hr, Bool.eq_iff_iff]; simp [withinB, inL]; omega
  rw [e] at h
  exact h
theorem has_c (l : List Pt) (a b c : Int) (w : World) (hl : l.length ≤ maxLen) :
    Calls Try.prog 105 #[.int .i64 l.length, .agg #[.int .i64 a, .int .i64 b, .int .i64 c]] w
      fun e w' => e = .returned (.bool (hasL l (a, b, c))) ∧ Ext w w' := by
  unfold maxLen at hl
  unfold hasL
  have H1 := Lib.hid (within_in l a _ rfl)
  have H2 := Lib.hid (within_in l b _ rfl)
  have H3 := Lib.hid (within_in l c _ rfl)
  generalize inL l a = r1 at *
  generalize inL l b = r2 at *
  generalize inL l c = r3 at *
  cases r1
  · go_enter Try.func105, Try.ntmps105
    go_wp2_with (first | (go_at_call 66; refine Calls.mono (H1.out _) ?_; rintro e w' ⟨rfl, rfl⟩))
    go_ret
    exact ⟨by simp, by (repeat (first | with_reducible exact Ext.rfl' _ | with_reducible assumption | with_reducible refine Ext.al ?_ _ | with_reducible refine Ext.dr ?_ | with_reducible refine Ext.st ?_ (by simp) _ | with_reducible refine Ext.tr ?_ (by assumption)))⟩
  cases r2
  · go_enter Try.func105, Try.ntmps105
    go_wp2_with (first | (go_at_call 66; (first | (with_reducible refine Calls.mono (H1.out _) ?_) | (with_reducible refine Calls.mono (H2.out _) ?_)); rintro e w' ⟨rfl, rfl⟩))
    go_ret
    exact ⟨by simp, by (repeat (first | with_reducible exact Ext.rfl' _ | with_reducible assumption | with_reducible refine Ext.al ?_ _ | with_reducible refine Ext.dr ?_ | with_reducible refine Ext.st ?_ (by simp) _ | with_reducible refine Ext.tr ?_ (by assumption)))⟩
  · go_enter Try.func105, Try.ntmps105
    go_wp2_with (first | (go_at_call 66; (first | (with_reducible refine Calls.mono (H1.out _) ?_) | (with_reducible refine Calls.mono (H2.out _) ?_) | (with_reducible refine Calls.mono (H3.out _) ?_)); rintro e w' ⟨rfl, rfl⟩))
    go_ret
    exact ⟨by simp, by (repeat (first | with_reducible exact Ext.rfl' _ | with_reducible assumption | with_reducible refine Ext.al ?_ _ | with_reducible refine Ext.dr ?_ | with_reducible refine Ext.st ?_ (by simp) _ | with_reducible refine Ext.tr ?_ (by assumption)))⟩

def tailE (l : List Pt) (ts : List I3) (p : Pt) : Int := if firstBad l ts ≠ 0 then firstBad l ts else if good p then 0 else 2
theorem checkLocate_c (l : List Pt) (ts : List I3) (px py : Int) (w : World) (A B : Option Addr) (cA cB : Nat) (hl : l.length ≤ maxLen) (ht : ts.length ≤ maxLen) (hA : Row 2 encP w A l) (hB : Row 3 encI w B ts) :
    Calls Try.prog 102 #[.slice A l.length cA, .slice B ts.length cB, .agg #[.int .i64 px, .int .i64 py]] w
      fun e w' => e = .returned (.int .i64 (locE l ts ⟨px, py⟩)) ∧ Ext w w' := by
  unfold maxLen at ht
  have HL := Lib.hid hl
  clear hl
  unfold locE
  by_cases h1 : chkP l = 0
  · rw [if_neg (by omega)]
    have HCK := Lib.hid (fun w' (hw : Ext w w') => gcheck_c l w' A cA HL.out (hA.ext hw) 0 h1)
    clear h1
    by_cases h2 : 128 < ts.length
    · rw [if_pos h2]
      have h2' : (128 : Int) < (ts.length : Int) := by omega
      go_enter Try.func102, Try.ntmps102
      go_wp2_with (first | (go_at_call 52; refine Calls.mono (HCK.out _ (by (repeat (first | with_reducible exact Ext.rfl' _ | with_reducible assumption | with_reducible refine Ext.al ?_ _ | with_reducible refine Ext.dr ?_ | with_reducible refine Ext.st ?_ (by simp) _ | with_reducible refine Ext.tr ?_ (by assumption))))) ?_; rintro e w1 ⟨rfl, hb⟩; have hc := hb.ccell; have hf := hb.frz; have hs := hb.sz; (try simp at hs); (try have hs0 := hs w.heap.size (by omega)); (try have hs1 := hs (w.heap.size + 1) (by omega)); (try have hs2 := hs (w.heap.size + 1 + 1) (by omega)); (try have hs3 := hs (w.heap.size + 1 + 1 + 1) (by omega))))
      go_ret
      exact ⟨rfl, by (repeat (first | with_reducible exact Ext.rfl' _ | with_reducible assumption | with_reducible refine Ext.al ?_ _ | with_reducible refine Ext.dr ?_ | with_reducible refine Ext.st ?_ (by simp) _ | with_reducible refine Ext.tr ?_ (by assumption)))⟩
    · rw [if_neg h2]
      have h2' : (ts.length : Int) ≤ 128 := by omega
      obtain ⟨E, hE0⟩ : ∃ E, tailE l ts ⟨px, py⟩ = E := ⟨_, rfl⟩
      unfold tailE at hE0
      rw [hE0]
      have HT := Lib.hid hE0
      clear hE0
      go_enter Try.func102, Try.ntmps102
      go_wp2_with (first | (go_at_call 52; refine Calls.mono (HCK.out _ (by (repeat (first | with_reducible exact Ext.rfl' _ | with_reducible assumption | with_reducible refine Ext.al ?_ _ | with_reducible refine Ext.dr ?_ | with_reducible refine Ext.st ?_ (by simp) _ | with_reducible refine Ext.tr ?_ (by assumption))))) ?_; rintro e w1 ⟨rfl, hb⟩; have hc := hb.ccell; have hf := hb.frz; have hs := hb.sz; (try simp at hs); (try have hs0 := hs w.heap.size (by omega)); (try have hs1 := hs (w.heap.size + 1) (by omega)); (try have hs2 := hs (w.heap.size + 1 + 1) (by omega)); (try have hs3 := hs (w.heap.size + 1 + 1 + 1) (by omega))))
      have hEw : Ext w w1 := by (repeat (first | with_reducible exact Ext.rfl' _ | with_reducible assumption | with_reducible refine Ext.al ?_ _ | with_reducible refine Ext.dr ?_ | with_reducible refine Ext.st ?_ (by simp) _ | with_reducible refine Ext.tr ?_ (by assumption)))
      have k : w1.cell? ⟨w.heap.size, 0, none⟩ = some (.int .i64 px) ∧ w1.cell? ⟨w.heap.size, 1, none⟩ = some (.int .i64 py) := by
        refine ⟨?_, ?_⟩ <;> simp [*, go_sem]
      have K := Lib.hid k
      clear k hc hf hs hb
      go_loopw [9, 10, 11, 22] (fun _ _ _ i wr => Ext w1 wr ∧ ∃ k : Nat, k ≤ ts.length ∧ i = .int .i64 k ∧ Hid (∀ j (h : j < k) (h2 : j < ts.length), badT l ts[j] = 0)) (fun _ _ _ i _ => ts.length - (intOf i).toNat)
      case atStart => exact ⟨Ext.rfl' _, 0, Nat.zero_le _, rfl, fun j h => absurd h (by omega)⟩
      case round =>
        obtain ⟨hr, k, hk, rfl, hK⟩ := hrel
        have hE := hEw.tr hr
        by_cases hlt : k < ts.length
        · obtain ⟨b, off, rfl, hb0, hcell⟩ := hB.p3 hlt
          have c := hcell _ hE
          clear hcell
          have hz := hE.sz _ hb0
          cases hh : hasL l ts[k]
          · have HP := Lib.hid (fun w' (hw : Ext w w') => pick_no l ts[k].1 ts[k].2.1 ts[k].2.2 w' A cA HL.out (hA.ext hw) hh)
            have HB := Lib.hid (show badT l ts[k] = 6 by simp [badT, hh])
            clear hh
            go_wp2_with (first | (go_at_call 103; with_reducible refine Calls.mono (HP.out _ (by (repeat (first | with_reducible exact Ext.rfl' _ | with_reducible assumption | with_reducible refine Ext.al ?_ _ | with_reducible refine Ext.dr ?_ | with_reducible refine Ext.st ?_ (by simp) _ | with_reducible refine Ext.tr ?_ (by assumption))))) ?_; rintro e w1 ⟨rfl, hb⟩; have hc := hb.ccell; have hf := hb.frz; have hs := hb.sz; (try simp at hs); (try have hs0 := hs w.heap.size (by omega)); (try have hs1 := hs (w.heap.size + 1) (by omega)); (try have hs2 := hs (w.heap.size + 1 + 1) (by omega)); (try have hs3 := hs (w.heap.size + 1 + 1 + 1) (by omega))))
            go_ret
            refine ⟨ret_int ?_, by (repeat (first | with_reducible exact Ext.rfl' _ | with_reducible assumption | with_reducible refine Ext.al ?_ _ | with_reducible refine Ext.dr ?_ | with_reducible refine Ext.st ?_ (by simp) _ | with_reducible refine Ext.tr ?_ (by assumption)))⟩
            have e1 := HT.out
            rw [firstBad_at l ts k hlt (fun j hj => hK.out j hj (by omega)) (by rw [HB.out]; omega), HB.out] at e1
            simpa using e1
          · have HP := Lib.hid (fun w' (hw : Ext w w') => pick_yes l ts[k].1 ts[k].2.1 ts[k].2.2 w' A cA HL.out (hA.ext hw) hh)
            have HC := Lib.hid (fun w => cross_c (atI l ts[k].1).x (atI l ts[k].1).y (atI l ts[k].2.1).x (atI l ts[k].2.1).y (atI l ts[k].2.2).x (atI l ts[k].2.2).y w)
            have hz2 : crossW ⟨(atI l ts[k].1).x, (atI l ts[k].1).y⟩ ⟨(atI l ts[k].2.1).x, (atI l ts[k].2.1).y⟩ ⟨(atI l ts[k].2.2).x, (atI l ts[k].2.2).y⟩ = crI l ts[k] := rfl
            rw [hz2] at HC
            have HB := Lib.hid (show badT l ts[k] = if crI l ts[k] ≤ 0 then 10 else 0 by simp [badT, hh])
            clear hh hz2
            generalize crI l ts[k] = z at HC HB
            by_cases hz3 : z ≤ 0
            all_goals
              go_wp2_with (first | (go_at_call 103; with_reducible refine Calls.mono (HP.out _ (by (repeat (first | with_reducible exact Ext.rfl' _ | with_reducible assumption | with_reducible refine Ext.al ?_ _ | with_reducible refine Ext.dr ?_ | with_reducible refine Ext.st ?_ (by simp) _ | with_reducible refine Ext.tr ?_ (by assumption))))) ?_; rintro e w1 ⟨rfl, hb⟩; have hc := hb.ccell; have hf := hb.frz; have hs := hb.sz; (try simp at hs); (try have hs0 := hs w.heap.size (by omega)); (try have hs1 := hs (w.heap.size + 1) (by omega)); (try have hs2 := hs (w.heap.size + 1 + 1) (by omega)); (try have hs3 := hs (w.heap.size + 1 + 1 + 1) (by omega))) | (go_at_call 74; with_reducible refine Calls.mono (HC.out _) ?_; rintro e w1 ⟨rfl, hb⟩; have hc := hb.ccell; have hf := hb.frz; have hs := hb.sz; (try simp at hs); (try have hs0 := hs w.heap.size (by omega)); (try have hs1 := hs (w.heap.size + 1) (by omega)); (try have hs2 := hs (w.heap.size + 1 + 1) (by omega)); (try have hs3 := hs (w.heap.size + 1 + 1 + 1) (by omega))))
            · go_ret
              refine ⟨ret_int ?_, by (repeat (first | with_reducible exact Ext.rfl' _ | with_reducible assumption | with_reducible refine Ext.al ?_ _ | with_reducible refine Ext.dr ?_ | with_reducible refine Ext.st ?_ (by simp) _ | with_reducible refine Ext.tr ?_ (by assumption)))⟩
              have e0 := HB.out
              rw [if_pos hz3] at e0
              have e1 := HT.out
              rw [firstBad_at l ts k hlt (fun j hj => hK.out j hj (by omega)) (by rw [e0]; omega), e0] at e1
              simpa using e1
            · refine ⟨⟨by (repeat (first | with_reducible exact Ext.rfl' _ | with_reducible assumption | with_reducible refine Ext.al ?_ _ | with_reducible refine Ext.dr ?_ | with_reducible refine Ext.st ?_ (by simp) _ | with_reducible refine Ext.tr ?_ (by assumption))), k + 1, by omega, by go_num, ?_⟩, by simp [intOf]; omega⟩
              intro j hj hj2
              by_cases hjk : j = k
              · subst hjk; have e0 := HB.out; rw [if_neg (by omega)] at e0; exact e0
              · exact hK.out j (by omega) hj2
        · have hF := firstBad_no l ts (fun j hj => hK.out j (by omega) hj)
          rw [hF] at HT
          have hz0 := hr.sz w.heap.size
          obtain ⟨k0, k1⟩ := K.out
          have hz1 : w.heap.size < w1.heap.size := World.block_lt_of_cell? w1 ⟨w.heap.size, 0, none⟩ k0
          have e0 := (hr.ccell _ 0 hz1).trans k0
          have e1 := (hr.ccell _ 1 hz1).trans k1
          have hz2 := hr.sz _ hz1
          clear k0 k1
          cases hg : good ⟨px, py⟩
          all_goals
            have HG := Lib.hid hg
            rw [hg] at HT
            clear hg
            go_wp2_with (first | (go_at_call 73; refine Calls.mono (inRange1_c _ _ _ HG.out _ _ _ _ ?_) ?_; (focus simp); rintro e w1 ⟨rfl, hb⟩; have hc := hb.ccell; have hf := hb.frz; have hs := hb.sz; (try simp at hs); (try have hs0 := hs w.heap.size (by omega)); (try have hs1 := hs (w.heap.size + 1) (by omega)); (try have hs2 := hs (w.heap.size + 1 + 1) (by omega)); (try have hs3 := hs (w.heap.size + 1 + 1 + 1) (by omega))))
            go_ret
            exact ⟨ret_int (by rw [← HT.out]; simp), by (repeat (first | with_reducible exact Ext.rfl' _ | with_reducible assumption | with_reducible refine Ext.al ?_ _ | with_reducible refine Ext.dr ?_ | with_reducible refine Ext.st ?_ (by simp) _ | with_reducible refine Ext.tr ?_ (by assumption)))⟩
  · rw [if_pos h1]
    have HCK := Lib.hid (fun w' (hw : Ext w w') => gcheck_c l w' A cA HL.out (hA.ext hw) _ rfl)
    generalize chkP l = r at HCK h1 ⊢
    have h' : (r == 0) = false := by simp [h1]
    go_enter Try.func102, Try.ntmps102
    go_wp2_with (first | (go_at_call 52; refine Calls.mono (HCK.out _ (by (repeat (first | with_reducible exact Ext.rfl' _ | with_reducible assumption | with_reducible refine Ext.al ?_ _ | with_reducible refine Ext.dr ?_ | with_reducible refine Ext.st ?_ (by simp) _ | with_reducible refine Ext.tr ?_ (by assumption))))) ?_; rintro e w1 ⟨rfl, hb⟩; have hc := hb.ccell; have hf := hb.frz; have hs := hb.sz; (try simp at hs); (try have hs0 := hs w.heap.size (by omega)); (try have hs1 := hs (w.heap.size + 1) (by omega)); (try have hs2 := hs (w.heap.size + 1 + 1) (by omega)); (try have hs3 := hs (w.heap.size + 1 + 1 + 1) (by omega))))
    go_ret
    exact ⟨rfl, by (repeat (first | with_reducible exact Ext.rfl' _ | with_reducible assumption | with_reducible refine Ext.al ?_ _ | with_reducible refine Ext.dr ?_ | with_reducible refine Ext.st ?_ (by simp) _ | with_reducible refine Ext.tr ?_ (by assumption)))⟩
end Go.Proofs.Ytcdbekmcobghbaa

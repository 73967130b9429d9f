/- The contract of Locate. -/
import Derived.Test.YtcdbekmcobghbaaLoc
namespace Go.Proofs.Ytcdbekmcobghbaa
open Go Go.RowKit Go.IntWalk

theorem locE_zero {l : List Pt} {ts : List I3} {p : Pt} (h : locE l ts p = 0) : chkP l = 0 ∧ ts.length ≤ 128 ∧ firstBad l ts = 0 ∧ good p = true := by
  unfold locE at h
  by_cases h1 : chkP l = 0
  · rw [if_neg (by omega)] at h
    by_cases h2 : 128 < ts.length
    · rw [if_pos h2] at h; omega
    rw [if_neg h2] at h
    by_cases h3 : firstBad l ts = 0
    · rw [if_neg (by omega)] at h
      cases h4 : good p
      · simp [h4] at h
      · exact ⟨h1, by omega, h3, rfl⟩
    · rw [if_pos h3] at h; omega
  · rw [if_pos h1] at h; omega

theorem glocate_c (l : List Pt) (ts : List I3) (px py : Int) (w : World) (A B : Option Addr) (cA cB : Nat) (hl : l.length ≤ maxLen) (ht : ts.length ≤ maxLen) (hA : Row 2 encP w A l) (hB : Row 3 encI w B ts) :
    Calls Try.prog 61 #[.slice A l.length cA, .slice B ts.length cB, .agg #[.int .i64 px, .int .i64 py]] w
      fun e w' => e = .returned (.tuple #[.int .i64 (locV l ts ⟨px, py⟩).1, .int .i64 (locV l ts ⟨px, py⟩).2]) ∧ Ext w w' := by
  have HL := Lib.hid hl
  have HCK := Lib.hid (fun w' (hw : Ext w w') => checkLocate_c l ts px py w' A B cA cB hl ht (hA.ext hw) (hB.ext hw))
  unfold maxLen at ht
  by_cases h1 : locE l ts ⟨px, py⟩ = 0
  · obtain ⟨_, hlen, hfb, _⟩ := locE_zero h1
    have HBZ := Lib.hid (firstBad_zero l ts hfb)
    obtain ⟨v, e, hve⟩ : ∃ v e, findT l ⟨px, py⟩ ts 0 = (v, e) := ⟨_, _, rfl⟩
    have hV : locV l ts ⟨px, py⟩ = (v, e) := by unfold locV; rw [if_neg (by omega), hve]
    rw [hV]
    rw [h1] at HCK
    have HT := Lib.hid hve
    clear hV hve h1 hfb hl
    go_enter Try.func61, Try.ntmps61
    go_wp2_with (first | (go_at_call 102; with_reducible refine Calls.mono (HCK.out _ (by (repeat (first | with_reducible exact Ext.rfl' _ | with_reducible assumption | with_reducible refine Ext.al ?_ _ | with_reducible refine Ext.dr ?_ | with_reducible refine Ext.st ?_ (by simp) _ | with_reducible refine Ext.tr ?_ (by assumption))))) ?_; rintro e w1 ⟨rfl, hb⟩; have hc := hb.ccell; have hf := hb.frz; have hs := hb.sz; (try simp at hs); (try have hs0 := hs w.heap.size (by omega)); (try have hs1 := hs (w.heap.size + 1) (by omega)); (try have hs2 := hs (w.heap.size + 1 + 1) (by omega)); (try have hs3 := hs (w.heap.size + 1 + 1 + 1) (by omega))))
    have hEw : Ext w w1 := by (repeat (first | with_reducible exact Ext.rfl' _ | with_reducible assumption | with_reducible refine Ext.al ?_ _ | with_reducible refine Ext.dr ?_ | with_reducible refine Ext.st ?_ (by simp) _ | with_reducible refine Ext.tr ?_ (by assumption)))
    have k : w1.cell? ⟨w.heap.size, 0, none⟩ = some (.int .i64 px) ∧ w1.cell? ⟨w.heap.size, 1, none⟩ = some (.int .i64 py) := by
      refine ⟨?_, ?_⟩ <;> simp [*, go_sem]
    have K := Lib.hid k
    clear k hc hf hs hb
    go_loopw [9, 10, 11, 12, 22] (fun _ _ _ _ i wr => Ext w1 wr ∧ ∃ k : Nat, k ≤ ts.length ∧ i = .int .i64 k ∧ Hid (∀ j (h : j < k) (h2 : j < ts.length), belT l ts[j] ⟨px, py⟩ = false)) (fun _ _ _ _ i _ => ts.length - (intOf i).toNat)
    case atStart => exact ⟨Ext.rfl' _, 0, Nat.zero_le _, rfl, fun j h => absurd h (by omega)⟩
    case round =>
      obtain ⟨hr, k, hk, rfl, hK⟩ := hrel
      have hE := hEw.tr hr
      by_cases hlt : k < ts.length
      · obtain ⟨b, off, rfl, hb0, hcell⟩ := hB.p3 hlt
        have c := hcell _ hE
        clear hcell
        have hz := hE.sz _ hb0
        obtain ⟨k0, k1⟩ := K.out
        have hz1 : w.heap.size < w1.heap.size := World.block_lt_of_cell? w1 ⟨w.heap.size, 0, none⟩ k0
        have e0 := (hr.ccell _ 0 hz1).trans k0
        have e1 := (hr.ccell _ 1 hz1).trans k1
        have hz2 := hr.sz _ hz1
        clear k0 k1
        have hh := (badT_zero (HBZ.out k hlt)).1
        have HP := Lib.hid (fun w' (hw : Ext w w') => pick_yes l ts[k].1 ts[k].2.1 ts[k].2.2 w' A cA HL.out (hA.ext hw) hh)
        have HC := Lib.hid (fun w => belongs_c (atI l ts[k].1).x (atI l ts[k].1).y (atI l ts[k].2.1).x (atI l ts[k].2.1).y (atI l ts[k].2.2).x (atI l ts[k].2.2).y px py w)
        have hz3 : belB ⟨(atI l ts[k].1).x, (atI l ts[k].1).y⟩ ⟨(atI l ts[k].2.1).x, (atI l ts[k].2.1).y⟩ ⟨(atI l ts[k].2.2).x, (atI l ts[k].2.2).y⟩ ⟨px, py⟩ = belT l ts[k] ⟨px, py⟩ := rfl
        rw [hz3] at HC
        clear hh hz3
        cases hbl : belT l ts[k] ⟨px, py⟩
        all_goals
          rw [hbl] at HC
          have HB := Lib.hid hbl
          clear hbl
          go_wp2_with (first | (go_at_call 103; with_reducible refine Calls.mono (HP.out _ (by (repeat (first | with_reducible exact Ext.rfl' _ | with_reducible assumption | with_reducible refine Ext.al ?_ _ | with_reducible refine Ext.dr ?_ | with_reducible refine Ext.st ?_ (by simp) _ | with_reducible refine Ext.tr ?_ (by assumption))))) ?_; rintro e w1 ⟨rfl, hb⟩; have hc := hb.ccell; have hf := hb.frz; have hs := hb.sz; (try simp at hs); (try have hs0 := hs w.heap.size (by omega)); (try have hs1 := hs (w.heap.size + 1) (by omega)); (try have hs2 := hs (w.heap.size + 1 + 1) (by omega)); (try have hs3 := hs (w.heap.size + 1 + 1 + 1) (by omega))) | (go_at_call 104; with_reducible refine Calls.mono (HC.out _) ?_; rintro e w1 ⟨rfl, hb⟩; have hc := hb.ccell; have hf := hb.frz; have hs := hb.sz; (try simp at hs); (try have hs0 := hs w.heap.size (by omega)); (try have hs1 := hs (w.heap.size + 1) (by omega)); (try have hs2 := hs (w.heap.size + 1 + 1) (by omega)); (try have hs3 := hs (w.heap.size + 1 + 1 + 1) (by omega))))
        · refine ⟨⟨by (repeat (first | with_reducible exact Ext.rfl' _ | with_reducible assumption | with_reducible refine Ext.al ?_ _ | with_reducible refine Ext.dr ?_ | with_reducible refine Ext.st ?_ (by simp) _ | with_reducible refine Ext.tr ?_ (by assumption))), k + 1, by omega, by go_num, ?_⟩, by simp [intOf]; omega⟩
          intro j hj hj2
          by_cases hjk : j = k
          · subst hjk; exact HB.out
          · exact hK.out j (by omega) hj2
        · go_ret2
          have e2 := HT.out
          rw [findT_at l ⟨px, py⟩ ts k 0 hlt (fun j hj => hK.out j hj (by omega)) HB.out] at e2
          simp only [Prod.mk.injEq] at e2
          exact ⟨by simp [← e2.1, ← e2.2], by (repeat (first | with_reducible exact Ext.rfl' _ | with_reducible assumption | with_reducible refine Ext.al ?_ _ | with_reducible refine Ext.dr ?_ | with_reducible refine Ext.st ?_ (by simp) _ | with_reducible refine Ext.tr ?_ (by assumption)))⟩
      · have e2 := HT.out
        rw [findT_no l ⟨px, py⟩ ts 0 (fun j hj => hK.out j (by omega) hj)] at e2
        simp only [Prod.mk.injEq] at e2
        have E2 := Lib.hid e2
        clear e2
        go_wp2
        go_ret2
        exact ⟨by simp [← E2.out.1, ← E2.out.2], by (repeat (first | with_reducible exact Ext.rfl' _ | with_reducible assumption | with_reducible refine Ext.al ?_ _ | with_reducible refine Ext.dr ?_ | with_reducible refine Ext.st ?_ (by simp) _ | with_reducible refine Ext.tr ?_ (by assumption)))⟩
  · have hV : locV l ts ⟨px, py⟩ = (0, locE l ts ⟨px, py⟩) := by unfold locV; rw [if_pos h1]
    rw [hV]
    generalize locE l ts ⟨px, py⟩ = r at HCK h1 ⊢
    have h' : (r == 0) = false := by simp [h1]
    clear hV hl
    go_enter Try.func61, Try.ntmps61
    go_wp2_with (first | (go_at_call 102; with_reducible refine Calls.mono (HCK.out _ (by (repeat (first | with_reducible exact Ext.rfl' _ | with_reducible assumption | with_reducible refine Ext.al ?_ _ | with_reducible refine Ext.dr ?_ | with_reducible refine Ext.st ?_ (by simp) _ | with_reducible refine Ext.tr ?_ (by assumption))))) ?_; rintro e w1 ⟨rfl, hb⟩; have hc := hb.ccell; have hf := hb.frz; have hs := hb.sz; (try simp at hs); (try have hs0 := hs w.heap.size (by omega)); (try have hs1 := hs (w.heap.size + 1) (by omega)); (try have hs2 := hs (w.heap.size + 1 + 1) (by omega)); (try have hs3 := hs (w.heap.size + 1 + 1 + 1) (by omega))))
    go_ret2
    exact ⟨rfl, by (repeat (first | with_reducible exact Ext.rfl' _ | with_reducible assumption | with_reducible refine Ext.al ?_ _ | with_reducible refine Ext.dr ?_ | with_reducible refine Ext.st ?_ (by simp) _ | with_reducible refine Ext.tr ?_ (by assumption)))⟩
end Go.Proofs.Ytcdbekmcobghbaa

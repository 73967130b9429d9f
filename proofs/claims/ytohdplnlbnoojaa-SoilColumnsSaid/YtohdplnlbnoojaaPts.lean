/- Contracts of the functions on single points. -/
import Derived.Test.YtohdplnlbnoojaaLeaf
namespace Go.Proofs.Ytohdplnlbnoojaa
open Go Go.RowKit

theorem rdot_c (ax ay bx by_ cx cy : Int) (w : World) :
    Calls Try.prog 106 #[.agg #[.int .i64 ax, .int .i64 ay], .agg #[.int .i64 bx, .int .i64 by_], .agg #[.int .i64 cx, .int .i64 cy]] w
      fun e w' => e = .returned (.int .i64 (dotW ⟨ax, ay⟩ ⟨bx, by_⟩ ⟨cx, cy⟩)) ∧ Ext w w' := by
  go_enter Try.func106, Try.ntmps106
  go_wp2; go_ret
  exact ⟨rfl, (((Ext.rfl' w).al _).al _).al _⟩

theorem dot_c (ax ay bx by_ cx cy : Int) (w : World) :
    Calls Try.prog 169 #[.agg #[.int .i64 ax, .int .i64 ay], .agg #[.int .i64 bx, .int .i64 by_], .agg #[.int .i64 cx, .int .i64 cy]] w
      fun e w' => e = .returned (.int .i64 (dotW ⟨ax, ay⟩ ⟨bx, by_⟩ ⟨cx, cy⟩)) ∧ Ext w w' := by
  go_enter Try.func169, Try.ntmps169
  go_wp2; go_ret
  exact ⟨rfl, (((Ext.rfl' w).al _).al _).al _⟩

theorem square_c (ax ay bx by_ : Int) (w : World) :
    Calls Try.prog 152 #[.agg #[.int .i64 ax, .int .i64 ay], .agg #[.int .i64 bx, .int .i64 by_]] w
      fun e w' => e = .returned (.int .i64 (dotW ⟨ax, ay⟩ ⟨bx, by_⟩ ⟨bx, by_⟩)) ∧ Ext w w' := by
  go_enter Try.func152, Try.ntmps152
  go_wp2_with (first | (go_at_call 169; refine Calls.mono (dot_c _ _ _ _ _ _ _) ?_; rintro e w1 ⟨rfl, hb⟩; have hc := hb.ccell; have hf := hb.frz; have hs := hb.sz; (try simp at hs); (try have hs0 := hs w.heap.size (by omega)); (try have hs1 := hs (w.heap.size + 1) (by omega)); (try have hs2 := hs (w.heap.size + 1 + 1) (by omega)); (try have hs3 := hs (w.heap.size + 1 + 1 + 1) (by omega))))
  go_ret
  exact ⟨rfl, (((Ext.rfl' w).al _).al _).tr hb⟩

theorem rsquare_c (ax ay bx by_ : Int) (w : World) :
    Calls Try.prog 72 #[.agg #[.int .i64 ax, .int .i64 ay], .agg #[.int .i64 bx, .int .i64 by_]] w
      fun e w' => e = .returned (.int .i64 (dotW ⟨ax, ay⟩ ⟨bx, by_⟩ ⟨bx, by_⟩)) ∧ Ext w w' := by
  go_enter Try.func72, Try.ntmps72
  go_wp2_with (first | (go_at_call 106; refine Calls.mono (rdot_c _ _ _ _ _ _ _) ?_; rintro e w1 ⟨rfl, hb⟩; have hc := hb.ccell; have hf := hb.frz; have hs := hb.sz; (try simp at hs); (try have hs0 := hs w.heap.size (by omega)); (try have hs1 := hs (w.heap.size + 1) (by omega)); (try have hs2 := hs (w.heap.size + 1 + 1) (by omega)); (try have hs3 := hs (w.heap.size + 1 + 1 + 1) (by omega))))
  go_ret
  exact ⟨rfl, (((Ext.rfl' w).al _).al _).tr hb⟩

theorem rgood_c (x y : Int) (w : World) :
    Calls Try.prog 23 #[.agg #[.int .i64 x, .int .i64 y]] w fun e w' => e = .returned (.bool (good ⟨x, y⟩)) ∧ Ext w w' := by
  unfold good
  go_enter Try.func23, Try.ntmps23
  cases h : withinB x (-1000000) 1000000
  · have h' := Lib.hid h
    go_wp2_with (first | (go_at_call 56; refine Calls.mono (within3_c _ _ _ _) ?_; rintro e w' ⟨rfl, rfl⟩))
    go_ret
    exact ⟨by simp, (Ext.rfl' w).al _⟩
  · go_wp2_with (first | (go_at_call 56; refine Calls.mono (within3_c _ _ _ _) ?_; rintro e w' ⟨rfl, rfl⟩))
    go_ret
    exact ⟨by simp, (Ext.rfl' w).al _⟩

theorem inRange_c (l : List Pt) (w : World) (A : Option Addr) (c : Nat) (hl : l.length ≤ maxLen) (hA : Row 2 encP w A l) :
    Calls Try.prog 151 #[.slice A l.length c] w
      fun e w' => e = .returned (.bool (allGood l)) ∧ Ext w w' := by
  unfold maxLen at hl
  unfold allGood
  go_enter Try.func151, Try.ntmps151
  go_wp2
  go_loopw [4, 7] (fun _ i wr => Ext w wr ∧ ∃ k : Nat, k ≤ l.length ∧ i = .int .i64 k ∧ Hid ((l.take k).all good = true)) (fun _ i _ => l.length - (intOf i).toNat)
  case atStart => exact ⟨Ext.rfl' _, 0, Nat.zero_le _, rfl, by simp [Hid]⟩
  case round =>
    obtain ⟨hE, k, hk, rfl, hK⟩ := hrel
    by_cases hlt : k < l.length
    · obtain ⟨b, off, rfl, hb0, hcell⟩ := hA.p2 hlt
      have c := hcell _ hE
      clear hcell
      have hz := hE.sz _ hb0
      have hgood : good l[k] = (withinB l[k].x (-1000000) 1000000 && withinB l[k].y (-1000000) 1000000) := rfl
      have HG := Lib.hid hgood; clear hgood
      cases h1 : withinB l[k].x (-1000000) 1000000
      all_goals have H1 := Lib.hid h1
      · go_wp2_with (first | (go_at_call 168; refine Calls.mono (within2_c _ _ _ (by omega) (by omega)) ?_; rintro e w' ⟨rfl, rfl⟩))
        go_ret
        exact ⟨ret_bool (all_false _ _ k hlt (by rw [HG.out, H1.out]; rfl)).symm, by (repeat (first | with_reducible exact Ext.rfl' _ | with_reducible assumption | with_reducible refine Ext.al ?_ _ | with_reducible refine Ext.dr ?_ | with_reducible refine Ext.st ?_ (by simp) _ | with_reducible refine Ext.tr ?_ (by assumption)))⟩
      · cases h2 : withinB l[k].y (-1000000) 1000000
        all_goals have H2 := Lib.hid h2
        · go_wp2_with (first | (go_at_call 168; refine Calls.mono (within2_c _ _ _ (by omega) (by omega)) ?_; rintro e w' ⟨rfl, rfl⟩))
          go_ret
          exact ⟨ret_bool (all_false _ _ k hlt (by rw [HG.out, H1.out, H2.out]; rfl)).symm, by (repeat (first | with_reducible exact Ext.rfl' _ | with_reducible assumption | with_reducible refine Ext.al ?_ _ | with_reducible refine Ext.dr ?_ | with_reducible refine Ext.st ?_ (by simp) _ | with_reducible refine Ext.tr ?_ (by assumption)))⟩
        · go_wp2_with (first | (go_at_call 168; refine Calls.mono (within2_c _ _ _ (by omega) (by omega)) ?_; rintro e w' ⟨rfl, rfl⟩))
          go_roundw
          case rel => exact ⟨by (repeat (first | with_reducible exact Ext.rfl' _ | with_reducible assumption | with_reducible refine Ext.al ?_ _ | with_reducible refine Ext.dr ?_ | with_reducible refine Ext.st ?_ (by simp) _ | with_reducible refine Ext.tr ?_ (by assumption))), k + 1, by omega, by go_num, all_take_succ _ _ k hlt hK.out (by rw [HG.out, H1.out, H2.out]; rfl)⟩
          case measure => simp [intOf]; omega
    · go_wp2
      go_ret
      exact ⟨ret_bool (take_all _ _ k (by omega) hK.out).symm, hE⟩

end Go.Proofs.Ytohdplnlbnoojaa

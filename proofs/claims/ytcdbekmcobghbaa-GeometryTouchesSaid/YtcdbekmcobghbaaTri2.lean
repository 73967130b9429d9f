/- Contracts: is a triangle of the triangulation; closeness; inside of a circle. -/
import Derived.Test.YtcdbekmcobghbaaTri
namespace Go.Proofs.Ytcdbekmcobghbaa
open Go Go.RowKit

theorem HoldsTri.fresh (w : World) (ty : TypeId) (p1 p2 q1 q2 r1 r2 : Int) : HoldsTri (w.alloc (.cells #[.int .i64 p1, .int .i64 p2, .int .i64 q1, .int .i64 q2, .int .i64 r1, .int .i64 r2] ty)) w.heap.size (⟨p1, p2⟩, ⟨q1, q2⟩, ⟨r1, r2⟩) := by
  refine ⟨by simp, fun o => by simp [go_sem], ?_, ?_, ?_, ?_, ?_, ?_⟩ <;> simp [go_sem]

theorem fromFirst_c' (ax ay bx by_ cx cy p1 p2 q1 q2 r1 r2 : Int) (w : World) (h : fromFirst (⟨ax, ay⟩, ⟨bx, by_⟩, ⟨cx, cy⟩) = (⟨p1, p2⟩, ⟨q1, q2⟩, ⟨r1, r2⟩)) :
    Calls Try.prog 126 #[.agg #[.int .i64 ax, .int .i64 ay, .int .i64 bx, .int .i64 by_, .int .i64 cx, .int .i64 cy]] w
      fun e w' => e = .returned (.agg #[.int .i64 p1, .int .i64 p2, .int .i64 q1, .int .i64 q2, .int .i64 r1, .int .i64 r2]) ∧ Ext w w' := by
  have := fromFirst_c ax ay bx by_ cx cy w
  rw [h] at this; exact this

theorem isTri_no (l : List Pt) (t : Tri) (k : Nat) (hk : k < l.length) (T : Tri) (hT : fromFirst t = T) (h : refuses T l[k] = true) : isTri l t = false := by
  unfold isTri
  rw [all_false _ l k hk (by rw [hT, h]; rfl)]; simp
theorem isTri_yes (l : List Pt) (t : Tri) (k : Nat) (hk : l.length ≤ k) (T : Tri) (hT : fromFirst t = T) (h0 : 0 < crossW t.1 t.2.1 t.2.2) (h : (l.take k).all (fun p => !refuses T p) = true) : isTri l t = true := by
  unfold isTri
  rw [hT, take_all _ l k hk h]; simp [h0]

set_option maxHeartbeats 400000 in
theorem isTriangle_c (l : List Pt) (ax ay bx by_ cx cy : Int) (w : World) (A : Option Addr) (c : Nat) (hl : l.length ≤ maxLen) (hA : Row 2 encP w A l) :
    Calls Try.prog 99 #[.slice A l.length c, .agg #[.int .i64 ax, .int .i64 ay, .int .i64 bx, .int .i64 by_, .int .i64 cx, .int .i64 cy]] w
      fun e w' => e = .returned (.bool (isTri l (⟨ax, ay⟩, ⟨bx, by_⟩, ⟨cx, cy⟩))) ∧ Ext w w' := by
  unfold maxLen at hl
  obtain ⟨⟨⟨p1, p2⟩, ⟨q1, q2⟩, ⟨r1, r2⟩⟩, hT⟩ : ∃ T, fromFirst (⟨ax, ay⟩, ⟨bx, by_⟩, ⟨cx, cy⟩) = T := ⟨_, rfl⟩
  have HT := Lib.hid hT
  clear hT
  by_cases h0 : crossW ⟨ax, ay⟩ ⟨bx, by_⟩ ⟨cx, cy⟩ ≤ 0
  · have H0 := Lib.hid h0
    go_enter Try.func99, Try.ntmps99
    go_wp2_with (first | (go_at_call 74; refine Calls.mono (cross_c _ _ _ _ _ _ _) ?_; rintro e w1 ⟨rfl, hb⟩; have hc := hb.ccell; have hf := hb.frz; have hs := hb.sz; (try simp at hs); (try have hs0 := hs w.heap.size (by omega)); (try have hs1 := hs (w.heap.size + 1) (by omega)); (try have hs2 := hs (w.heap.size + 1 + 1) (by omega)); (try have hs3 := hs (w.heap.size + 1 + 1 + 1) (by omega))))
    go_ret
    have H0' := H0.out
    exact ⟨ret_bool (by unfold isTri; simp; omega), by (repeat (first | with_reducible exact Ext.rfl' _ | with_reducible assumption | with_reducible refine Ext.al ?_ _ | with_reducible refine Ext.dr ?_ | with_reducible refine Ext.st ?_ (by simp) _ | with_reducible refine Ext.tr ?_ (by assumption)))⟩
  have H0 := Lib.hid h0
  go_enter Try.func99, Try.ntmps99
  go_wp2_with (first | (go_at_call 74; refine Calls.mono (cross_c _ _ _ _ _ _ _) ?_; rintro e w1 ⟨rfl, hb⟩; have hc := hb.ccell; have hf := hb.frz; have hs := hb.sz; (try simp at hs); (try have hs0 := hs w.heap.size (by omega)); (try have hs1 := hs (w.heap.size + 1) (by omega)); (try have hs2 := hs (w.heap.size + 1 + 1) (by omega)); (try have hs3 := hs (w.heap.size + 1 + 1 + 1) (by omega))) | (go_at_call 126; refine Calls.mono (fromFirst_c' _ _ _ _ _ _ p1 p2 q1 q2 r1 r2 _ HT.out) ?_; rintro e w1 ⟨rfl, hb⟩; have hc := hb.ccell; have hf := hb.frz; have hs := hb.sz; (try simp at hs); (try have hs0 := hs w.heap.size (by omega)); (try have hs1 := hs (w.heap.size + 1) (by omega)); (try have hs2 := hs (w.heap.size + 1 + 1) (by omega)); (try have hs3 := hs (w.heap.size + 1 + 1 + 1) (by omega))))
  refine wp_name (fun W hW => ?_)
  have hE : Ext w W := by rw [hW]; (repeat (first | with_reducible exact Ext.rfl' _ | with_reducible assumption | with_reducible refine Ext.al ?_ _ | with_reducible refine Ext.dr ?_ | with_reducible refine Ext.st ?_ (by simp) _ | with_reducible refine Ext.tr ?_ (by assumption)))
  have hT : HoldsTri W w.heap.size (⟨p1, p2⟩, ⟨q1, q2⟩, ⟨r1, r2⟩) := by
    rw [hW]
    exact HoldsTri.put ((HoldsTri.fresh w _ ax ay bx by_ cx cy).ext (by (repeat (first | with_reducible exact Ext.rfl' _ | with_reducible assumption | with_reducible refine Ext.al ?_ _ | with_reducible refine Ext.dr ?_ | with_reducible refine Ext.st ?_ (by simp) _ | with_reducible refine Ext.tr ?_ (by assumption))))) _ _ _ _ _ _
  clear hW
  go_loopw [6, 7, 20] (fun _ _ i wr => Ext W wr ∧ ∃ k : Nat, k ≤ l.length ∧ i = .int .i64 k ∧ Hid ((l.take k).all (fun p => !refuses (⟨p1, p2⟩, ⟨q1, q2⟩, ⟨r1, r2⟩) p) = true)) (fun _ _ i _ => l.length - (intOf i).toNat)
  case atStart => exact ⟨Ext.rfl' _, 0, Nat.zero_le _, rfl, by simp [Hid]⟩
  case round =>
    clear hb hc hf hs hs0
    obtain ⟨hr, k, hk, rfl, hK⟩ := hrel
    have hE3 := hE.tr hr
    by_cases hlt : k < l.length
    · obtain ⟨b, off, rfl, hb0, hcell⟩ := hA.p2 hlt
      have c := hcell _ hE3
      have hz := hE3.sz _ hb0
      have hT' := hT.ext hr
      unfold HoldsTri at hT'
      have href : refuses (⟨p1, p2⟩, ⟨q1, q2⟩, ⟨r1, r2⟩) l[k] = (decide (0 < sideP ⟨p1, p2⟩ ⟨q1, q2⟩ ⟨r1, r2⟩ ⟨l[k].x, l[k].y⟩) || (decide (sideP ⟨p1, p2⟩ ⟨q1, q2⟩ ⟨r1, r2⟩ ⟨l[k].x, l[k].y⟩ = 0) && !allowsB (⟨p1, p2⟩, ⟨q1, q2⟩, ⟨r1, r2⟩) ⟨l[k].x, l[k].y⟩)) := rfl
      have HR := Lib.hid href
      clear href hcell
      by_cases g1 : 0 < sideP ⟨p1, p2⟩ ⟨q1, q2⟩ ⟨r1, r2⟩ ⟨l[k].x, l[k].y⟩
      · have G1 := Lib.hid g1
        go_wp2_with (first | (go_at_call 88; refine Calls.mono (circleSide_c _ _ _ _ _ _ _ _ _) ?_; rintro e w1 ⟨rfl, hb⟩; have hc := hb.ccell; have hf := hb.frz; have hs := hb.sz; (try simp at hs); (try have hs0 := hs w.heap.size (by omega)); (try have hs1 := hs (w.heap.size + 1) (by omega)); (try have hs2 := hs (w.heap.size + 1 + 1) (by omega)); (try have hs3 := hs (w.heap.size + 1 + 1 + 1) (by omega))))
        go_ret
        have g := G1.out
        exact ⟨ret_bool (isTri_no l _ k hlt _ HT.out (by rw [HR.out]; simp [g])).symm, by (repeat (first | with_reducible exact Ext.rfl' _ | with_reducible assumption | with_reducible refine Ext.al ?_ _ | with_reducible refine Ext.dr ?_ | with_reducible refine Ext.st ?_ (by simp) _ | with_reducible refine Ext.tr ?_ (by assumption)))⟩
      · by_cases g2 : sideP ⟨p1, p2⟩ ⟨q1, q2⟩ ⟨r1, r2⟩ ⟨l[k].x, l[k].y⟩ = 0
        · have G2 := Lib.hid g2
          cases g3 : allowsB (⟨p1, p2⟩, ⟨q1, q2⟩, ⟨r1, r2⟩) ⟨l[k].x, l[k].y⟩
          all_goals
            have G3 := Lib.hid g3
            go_wp2_with (first | (go_at_call 88; refine Calls.mono (circleSide_c _ _ _ _ _ _ _ _ _) ?_; rintro e w1 ⟨rfl, hb⟩; have hc := hb.ccell; have hf := hb.frz; have hs := hb.sz; (try simp at hs); (try have hs0 := hs w.heap.size (by omega)); (try have hs1 := hs (w.heap.size + 1) (by omega)); (try have hs2 := hs (w.heap.size + 1 + 1) (by omega)); (try have hs3 := hs (w.heap.size + 1 + 1 + 1) (by omega))) | (go_at_call 127; refine Calls.mono (allows_c _ _ _ _ _ _ _ _ _) ?_; rintro e w1 ⟨rfl, hb⟩; have hc := hb.ccell; have hf := hb.frz; have hs := hb.sz; (try simp at hs); (try have hs0 := hs w.heap.size (by omega)); (try have hs1 := hs (w.heap.size + 1) (by omega)); (try have hs2 := hs (w.heap.size + 1 + 1) (by omega)); (try have hs3 := hs (w.heap.size + 1 + 1 + 1) (by omega))))
          · go_ret
            have g := G2.out
            have g' := G3.out
            exact ⟨ret_bool (isTri_no l _ k hlt _ HT.out (by rw [HR.out]; simp [g, g'])).symm, by (repeat (first | with_reducible exact Ext.rfl' _ | with_reducible assumption | with_reducible refine Ext.al ?_ _ | with_reducible refine Ext.dr ?_ | with_reducible refine Ext.st ?_ (by simp) _ | with_reducible refine Ext.tr ?_ (by assumption)))⟩
          · have g := G2.out
            have g' := G3.out
            exact ⟨⟨by (repeat (first | with_reducible exact Ext.rfl' _ | with_reducible assumption | with_reducible refine Ext.al ?_ _ | with_reducible refine Ext.dr ?_ | with_reducible refine Ext.st ?_ (by simp) _ | with_reducible refine Ext.tr ?_ (by assumption))), k + 1, by omega, by go_num, all_take_succ _ _ k hlt hK.out (by rw [HR.out]; simp [g, g'])⟩, by simp [intOf]; omega⟩
        · have G1 := Lib.hid g1
          have G2 := Lib.hid g2
          have g2' : (sideP ⟨p1, p2⟩ ⟨q1, q2⟩ ⟨r1, r2⟩ ⟨l[k].x, l[k].y⟩ == 0) = false := by simp [g2]
          go_wp2_with (first | (go_at_call 88; refine Calls.mono (circleSide_c _ _ _ _ _ _ _ _ _) ?_; rintro e w1 ⟨rfl, hb⟩; have hc := hb.ccell; have hf := hb.frz; have hs := hb.sz; (try simp at hs); (try have hs0 := hs w.heap.size (by omega)); (try have hs1 := hs (w.heap.size + 1) (by omega)); (try have hs2 := hs (w.heap.size + 1 + 1) (by omega)); (try have hs3 := hs (w.heap.size + 1 + 1 + 1) (by omega))))
          have g := G2.out
          have g' := G1.out
          exact ⟨⟨by (repeat (first | with_reducible exact Ext.rfl' _ | with_reducible assumption | with_reducible refine Ext.al ?_ _ | with_reducible refine Ext.dr ?_ | with_reducible refine Ext.st ?_ (by simp) _ | with_reducible refine Ext.tr ?_ (by assumption))), k + 1, by omega, by go_num, all_take_succ _ _ k hlt hK.out (by rw [HR.out]; simp [g]; omega)⟩, by simp [intOf]; omega⟩
    · go_wp2
      go_ret
      exact ⟨ret_bool (isTri_yes l _ k (by omega) _ HT.out (by have := H0.out; simpa using this) hK.out).symm, hE3⟩

theorem isClose_c (l : List Pt) (w : World) (A : Option Addr) (c : Nat) (hl : l.length ≤ maxLen) (hA : Row 2 encP w A l) :
    Calls Try.prog 87 #[.slice A l.length c] w
      fun e w' => e = .returned (.bool (closeB l)) ∧ Ext w w' := by
  unfold maxLen at hl
  unfold closeB
  go_enter Try.func87, Try.ntmps87
  go_wp2
  go_loopw [4, 6, 9, 13, 14, 15] (fun _ _ i _ _ _ wr => Ext w wr ∧ ∃ k : Nat, k ≤ l.length ∧ i = .int .i64 k ∧ Hid ((l.take k).all (fun a => l.all fun b => closeTo a b) = true)) (fun _ _ i _ _ _ _ => l.length - (intOf i).toNat)
  case atStart => exact ⟨Ext.rfl' _, 0, Nat.zero_le _, rfl, by simp [Hid]⟩
  case round =>
    obtain ⟨hE, k, hk, rfl, hK⟩ := hrel
    by_cases hlt : k < l.length
    · obtain ⟨b, off, rfl, hb0, hcell⟩ := hA.p2 hlt
      have c := hcell _ hE
      have hz := hE.sz _ hb0
      go_wp2
      refine wp_name (fun W hW => ?_)
      have hE1 : Ext wr W := by rw [hW]; (repeat (first | with_reducible exact Ext.rfl' _ | with_reducible assumption | with_reducible refine Ext.al ?_ _ | with_reducible refine Ext.dr ?_ | with_reducible refine Ext.st ?_ (by simp) _ | with_reducible refine Ext.tr ?_ (by assumption)))
      have cW : ∀ w'', Ext W w'' → w''.cell? ⟨wr.heap.size, 0, none⟩ = some (.int .i64 l[k].x) ∧ w''.cell? ⟨wr.heap.size, 1, none⟩ = some (.int .i64 l[k].y) ∧ wr.heap.size < w''.heap.size := by
        intro w'' h
        rw [hW] at h
        exact ⟨by rw [h.ccell _ _ (by simp)]; simp [go_sem], by rw [h.ccell _ _ (by simp)]; simp [go_sem], h.sz _ (by simp)⟩
      clear hW
      obtain ⟨wo, rfl⟩ : ∃ wo : World, wo = wr := ⟨_, rfl⟩
      go_loopw [6, 15] (fun _ i wi => Ext W wi ∧ ∃ j : Nat, j ≤ l.length ∧ i = .int .i64 j ∧ Hid ((l.take j).all (fun b => closeTo l[k] b) = true)) (fun _ i _ => l.length - (intOf i).toNat)
      case atStart => exact ⟨Ext.rfl' _, 0, Nat.zero_le _, rfl, by simp [Hid]⟩
      case round =>
        obtain ⟨hE2, j, hj, rfl, hJ⟩ := hrel
        have hE3 : Ext w wr := (hE.tr hE1).tr hE2
        by_cases hlt2 : j < l.length
        · obtain ⟨b', off', hbb, hb0', hcell'⟩ := hA.p2 hlt2
          injection hbb with hbb
          injection hbb with hb1 hb2
          subst hb1 hb2
          have c' := hcell' _ hE3
          have cb := cW _ hE2
          have hz' := hE3.sz _ hb0
          clear cW hcell hcell'
          have hclose : closeTo l[k] l[j] = (withinB (wrap64 (l[k].x - l[j].x)) (-20000) 20000 && withinB (wrap64 (l[k].y - l[j].y)) (-20000) 20000) := rfl
          have HG := Lib.hid hclose; clear hclose
          cases h1 : withinB (wrap64 (l[k].x - l[j].x)) (-20000) 20000 <;> cases h2 : withinB (wrap64 (l[k].y - l[j].y)) (-20000) 20000
          all_goals
            have H1 := Lib.hid h1
            have H2 := Lib.hid h2
            go_wp2_with (first | (go_at_call 108; refine Calls.mono (within2_c _ _ _ (by omega) (by omega)) ?_; rintro e w' ⟨rfl, rfl⟩))
          · go_ret
            exact ⟨ret_bool (all_false _ l k hlt (all_false _ l j hlt2 (by rw [HG.out, H1.out]; rfl))).symm, by (repeat (first | with_reducible exact Ext.rfl' _ | with_reducible assumption | with_reducible refine Ext.al ?_ _ | with_reducible refine Ext.dr ?_ | with_reducible refine Ext.st ?_ (by simp) _ | with_reducible refine Ext.tr ?_ (by assumption)))⟩
          · go_ret
            exact ⟨ret_bool (all_false _ l k hlt (all_false _ l j hlt2 (by rw [HG.out, H1.out]; rfl))).symm, by (repeat (first | with_reducible exact Ext.rfl' _ | with_reducible assumption | with_reducible refine Ext.al ?_ _ | with_reducible refine Ext.dr ?_ | with_reducible refine Ext.st ?_ (by simp) _ | with_reducible refine Ext.tr ?_ (by assumption)))⟩
          · go_ret
            exact ⟨ret_bool (all_false _ l k hlt (all_false _ l j hlt2 (by rw [HG.out, H1.out, H2.out]; rfl))).symm, by (repeat (first | with_reducible exact Ext.rfl' _ | with_reducible assumption | with_reducible refine Ext.al ?_ _ | with_reducible refine Ext.dr ?_ | with_reducible refine Ext.st ?_ (by simp) _ | with_reducible refine Ext.tr ?_ (by assumption)))⟩
          · exact ⟨⟨by (repeat (first | with_reducible exact Ext.rfl' _ | with_reducible assumption | with_reducible refine Ext.al ?_ _ | with_reducible refine Ext.dr ?_ | with_reducible refine Ext.st ?_ (by simp) _ | with_reducible refine Ext.tr ?_ (by assumption))), j + 1, by omega, by go_num, all_take_succ _ _ j hlt2 hJ.out (by rw [HG.out, H1.out, H2.out]; rfl)⟩, by simp [intOf]; omega⟩
        · go_wp2
          have hJ' := take_all _ _ j (by omega) hJ.out
          exact ⟨⟨by (repeat (first | with_reducible exact Ext.rfl' _ | with_reducible assumption | with_reducible refine Ext.al ?_ _ | with_reducible refine Ext.dr ?_ | with_reducible refine Ext.st ?_ (by simp) _ | with_reducible refine Ext.tr ?_ (by assumption))), k + 1, by omega, by go_num, all_take_succ _ _ k hlt hK.out hJ'⟩, by simp [intOf]; omega⟩
    · go_wp2
      go_ret
      exact ⟨ret_bool (take_all _ _ k (by omega) hK.out).symm, hE⟩

end Go.Proofs.Ytcdbekmcobghbaa

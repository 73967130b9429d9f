/- The contract of addSixths. -/
import Derived.Test.YtblmljcgjibfgaaTptw
import Derived.Maps.AppendAt
import Derived.Maps.RangeWalk
import Derived.Deep.RegionHeld3
namespace Go.Proofs.Ytblmljcgjibfgaa
open Go Go.RowKit Go.IntWalk Go.Shelf

theorem index5 (w : World) : (Instr.index 133 (.agg #[.int .i64 1, .int .i64 3, .int .i64 6, .int .i64 9, .int .i64 11]) (.int .i64 0)).run Try.prog w = .ok (.int .i64 1) w ∧
    (Instr.index 133 (.agg #[.int .i64 1, .int .i64 3, .int .i64 6, .int .i64 9, .int .i64 11]) (.int .i64 1)).run Try.prog w = .ok (.int .i64 3) w ∧
    (Instr.index 133 (.agg #[.int .i64 1, .int .i64 3, .int .i64 6, .int .i64 9, .int .i64 11]) (.int .i64 2)).run Try.prog w = .ok (.int .i64 6) w ∧
    (Instr.index 133 (.agg #[.int .i64 1, .int .i64 3, .int .i64 6, .int .i64 9, .int .i64 11]) (.int .i64 3)).run Try.prog w = .ok (.int .i64 9) w ∧
    (Instr.index 133 (.agg #[.int .i64 1, .int .i64 3, .int .i64 6, .int .i64 9, .int .i64 11]) (.int .i64 4)).run Try.prog w = .ok (.int .i64 11) w := ⟨by kernel_rfl, by kernel_rfl, by kernel_rfl, by kernel_rfl, by kernel_rfl⟩
theorem index_tw (k : Nat) (hk : k < 5) (w : World) : (Instr.index 133 (.agg #[.int .i64 1, .int .i64 3, .int .i64 6, .int .i64 9, .int .i64 11]) (.int .i64 (k : Int))).run Try.prog w = .ok (.int .i64 (tw k)) w := by
  obtain ⟨h0, h1, h2, h3, h4⟩ := index5 w
  match k, hk with
  | 0, _ => exact h0
  | 1, _ => exact h1
  | 2, _ => exact h2
  | 3, _ => exact h3
  | 4, _ => exact h4
theorem keepT {W w' : World} {b0 b1 : Nat} (h : Ext W w') (h0 : b0 < W.heap.size) (h1 : b1 < W.heap.size) : (∀ j : Nat, w'.cell? ⟨b0, j, none⟩ = W.cell? ⟨b0, j, none⟩) ∧ (∀ j : Nat, w'.cell? ⟨b1, j, none⟩ = W.cell? ⟨b1, j, none⟩) ∧ Ext W w' :=
  ⟨fun j => h.ccell _ j h0, fun j => h.ccell _ j h1, h⟩
set_option maxHeartbeats 4000000 in
set_option maxRecDepth 100000 in
theorem sixths_c (a b : Pt) (S : List Pt) (base : Nat) (A : Option Addr) (c : Nat) (w : World) (ha : okM a = true) (hb : okM b = true) (hab : a.x < b.x) (hn : (S ++ [a]).length ≤ 4000) (hbase : base ≤ w.heap.size)
    (hO : w.ownsRow base 89 2 (.slice A (S ++ [a]).length c) (S ++ [a]).length ((S ++ [a]).flatMap encP)) :
    Calls Try.prog 93 #[.slice A (S ++ [a]).length c, .agg #[.int .i64 b.x, .int .i64 b.y]] w
      fun e w' => ∃ v', e = .returned v' ∧ w'.ownsRow base 89 2 v' (addS a b (S ++ [a]) 5).length ((addS a b (S ++ [a]) 5).flatMap encP) ∧ w.grownBy w' (Value.slice A (S ++ [a]).length c).ownBlock := by
  obtain ⟨n, hnn⟩ : ∃ n, S.length = n := ⟨_, rfl⟩
  have hln : (S ++ [a]).length = n + 1 := by simp [hnn]
  obtain ⟨A', c', hv, hg⟩ := own_cases hO
  injection hv with h1 _ h3
  subst h1 h3
  rcases hg with hnil | ⟨g, rfl, hgb, hown⟩
  · simp at hnil
  obtain ⟨bq, oq, hbq, hgz, hgc⟩ := hown.row.p2 (k := n) (by rw [hln]; omega)
  injection hbq with hbq
  injection hbq with hb1 hb2
  subst hb1 hb2
  have hlp : (S ++ [a])[n]'(by rw [hln]; omega) = a := by subst hnn; simp
  have hgc2 := hgc _ (Ext.rfl' _)
  rw [hlp, Nat.zero_add] at hgc2
  obtain ⟨d1, d2⟩ := hgc2
  rw [hln] at hn hO ⊢
  have HO := Lib.hid hO
  clear hgc hown hlp hO
  obtain ⟨⟨a1, a2⟩, a3, a4⟩ := (okM_iff _).1 ha
  obtain ⟨⟨b1, b2⟩, b3, b4⟩ := (okM_iff _).1 hb
  obtain ⟨ax, ay⟩ := a
  obtain ⟨bx, b_y⟩ := b
  dsimp only at *
  obtain ⟨R, hR⟩ : ∃ R, addS ⟨ax, ay⟩ ⟨bx, b_y⟩ (S ++ [⟨ax, ay⟩]) 5 = R := ⟨_, rfl⟩
  rw [hR]
  have HR := Lib.hid hR
  clear hR
  go_enter Try.func93, Try.ntmps93
  go_wp2
  have hE1 : Ext w ((w.alloc (.cells #[.int .i64 bx, .int .i64 b_y] 89)).alloc (.cells #[.int .i64 ax, .int .i64 ay] 89)) := by (repeat (first | with_reducible exact Ext.rfl' _ | with_reducible assumption | with_reducible refine Ext.al ?_ _ | with_reducible refine Ext.dr ?_ | with_reducible refine Ext.st ?_ (by simp) _ | with_reducible refine Ext.tr ?_ (by assumption)))
  have kb : Two ((w.alloc (.cells #[.int .i64 bx, .int .i64 b_y] 89)).alloc (.cells #[.int .i64 ax, .int .i64 ay] 89)) w.heap.size bx b_y := by refine ⟨?_, ?_⟩ <;> simp [World.cell?_alloc_past, World.cell?_alloc_new, go_sem]
  have ka : Two ((w.alloc (.cells #[.int .i64 bx, .int .i64 b_y] 89)).alloc (.cells #[.int .i64 ax, .int .i64 ay] 89)) (w.heap.size + 1) ax ay := by refine ⟨?_, ?_⟩ <;> simp [World.cell?_alloc_past, World.cell?_alloc_new, go_sem]
  have hs1 : w.heap.size + 1 < ((w.alloc (.cells #[.int .i64 bx, .int .i64 b_y] 89)).alloc (.cells #[.int .i64 ax, .int .i64 ay] 89)).heap.size := by simp
  generalize (w.alloc (.cells #[.int .i64 bx, .int .i64 b_y] 89)).alloc (.cells #[.int .i64 ax, .int .i64 ay] 89) = w1 at *
  have hO1 := ownsRow_ext HO.out hE1
  have hgw : g < w.heap.size := hgz
  have HK := Lib.hid (And.intro kb (And.intro ka (And.intro hs1 hE1)))
  have HW1 : Hid (w.grownBy w1 none) := ⟨hE1.os, hE1.tape, hE1.output, hE1.size, fun i hi _ => hE1.block i hi⟩
  clear kb ka d1 d2
  go_loopw [0, 6, 7, 8, 16] (fun l _ _ _ v wr => ∃ k : Nat, k ≤ 5 ∧ v = .int .i64 k ∧ ∃ A' c', l = .slice A' (addS ⟨ax, ay⟩ ⟨bx, b_y⟩ (S ++ [⟨ax, ay⟩]) k).length c' ∧ Hid (wr.ownsRow base 89 2 (.slice A' (addS ⟨ax, ay⟩ ⟨bx, b_y⟩ (S ++ [⟨ax, ay⟩]) k).length c') (addS ⟨ax, ay⟩ ⟨bx, b_y⟩ (S ++ [⟨ax, ay⟩]) k).length ((addS ⟨ax, ay⟩ ⟨bx, b_y⟩ (S ++ [⟨ax, ay⟩]) k).flatMap encP)) ∧ Hid (w1.grownBy wr (some g)) ∧ Hid (∀ j, (Value.slice A' (addS ⟨ax, ay⟩ ⟨bx, b_y⟩ (S ++ [⟨ax, ay⟩]) k).length c').ownBlock = some j → w1.heap.size ≤ j ∨ some g = some j)) (fun _ _ _ _ v _ => 5 - (intOf v).toNat)
  case atStart => exact ⟨0, by omega, rfl, some ⟨g, 0, none⟩, c, by show _ = Value.slice _ (S ++ [_]).length _; rw [hln], by show w1.ownsRow _ _ _ (Value.slice _ (S ++ [_]).length _) (S ++ [_]).length _; rw [hln]; exact hO1, World.grownBy.refl _ _, fun j h => .inr (by simpa [Value.ownBlock] using h)⟩
  case round =>
    clear hO1 HO
    obtain ⟨k, hk, rfl, A', c', rfl, hO, hG, hL⟩ := hrel
    obtain ⟨wb, hwb⟩ : ∃ wb, w1 = wb := ⟨_, rfl⟩
    rw [hwb] at hG hL HK HW1 ⊢
    clear hwb
    have kb := HK.out.1
    have ka := HK.out.2.1
    have hsr : w.heap.size + 1 < wr.heap.size := Nat.lt_of_lt_of_le HK.out.2.2.1 hG.out.size
    have kb0 := hG.out.cell kb.1 (by simp; omega)
    have kb1 := hG.out.cell kb.2 (by simp; omega)
    have ka0 := hG.out.cell ka.1 (by simp; omega)
    have ka1 := hG.out.cell ka.2 (by simp; omega)
    have hlen := addS_len ⟨ax, ay⟩ ⟨bx, b_y⟩ (S ++ [⟨ax, ay⟩]) k
    rw [hln] at hlen
    by_cases hlt : k < 5
    · have hix := fun w => index_tw k hlt w
      have hst := addS_succ ⟨ax, ay⟩ ⟨bx, b_y⟩ (S ++ [⟨ax, ay⟩]) k
      have HST := Lib.hid hst
      clear hst
      generalize addS ⟨ax, ay⟩ ⟨bx, b_y⟩ (S ++ [⟨ax, ay⟩]) k = O at *
      obtain ⟨U, p, rfl⟩ : ∃ U p, O = U ++ [p] := ⟨O.dropLast, O.getLast (by intro e; rw [e] at hlen; simp at hlen), (List.dropLast_concat_getLast _).symm⟩
      rw [lastX_app] at HST
      obtain ⟨m, hm⟩ : ∃ m, U.length = m := ⟨_, rfl⟩
      have hlU : (U ++ [p]).length = m + 1 := by simp [hm]
      rw [hlU] at hO hlen hL ⊢
      obtain ⟨A2, c2, hv, hg2⟩ := own_cases (by rw [hlU]; exact hO.out)
      injection hv with e1 e2 e3
      clear e2
      subst e1 e3
      rcases hg2 with hnil | ⟨g2, rfl, hgb2, hown2⟩
      · simp at hnil
      obtain ⟨b2, o2, hb2, hgz2, hgc2⟩ := hown2.row.p2 (k := m) (by rw [hlU]; omega)
      injection hb2 with hb2
      injection hb2 with hb3 hb4
      subst hb3 hb4
      have hlp2 : (U ++ [p])[m]'(by rw [hlU]; omega) = p := by subst hm; simp
      obtain ⟨l0, l1⟩ := hgc2 _ (Ext.rfl' _)
      rw [hlp2, Nat.zero_add] at l0 l1
      clear hgc2 hown2 hlp2
      have s1 : 0 ≤ (sixth ⟨ax, ay⟩ ⟨bx, b_y⟩ k).x - ax ∧ (sixth ⟨ax, ay⟩ ⟨bx, b_y⟩ k).x < bx := by
        have := sixth_x (a := ⟨ax, ay⟩) (b := ⟨bx, b_y⟩) hab hlt
        dsimp only at this
        omega
      have s2 := sixth_y ⟨ax, ay⟩ ⟨bx, b_y⟩ k
      unfold sixth at s1 s2 HST
      dsimp only at s1 s2 HST
      have t1 := tw_bd k
      generalize tw k = tk at *
      obtain ⟨t1, t2⟩ := t1
      have m1 := mul_bound (x := (k : Int) + 1) (y := bx - ax) (M := 10) (N := 1000000) (by omega) (by omega) (by omega) (by omega)
      have m2 := mul_bound (x := tk) (y := b_y - ay) (M := 20) (N := 40000) (by omega) (by omega) (by omega) (by omega)
      have HQ1 := Lib.hid (fun w => quotient_c (((k : Int) + 1) * (bx - ax)) 6 w (by omega) (by omega) (by omega) (by omega))
      have HQ2 := Lib.hid (fun w => quotient_c (tk * (b_y - ay)) 12 w (by omega) (by omega) (by omega) (by omega))
      have q1 : 0 ≤ ((k : Int) + 1) * (bx - ax) / 6 ∧ ((k : Int) + 1) * (bx - ax) / 6 ≤ 2000000 := by omega
      have q2 : -100000 ≤ tk * (b_y - ay) / 12 ∧ tk * (b_y - ay) / 12 ≤ 100000 := by omega
      have w3 : IntKind.i64.wrap (((k : Int) + 1) * (bx - ax)) = ((k : Int) + 1) * (bx - ax) := i64_in _ (by omega)
      have w4 : IntKind.i64.wrap (tk * (b_y - ay)) = tk * (b_y - ay) := i64_in _ (by omega)
      have W34 := Lib.hid (And.intro w3 w4)
      clear w3 w4
      generalize ((k : Int) + 1) * (bx - ax) / 6 = Q1 at *
      generalize tk * (b_y - ay) / 12 = Q2 at *
      have w5 : IntKind.i64.wrap (ax + Q1) = ax + Q1 := i64_in _ (by omega)
      have w6 : IntKind.i64.wrap (ay + Q2) = ay + Q2 := i64_in _ (by omega)
      have w2 : IntKind.i64.wrap (b_y - ay) = b_y - ay := i64_in _ (by omega)
      have w1' : IntKind.i64.wrap (bx - ax) = bx - ax := i64_in _ (by omega)
      have w0 : IntKind.i64.wrap ((k : Int) + 1) = (k : Int) + 1 := i64_in _ (by omega)
      have W56 := Lib.hid (And.intro w0 (And.intro w1' (And.intro w2 (And.intro w5 w6))))
      have M12 := Lib.hid (And.intro m1 m2)
      clear w5 w6 w2 w1' w0 m1 m2 s1 s2
      go_wp2
      go_cut [8] (fun s8 wx => ∃ b2 : Nat, s8 = .pointer (some ⟨b2, 0, none⟩) ∧ Ext wr wx ∧ b2 < wx.heap.size ∧ wr.heap.size ≤ b2 ∧ Two wx b2 (ax + Q1) (ay + Q2))
      case first =>
        obtain ⟨w3, w4⟩ := W34.out
        obtain ⟨w0, w1', w2, w5, w6⟩ := W56.out
        have hsr0 : w.heap.size < wr.heap.size := Nat.lt_of_succ_lt hsr
        clear l0 l1 hO hG hL HST q1 q2 hix hgz2 hgb2 t1 t2 hlen hlU hm
        go_region_held3 (fun w' => (∀ j : Nat, w'.cell? ⟨w.heap.size, j, none⟩ = wr.cell? ⟨w.heap.size, j, none⟩) ∧ (∀ j : Nat, w'.cell? ⟨w.heap.size + 1, j, none⟩ = wr.cell? ⟨w.heap.size + 1, j, none⟩) ∧ Ext wr w') ((refine keepT ?_ hsr0 hsr; (repeat (first | with_reducible exact Ext.rfl' _ | with_reducible assumption | with_reducible refine Ext.al ?_ _ | with_reducible refine Ext.dr ?_ | with_reducible refine Ext.st ?_ (by simp) _)))) ((go_at_call 111; (first | (with_reducible refine Calls.mono (HQ1.out _) ?_) | (with_reducible refine Calls.mono (HQ2.out _) ?_)); rintro e w' ⟨rfl, rfl⟩))
        all_goals
          rename_i hJ hK h1 h2 hH
          clear hH
          refine h2 _ _ (Met.intro (h1 _ _ ?_))
          (repeat apply Exists.intro)
          refine ⟨?_, rfl⟩
          refine ⟨_, rfl, ?_, ?_, ?_, ?_, ?_⟩
          all_goals first | ((repeat (first | with_reducible exact Ext.rfl' _ | with_reducible assumption | with_reducible refine Ext.al ?_ _ | with_reducible refine Ext.dr ?_ | with_reducible refine Ext.st ?_ (by simp) _ | with_reducible refine Ext.tr ?_ (by assumption))); done) | (simp; done) | (simp; omega) | (simp [go_sem]; done) | (simp [World.cell?_alloc_past, World.cell?_alloc_new, go_sem]; done)
      case rest =>
        obtain ⟨b2, rfl, hx, hb2, hb2', y0, y1⟩ := hcut
        have e0 := (hx.ccell _ _ hgz2).trans l0
        have hzg := hx.sz _ hgz2
        have HX := Lib.hid hx
        have HLU := Lib.hid (And.intro hlU hm)
        have HBB := Lib.hid (And.intro hb2 hb2')
        clear l0 l1 hlU hm hx kb0 kb1 ka0 ka1 hix HQ1 HQ2
        by_cases hlt2 : p.x < ax + Q1
        · rw [if_pos hlt2] at HST
          obtain ⟨i0, hi0, hzi0, hzi1, hzi2⟩ := info_parts infoM
          go_wp2
          refine region_grow (by kernel_rfl) (by kernel_rfl) ?_
          repeat (first | go_big_quiet_step (first  | fail) | quiet_step (first  | fail))
          refine wpQuiet_nil ?_
          intro w1 hb
          have hc := hb.ccell
          have hf := hb.frz
          have hs := hb.sz
          (try simp at hs); (try have hs0 := hs w.heap.size (by omega)); (try have hs1 := hs (w.heap.size + 1) (by omega)); (try have hs2 := hs (w.heap.size + 1 + 1) (by omega)); (try have hs3 := hs (w.heap.size + 1 + 1 + 1) (by omega))
          (try simp only [IntWalk.i64_left])
          have HX2 := Lib.hid (HX.out.tr hb)
          have y0' := (hc _ _ hb2).trans y0
          have y1' := (hc _ _ hb2).trans y1
          have hb3 := hb.sz _ hb2
          have HO5 := Lib.hid (ownsRow_ext hO.out (HX.out.tr hb))
          have hz5 : base ≤ w1.heap.size := by have := HX2.out.size; have := hG.out.size; have := HK.out.2.2.1; omega
          clear hc hf hs hb y0 y1 hO
          obtain ⟨g0, hg0, hOa⟩ : ∃ g0, g0 = g2 ∧ True := ⟨_, rfl, trivial⟩
          clear hg0 hOa
          go_wp2_with (first | (at_builtin; refine wpList_append_own_at _ rfl _ _ 22 rfl base 89 i0 _ 2 16 Try.underlying22 hi0 hzi0 hzi1 hzi2 rfl (by decide) _ _ _ rfl (World.ownsRow.alloc HO5.out _) ⟨_, 0, none⟩ 1 1 [.int .i64 (ax + Q1), .int .i64 (ay + Q2)] rfl rfl ?_ ?_ ?_ ?_ ?_ ?_))
          any_goals first | (exact two_new _ _ _ _; done) | (intro u hu; simp at hu; rcases hu with rfl | rfl <;> rfl) | (exact ⟨rfl, rfl⟩) | (unfold maxLen; omega) | omega | (simp; omega)
          intro v' w5 hown5 hgrow5 _ hloc
          clear hi0 hzi0 hzi1 hzi2
          have hB1 : wr.grownBy (w1.alloc (.cells #[.int .i64 (ax + Q1), .int .i64 (ay + Q2)] 89)) none := ⟨(Ext.al HX2.out _).os, (Ext.al HX2.out _).tape, (Ext.al HX2.out _).output, (Ext.al HX2.out _).size, fun i hi _ => (Ext.al HX2.out _).block i hi⟩
          have hB2 : wb.grownBy (w1.alloc (.cells #[.int .i64 (ax + Q1), .int .i64 (ay + Q2)] 89)) (some g) := hG.out.andThen hB1 (fun j h => by cases h)
          have hB3 : wb.grownBy w5 (some g) := hB2.andThen hgrow5 (fun j h => hL.out j h)
          have e3 : (U ++ [p] ++ [(⟨ax + Q1, ay + Q2⟩ : Pt)]).length = m + 1 + 1 := by have := HLU.out.2; simp; omega
          have e4 : (U ++ [p] ++ [(⟨ax + Q1, ay + Q2⟩ : Pt)]).flatMap encP = (U ++ [p]).flatMap encP ++ [.int .i64 (ax + Q1), .int .i64 (ay + Q2)] := by simp [encP]
          have hown6 : w5.ownsRow base 89 2 v' (U ++ [p] ++ [(⟨ax + Q1, ay + Q2⟩ : Pt)]).length ((U ++ [p] ++ [(⟨ax + Q1, ay + Q2⟩ : Pt)]).flatMap encP) := by rw [e3, e4]; first | exact hown5 | (simpa [encP] using hown5)
          obtain ⟨A5, c5, hv5, _⟩ := own_cases hown6
          subst hv5
          have hL5 : ∀ j, (Value.slice A5 (U ++ [p] ++ [(⟨ax + Q1, ay + Q2⟩ : Pt)]).length c5).ownBlock = some j → wb.heap.size ≤ j ∨ some g = some j := by
            intro j hj
            rcases hloc with h | h
            · rw [h] at hj; exact hL.out j hj
            · rw [h] at hj
              injection hj with hj
              left
              have h1 := hB2.size
              first | omega | (simp at h1; omega) | (simp at h1 hj; omega)
          clear hown5 hgrow5 hloc e3 e4
          rw [← HST.out] at hown6 hL5 ⊢
          go_wp2
          exact ⟨⟨k + 1, by omega, by go_num, A5, c5, rfl, hown6, hB3, hL5⟩, by simp [intOf]; omega⟩
        · rw [if_neg hlt2] at HST
          go_wp2
          refine region_grow (by kernel_rfl) (by kernel_rfl) ?_
          repeat (first | go_big_quiet_step (first  | fail) | quiet_step (first  | fail))
          refine wpQuiet_nil ?_
          intro w1 hb
          have hc := hb.ccell
          have hf := hb.frz
          have hs := hb.sz
          (try simp at hs); (try have hs0 := hs w.heap.size (by omega)); (try have hs1 := hs (w.heap.size + 1) (by omega)); (try have hs2 := hs (w.heap.size + 1 + 1) (by omega)); (try have hs3 := hs (w.heap.size + 1 + 1 + 1) (by omega))
          (try simp only [IntWalk.i64_left])
          have hX2 := HX.out.tr hb
          go_wp2
          have hB1 : wr.grownBy w1 none := ⟨hX2.os, hX2.tape, hX2.output, hX2.size, fun i hi _ => hX2.block i hi⟩
          have hO6 := ownsRow_ext hO.out hX2
          have hL6 := hL.out
          rw [← HLU.out.1, ← HST.out] at hO6 hL6
          refine ⟨⟨k + 1, by omega, by go_num, some ⟨g2, 0, none⟩, c', ?_, hO6, hG.out.andThen hB1 (fun j h => by cases h), hL6⟩, by simp [intOf]; omega⟩
          rw [HST.out, HLU.out.1]
    · have hR2 : addS ⟨ax, ay⟩ ⟨bx, b_y⟩ (S ++ [⟨ax, ay⟩]) k = R := by
        have hkl : k = 5 := by omega
        rw [hkl]
        exact HR.out
      rw [hR2] at hO hlen ⊢
      have hnk : ¬ (k : Int) < 5 := by omega
      have h9 : w.grownBy wr (some g) := World.grownBy.andThen (World.grownBy.but HW1.out (some g)) hG.out (fun j h => .inr h)
      clear hR2 hL
      go_wp2
      exact bodyPost_ret (v := .slice A' R.length c') (by simp [results, Try.results93, go_sem]) rfl ⟨_, rfl, hO.out, h9⟩
end Go.Proofs.Ytblmljcgjibfgaa

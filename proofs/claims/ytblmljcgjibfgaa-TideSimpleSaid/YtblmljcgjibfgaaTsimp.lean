/- The contract of Simplify. -/
import Derived.Test.YtblmljcgjibfgaaTpsim
namespace Go.Proofs.Ytblmljcgjibfgaa
open Go Go.RowKit Go.IntWalk Go.Shelf

theorem tstraight_c (ax ay bx b_y cx cy : Int) (w : World) (h1 : 0 ≤ ax ∧ ax ≤ 1000000) (h2 : 0 ≤ bx ∧ bx ≤ 1000000) (h3 : 0 ≤ cx ∧ cx ≤ 1000000) (h4 : -20000 ≤ ay ∧ ay ≤ 20000) (h5 : -20000 ≤ b_y ∧ b_y ≤ 20000) (h6 : -20000 ≤ cy ∧ cy ≤ 20000) :
    Calls Try.prog 91 #[.agg #[.int .i64 ax, .int .i64 ay], .agg #[.int .i64 bx, .int .i64 b_y], .agg #[.int .i64 cx, .int .i64 cy]] w
      fun e w' => e = .returned (.bool (str3 ⟨ax, ay⟩ ⟨bx, b_y⟩ ⟨cx, cy⟩)) ∧ Ext w w' := by
  obtain ⟨u0, u1⟩ := mul_bound (x := b_y - ay) (y := cx - ax) (M := 40000) (N := 1000000) (by omega) (by omega) (by omega) (by omega)
  obtain ⟨u2, u3⟩ := mul_bound (x := cy - ay) (y := bx - ax) (M := 40000) (N := 1000000) (by omega) (by omega) (by omega) (by omega)
  obtain ⟨a1, a2⟩ := h1
  obtain ⟨a3, a4⟩ := h2
  obtain ⟨a5, a6⟩ := h3
  obtain ⟨a7, a8⟩ := h4
  obtain ⟨a9, b1⟩ := h5
  obtain ⟨b2, b3⟩ := h6
  go_enter Try.func91, Try.ntmps91
  go_wp2
  go_ret
  exact ⟨ret_bool (by unfold str3; rw [Bool.eq_iff_iff]; simp), by (repeat (first | with_reducible exact Ext.rfl' _ | with_reducible assumption | with_reducible refine Ext.al ?_ _ | with_reducible refine Ext.dr ?_ | with_reducible refine Ext.st ?_ (by simp) _ | with_reducible refine Ext.tr ?_ (by assumption)))⟩
theorem rstraight_c (ax ay bx b_y cx cy : Int) (w : World) (h1 : 0 ≤ ax ∧ ax ≤ 1000000) (h2 : 0 ≤ bx ∧ bx ≤ 1000000) (h3 : 0 ≤ cx ∧ cx ≤ 1000000) (h4 : -20000 ≤ ay ∧ ay ≤ 20000) (h5 : -20000 ≤ b_y ∧ b_y ≤ 20000) (h6 : -20000 ≤ cy ∧ cy ≤ 20000) :
    Calls Try.prog 92 #[.agg #[.int .i64 ax, .int .i64 ay], .agg #[.int .i64 bx, .int .i64 b_y], .agg #[.int .i64 cx, .int .i64 cy]] w
      fun e w' => e = .returned (.bool (str3 ⟨ax, ay⟩ ⟨bx, b_y⟩ ⟨cx, cy⟩)) ∧ Ext w w' := by
  obtain ⟨u0, u1⟩ := mul_bound (x := b_y - ay) (y := cx - ax) (M := 40000) (N := 1000000) (by omega) (by omega) (by omega) (by omega)
  obtain ⟨u2, u3⟩ := mul_bound (x := cy - ay) (y := bx - ax) (M := 40000) (N := 1000000) (by omega) (by omega) (by omega) (by omega)
  obtain ⟨a1, a2⟩ := h1
  obtain ⟨a3, a4⟩ := h2
  obtain ⟨a5, a6⟩ := h3
  obtain ⟨a7, a8⟩ := h4
  obtain ⟨a9, b1⟩ := h5
  obtain ⟨b2, b3⟩ := h6
  go_enter Try.func92, Try.ntmps92
  go_wp2
  go_ret
  exact ⟨ret_bool (by unfold str3; rw [Bool.eq_iff_iff]; simp), by (repeat (first | with_reducible exact Ext.rfl' _ | with_reducible assumption | with_reducible refine Ext.al ?_ _ | with_reducible refine Ext.dr ?_ | with_reducible refine Ext.st ?_ (by simp) _ | with_reducible refine Ext.tr ?_ (by assumption)))⟩
set_option maxRecDepth 100000 in
set_option maxHeartbeats 4000000 in
theorem simp_c (s : ByteArray) (x er : Int) (l : List Pt) (w : World) (A : Option Addr) (c : Nat) (hl : l.length ≤ 1000) (hA : Row 2 encP w A l) :
    Calls Try.prog 51 #[.agg #[.string s, .int .i64 x, .int .i64 er, .slice A l.length c]] w
      fun e w' => GaOut s x er (simL l) (gaugeE s x er l) e w' ∧ Ext w w' := by
  have HC := Lib.hid (fun w' (hw : Ext w w') => checkGauge_c s x er l w' A c hl (hA.ext hw))
  by_cases h0 : gaugeE s x er l = 0
  case neg =>
    generalize gaugeE s x er l = r at *
    have h' : (r == 0) = false := by simp [h0]
    go_enter Try.func51, Try.ntmps51
    go_wp2_with (first | (go_at_call 62; with_reducible refine Calls.mono (HC.out _ (by (repeat (first | with_reducible exact Ext.rfl' _ | with_reducible assumption | with_reducible refine Ext.al ?_ _ | with_reducible refine Ext.dr ?_ | with_reducible refine Ext.st ?_ (by simp) _ | with_reducible refine Ext.tr ?_ (by assumption))))) ?_; rintro e w1 ⟨rfl, hb⟩; have hc := hb.ccell; have hf := hb.frz; have hs := hb.sz; (try simp at hs); (try have hs0 := hs w.heap.size (by omega)); (try have hs1 := hs (w.heap.size + 1) (by omega)); (try have hs2 := hs (w.heap.size + 1 + 1) (by omega)); (try have hs3 := hs (w.heap.size + 1 + 1 + 1) (by omega))))
    have hE : Ext w w1 := by (repeat (first | with_reducible exact Ext.rfl' _ | with_reducible assumption | with_reducible refine Ext.al ?_ _ | with_reducible refine Ext.dr ?_ | with_reducible refine Ext.st ?_ (by simp) _ | with_reducible refine Ext.tr ?_ (by assumption)))
    have kz : Fo w1 (w.heap.size + 1) (.string ⟨#[]⟩) (.int .i64 0) (.int .i64 0) (.slice none 0 0) := by refine ⟨?_, ?_, ?_, ?_⟩ <;> simp [*, go_sem]
    have hS4 := Fo.store (w := w1) (b := w.heap.size + 1) kz (.string ⟨#[]⟩) (.int .i64 0) (.int .i64 0) (.slice none 0 0)
    have hX4 := Ext.store4 (b := w.heap.size + 1) hE (by omega) (.string ⟨#[]⟩) (.int .i64 0) (.int .i64 0) (.slice none 0 0)
    show bodyPost _ _ _ _ _ (st4 w1 (w.heap.size + 1) (.string ⟨#[]⟩) (.int .i64 0) (.int .i64 0) (.slice none 0 0))
    generalize st4 w1 (w.heap.size + 1) (.string ⟨#[]⟩) (.int .i64 0) (.int .i64 0) (.slice none 0 0) = W6 at hS4 hX4 ⊢
    obtain ⟨s0, s1, s2, s3⟩ := hS4
    refine bodyPost_ret (v := .tuple #[.agg #[.string ⟨#[]⟩, .int .i64 0, .int .i64 0, .slice none 0 0], .int .i64 r]) (by simp [results, Try.results51, go_sem, s0, s1, s2, s3]) rfl ⟨.inr ⟨h0, rfl⟩, hX4⟩
  obtain ⟨_, _, he, hG⟩ := gaugeE_zero h0
  rw [h0] at HC ⊢
  have HRC := Lib.hid (fun w A' n' c' => trecord_c s x er A A' l.length c n' c' w)
  go_enter Try.func51, Try.ntmps51
  go_wp2_with (first | (go_at_call 62; with_reducible refine Calls.mono (HC.out _ (by (repeat (first | with_reducible exact Ext.rfl' _ | with_reducible assumption | with_reducible refine Ext.al ?_ _ | with_reducible refine Ext.dr ?_ | with_reducible refine Ext.st ?_ (by simp) _ | with_reducible refine Ext.tr ?_ (by assumption))))) ?_; rintro e wq ⟨rfl, hb⟩; have hc := hb.ccell; have hf := hb.frz; have hs := hb.sz; (try simp at hs); (try have t0 := hs (w.heap.size) (by first | assumption | omega)); (try have t1 := hs (w.heap.size + 1) (by first | assumption | omega)); (try have t2 := hs (w.heap.size) (by first | assumption | omega)); (try have t3 := hs (w.heap.size) (by first | assumption | omega)); (try have t4 := hs (w.heap.size) (by first | assumption | omega)); (try have t5 := hs (w.heap.size) (by first | assumption | omega))))
  have hE1 : Ext w wq := by (repeat (first | with_reducible exact Ext.rfl' _ | with_reducible assumption | with_reducible refine Ext.al ?_ _ | with_reducible refine Ext.dr ?_ | with_reducible refine Ext.st ?_ (by simp) _ | with_reducible refine Ext.tr ?_ (by assumption)))
  have kz : Fo wq (w.heap.size + 1) (.string ⟨#[]⟩) (.int .i64 0) (.int .i64 0) (.slice none 0 0) := by refine ⟨?_, ?_, ?_, ?_⟩ <;> simp [*, go_sem]
  have gz : Fo wq w.heap.size (.string s) (.int .i64 x) (.int .i64 er) (.slice A l.length c) := by refine ⟨?_, ?_, ?_, ?_⟩ <;> simp [*, go_sem]
  have fz : ∀ o, wq.frozen? ⟨w.heap.size + 1, o, none⟩ = false := by intro o; simp [*, go_sem]
  have hs1 : w.heap.size + 1 < wq.heap.size := t1
  have HK := Lib.hid (And.intro hE1 (And.intro kz (And.intro gz (And.intro fz hs1))))
  clear kz gz fz hc hf hs hb HC h0 t0 t1 t2 t3 t4 t5
  go_loopw [5, 6, 7, 8, 18] (fun vl _ _ _ v wr => Ext wq wr ∧ ∃ k : Nat, k ≤ l.length ∧ v = .int .i64 k ∧ ∃ O : List Pt, O.length ≤ k ∧ Hid (wr.ownsRow wq.heap.size 89 2 vl O.length (O.flatMap encP)) ∧ ((k = 0 ∧ O = []) ∨ (0 < k ∧ ∃ S p, O = S ++ [p] ∧ okM p = true ∧ Hid (simL l = S ++ [p] ++ kp p (l.drop k))))) (fun _ _ _ _ v _ => l.length - (intOf v).toNat)
  case atStart => exact ⟨Ext.rfl' _, 0, Nat.zero_le _, rfl, [], Nat.le_refl _, World.ownsRow_nil _ _ _ _, .inl ⟨rfl, rfl⟩⟩
  case round =>
    obtain ⟨hE, k, hk, rfl, O, hOl, hO, hcase⟩ := hrel
    have hEw : Ext w wr := hE1.tr hE
    have hz0 : w.heap.size < wq.heap.size := by omega
    have hzr := hE.sz _ hz0
    by_cases hlt : k < l.length
    · obtain ⟨b, off, rfl, hb0, hcell⟩ := hA.p2 hlt
      have hc0 := hcell _ hEw
      clear hcell
      have hzb := hEw.sz _ hb0
      obtain ⟨c1, c2⟩ := hc0
      have hgk := gt_lt l k hlt
      have hokm := hG.ok k hlt
      have hok := (okM_iff _).1 hokm
      rw [hgk] at hok hokm
      obtain ⟨⟨o1, o2⟩, o3, o4⟩ := hok
      obtain ⟨g0, g1, g2, g3⟩ := Fo.all (HK.out.2.2.1.ext hE hz0)
      rcases hcase with ⟨hk0, hOn⟩ | ⟨hk0, S, p, hOS, hpm, hSL⟩
      · subst hOn
        have HS1 := Lib.hid (simL_k l k hlt hk0)
        have HOK := Lib.hid hokm
        have k0 : (k : Int) ≤ 0 := by omega
        have gk0 : (0 < k) = False := eq_false (by omega)
        have HK0 := Lib.hid hk0
        have HO : Hid (wr.ownsRow wq.heap.size 89 2 _ 0 []) := hO
        clear hgk hokm hk0 hO hOl
        generalize l[k] = m at *
        obtain ⟨px, py⟩ := m
        dsimp only at *
        go_upto_region 9 with fail
        refine region_grow (by kernel_rfl) (by kernel_rfl) ?_
        repeat (first | go_big_quiet_step (first  | fail) | quiet_step (first  | fail))
        refine wpQuiet_nil ?_
        intro w1 hb
        have hc := hb.ccell
        have hf := hb.frz
        have hs := hb.sz
        (try simp at hs); (try have hs0 := hs w.heap.size (by omega)); (try have hs1 := hs (w.heap.size + 1) (by omega)); (try have hs2 := hs (w.heap.size + 1 + 1) (by omega)); (try have hs3 := hs (w.heap.size + 1 + 1 + 1) (by omega))
        (try simp only [IntWalk.i64_left])
        have hX3 : Ext wq w1 := hE.tr ((Ext.al (Ext.rfl' wr) _).tr hb)
        have HO3 := Lib.hid (ownsRow_ext HO.out ((Ext.al (Ext.rfl' wr) _).tr hb))
        have hsz3 := hX3.size
        obtain ⟨i0, hi, hzi0, hzi1, hzi2⟩ := info_parts infoM
        go_wp2_with (first | (at_builtin; refine wpList_append_own _ rfl _ _ 22 rfl wq.heap.size 89 i0 _ 2 16 Try.underlying22 hi hzi0 hzi1 hzi2 rfl (by decide) _ _ _ rfl (World.ownsRow.alloc HO3.out _) ⟨_, 0, none⟩ 1 1 [.int .i64 px, .int .i64 py] rfl rfl ?c1 ?c2 ?c3 ?c4 ?c5 ?_))
        case c1 => exact two_new _ _ _ _
        case c2 => intro u hu; simp at hu; rcases hu with rfl | rfl <;> rfl
        case c3 => unfold maxLen; omega
        case c4 => omega
        case c5 => simp; omega
        intro v' w4 hown4 hgrow4 _
        clear hi hzi0 hzi1 hzi2
        have hlt4 := World.ownsRow.lt HO3.out
        have hE4 : Ext wq w4 := Below.grown (Ext.al hX3 _) hgrow4 (by have := hX3.size; simp; omega) (by intro q hq; exact (hlt4 q hq).1)
        go_wp2
        refine ⟨⟨hE4, k + 1, by omega, by go_num, [⟨px, py⟩], by simp, hown4, .inr ⟨by omega, [], ⟨px, py⟩, rfl, HOK.out, HS1.out⟩⟩, by simp [intOf]; omega⟩
      · subst hOS
        have HO := hO
        obtain ⟨n, hn⟩ : ∃ n, S.length = n := ⟨_, rfl⟩
        have hln : (S ++ [p]).length = n + 1 := by simp [hn]
        have hOn : n + 1 ≤ k := by rw [← hln]; exact hOl
        have gk0 : (0 < k) = True := eq_true (by omega)
        by_cases hlast : k + 1 < l.length
        case neg =>
          have hS2 := hSL.out.trans (congrArg (fun z => S ++ [p] ++ z) (kp_last p l k hlt (by omega)))
          have HS2 := Lib.hid hS2
          have HOK := Lib.hid hokm
          have hlz : ¬ (k : Int) < (l.length : Int) - 1 := by omega
          have k1 : (0 : Int) < (k : Int) := by omega
          clear hgk hokm hS2 hSL
          generalize l[k] = m at *
          obtain ⟨px, py⟩ := m
          dsimp only at *
          go_upto_region 9 with fail
          refine region_grow (by kernel_rfl) (by kernel_rfl) ?_
          repeat (first | go_big_quiet_step (first  | fail) | quiet_step (first  | fail))
          refine wpQuiet_nil ?_
          intro w1 hb
          have hc := hb.ccell
          have hf := hb.frz
          have hs := hb.sz
          (try simp at hs); (try have hs0 := hs w.heap.size (by omega)); (try have hs1 := hs (w.heap.size + 1) (by omega)); (try have hs2 := hs (w.heap.size + 1 + 1) (by omega)); (try have hs3 := hs (w.heap.size + 1 + 1 + 1) (by omega))
          (try simp only [IntWalk.i64_left])
          have hX3 : Ext wq w1 := hE.tr ((Ext.al (Ext.rfl' wr) _).tr hb)
          have HO3 := Lib.hid (ownsRow_ext HO.out ((Ext.al (Ext.rfl' wr) _).tr hb))
          have hsz3 := hX3.size
          obtain ⟨i0, hi, hzi0, hzi1, hzi2⟩ := info_parts infoM
          go_wp2_with (first | (at_builtin; refine wpList_append_own _ rfl _ _ 22 rfl wq.heap.size 89 i0 _ 2 16 Try.underlying22 hi hzi0 hzi1 hzi2 rfl (by decide) _ _ _ rfl (World.ownsRow.alloc HO3.out _) ⟨_, 0, none⟩ 1 1 [.int .i64 px, .int .i64 py] rfl rfl ?_ ?_ ?_ ?_ ?_ ?_))
          any_goals first | (exact two_new _ _ _ _; done) | (intro u hu; simp at hu; rcases hu with rfl | rfl <;> rfl) | (exact ⟨rfl, rfl⟩) | (unfold maxLen; omega) | omega | (simp; omega)
          intro v' w4 hown4 hgrow4 _
          clear hi hzi0 hzi1 hzi2
          have hlt4 := World.ownsRow.lt HO3.out
          have hE4 : Ext wq w4 := Below.grown (Ext.al hX3 _) hgrow4 (by have := hX3.size; simp; omega) (by intro q hq; exact (hlt4 q hq).1)
          go_wp2
          refine ⟨⟨hE4, k + 1, by omega, by go_num, S ++ [p] ++ [(⟨px, py⟩ : Pt)], by simp [hn] at hOl ⊢; omega, ?_, .inr ⟨by omega, S ++ [p], (⟨px, py⟩ : Pt), rfl, HOK.out, ?_⟩⟩, by simp [intOf]; omega⟩
          · show w4.ownsRow _ _ _ _ _ _
            have e3 : (S ++ [p] ++ [(⟨px, py⟩ : Pt)]).length = n + 1 + 1 := by simp [hn]
            have e4 : (S ++ [p] ++ [(⟨px, py⟩ : Pt)]).flatMap encP = (S ++ [p]).flatMap encP ++ [.int .i64 px, .int .i64 py] := by simp [encP]
            rw [e3, e4]
            have h9 := hown4
            (try rw [hln] at h9)
            first | exact h9 | (simpa [encP] using h9)
          · show simL l = _
            rw [HS2.out]; simp
        · obtain ⟨A2, c3, hv, hg⟩ := own_cases hO.out
          rcases hg with hnil | ⟨g, rfl, hgb, hown⟩
          · simp at hnil
          obtain ⟨bq, oq, hbq, hgz, hgc⟩ := hown.row.p2 (k := n) (by rw [hln]; omega)
          injection hbq with hbq
          injection hbq with hb1 hb2
          subst hb1 hb2
          have hlp : (S ++ [p])[n]'(by rw [hln]; omega) = p := by subst hn; simp
          have hgc2 := hgc _ (Ext.rfl' wr)
          rw [hlp, Nat.zero_add] at hgc2
          obtain ⟨d1, d2⟩ := hgc2
          rw [hln] at hv
          subst hv
          have cn := hA.r2 hlast _ hEw
          obtain ⟨e1, e2⟩ := cn
          have hokn := (okM_iff _).1 (hG.ok (k + 1) hlast)
          have hgn := gt_lt l (k + 1) hlast
          rw [hgn] at hokn
          have hokp := (okM_iff _).1 hpm
          have HST := Lib.hid (fun r (hr : str3 ⟨p.x, p.y⟩ ⟨l[k].x, l[k].y⟩ ⟨l[k + 1].x, l[k + 1].y⟩ = r) w => hr ▸ tstraight_c p.x p.y l[k].x l[k].y l[k + 1].x l[k + 1].y w hokp.1 ⟨o1, o2⟩ hokn.1 hokp.2 ⟨o3, o4⟩ hokn.2)
          have HKE := Lib.hid (fun hs => hSL.out.trans (congrArg (fun z => S ++ [p] ++ z) (kp_keep p l k hlt hlast hs)))
          have HDR := Lib.hid (fun hs => hSL.out.trans (congrArg (fun z => S ++ [p] ++ z) (kp_drop p l k hlt hlast hs)))
          have HOK := Lib.hid hokm
          have hlz : (k : Int) < (l.length : Int) - 1 := by omega
          have hkz1 : (k : Int) + 1 < (l.length : Int) := by omega
          have k1 : (0 : Int) < (k : Int) := by omega
          clear hgk hokm hSL hgc hown hlp hokn hgn hokp
          generalize l[k + 1] = q at *
          generalize l[k] = m at *
          obtain ⟨px, py⟩ := m
          obtain ⟨qx, qy⟩ := q
          obtain ⟨ux, uy⟩ := p
          dsimp only at *
          go_upto_region 9 with fail
          refine wp_name (fun W hW => ?_)
          have hEW : Ext wr W := by rw [hW]; exact Ext.al (Ext.rfl' _) _
          have m0 : W.cell? ⟨wr.heap.size, 0, none⟩ = some (.int .i64 px) := by rw [hW]; simp [go_sem]
          have m1 : W.cell? ⟨wr.heap.size, 1, none⟩ = some (.int .i64 py) := by rw [hW]; simp [go_sem]
          have hzW : wr.heap.size < W.heap.size := by rw [hW]; simp
          have d1' := (hEW.ccell _ _ hgz).trans d1
          have d2' := (hEW.ccell _ _ hgz).trans d2
          have e1' := (hEW.ccell _ _ hzb).trans e1
          have e2' := (hEW.ccell _ _ hzb).trans e2
          have g3' := (hEW.ccell _ _ hzr).trans g3
          have hgW := hEW.sz _ hgz
          have hbW := hEW.sz _ hzb
          have hwW := hEW.sz _ hzr
          clear d1 d2 e1 e2 g0 g1 g2 g3 c1 c2 hW
          cases hst : str3 ⟨ux, uy⟩ ⟨px, py⟩ ⟨qx, qy⟩
          · have HS3 := Lib.hid (HST.out false hst)
            have HS2 := Lib.hid (HKE.out hst)
            clear hst HST HKE HDR
            refine region_grow (by kernel_rfl) (by kernel_rfl) ?_
            repeat (first | go_big_quiet_step (first | (go_at_call 91; with_reducible exact callsGrow (HS3.out _)) | fail) | quiet_step (first | (go_at_call 91; with_reducible exact callsGrow (HS3.out _)) | fail))
            refine wpQuiet_nil ?_
            intro w1 hb
            have hc := hb.ccell
            have hf := hb.frz
            have hs := hb.sz
            (try simp at hs); (try have hs0 := hs w.heap.size (by omega)); (try have hs1 := hs (w.heap.size + 1) (by omega)); (try have hs2 := hs (w.heap.size + 1 + 1) (by omega)); (try have hs3 := hs (w.heap.size + 1 + 1 + 1) (by omega))
            (try simp only [IntWalk.i64_left])
            have hX3 : Ext wq w1 := hE.tr (hEW.tr hb)
            have HO3 := Lib.hid (ownsRow_ext HO.out (hEW.tr hb))
            have hsz3 := hX3.size
            obtain ⟨i0, hi, hzi0, hzi1, hzi2⟩ := info_parts infoM
            go_wp2_with (first | (at_builtin; refine wpList_append_own _ rfl _ _ 22 rfl wq.heap.size 89 i0 _ 2 16 Try.underlying22 hi hzi0 hzi1 hzi2 rfl (by decide) _ _ _ rfl (World.ownsRow.alloc HO3.out _) ⟨_, 0, none⟩ 1 1 [.int .i64 px, .int .i64 py] rfl rfl ?_ ?_ ?_ ?_ ?_ ?_))
            any_goals first | (exact two_new _ _ _ _; done) | (intro u hu; simp at hu; rcases hu with rfl | rfl <;> rfl) | (exact ⟨rfl, rfl⟩) | (unfold maxLen; omega) | omega | (simp; omega)
            intro v' w4 hown4 hgrow4 _
            clear hi hzi0 hzi1 hzi2
            have hlt4 := World.ownsRow.lt HO3.out
            have hE4 : Ext wq w4 := Below.grown (Ext.al hX3 _) hgrow4 (by have := hX3.size; simp; omega) (by intro q hq; exact (hlt4 q hq).1)
            go_wp2
            refine ⟨⟨hE4, k + 1, by omega, by go_num, S ++ [(⟨ux, uy⟩ : Pt)] ++ [(⟨px, py⟩ : Pt)], by simp [hn] at hOl ⊢; omega, ?_, .inr ⟨by omega, S ++ [(⟨ux, uy⟩ : Pt)], (⟨px, py⟩ : Pt), rfl, HOK.out, ?_⟩⟩, by simp [intOf]; omega⟩
            · show w4.ownsRow _ _ _ _ _ _
              have e3 : (S ++ [(⟨ux, uy⟩ : Pt)] ++ [(⟨px, py⟩ : Pt)]).length = n + 1 + 1 := by simp [hn]
              have e4 : (S ++ [(⟨ux, uy⟩ : Pt)] ++ [(⟨px, py⟩ : Pt)]).flatMap encP = (S ++ [(⟨ux, uy⟩ : Pt)]).flatMap encP ++ [.int .i64 px, .int .i64 py] := by simp [encP]
              rw [e3, e4]
              have h9 := hown4
              (try rw [hln] at h9)
              first | exact h9 | (simpa [encP] using h9)
            · show simL l = _
              rw [HS2.out]; simp
          · have HS3 := Lib.hid (HST.out true hst)
            have HS2 := Lib.hid (HDR.out hst)
            clear hst HST HKE HDR
            refine region_grow (by kernel_rfl) (by kernel_rfl) ?_
            repeat (first | go_big_quiet_step (first | (go_at_call 91; with_reducible exact callsGrow (HS3.out _)) | fail) | quiet_step (first | (go_at_call 91; with_reducible exact callsGrow (HS3.out _)) | fail))
            refine wpQuiet_nil ?_
            intro w1 hb
            have hc := hb.ccell
            have hf := hb.frz
            have hs := hb.sz
            (try simp at hs); (try have hs0 := hs w.heap.size (by omega)); (try have hs1 := hs (w.heap.size + 1) (by omega)); (try have hs2 := hs (w.heap.size + 1 + 1) (by omega)); (try have hs3 := hs (w.heap.size + 1 + 1 + 1) (by omega))
            (try simp only [IntWalk.i64_left])
            have hX3 : Ext wq w1 := hE.tr (hEW.tr hb)
            have HO3 := Lib.hid (ownsRow_ext HO.out (hEW.tr hb))
            go_wp2
            exact ⟨⟨hX3, k + 1, by omega, by go_num, S ++ [(⟨ux, uy⟩ : Pt)], by simp [hn]; omega, HO3, .inr ⟨by omega, S, (⟨ux, uy⟩ : Pt), rfl, hpm, HS2.out⟩⟩, by simp [intOf]; omega⟩
    · have hkl : k = l.length := by omega
      have hsim : O = simL l := by
        rcases hcase with ⟨hk0, hOn⟩ | ⟨hk0, S, p, hOS, hpm, hSL⟩
        · have : l = [] := List.eq_nil_of_length_eq_zero (by omega)
          subst this
          exact hOn
        · rw [hSL.out, kp_end p l k (by omega), hOS]; simp
      subst hsim
      clear hcase
      obtain ⟨g0, g1, g2, g3⟩ := Fo.all (HK.out.2.2.1.ext hE hz0)
      obtain ⟨q0, q1, q2, q3⟩ := Fo.all (HK.out.2.1.ext hE hs1)
      have yf := fun o => (hE.frz _ o hs1).trans (HK.out.2.2.2.1 o)
      have z1 := hE.sz _ hs1
      have KZ := Lib.hid (HK.out.2.1.ext hE hs1)
      obtain ⟨A', c', hv, hO3⟩ := own_cases hO.out
      subst hv
      have HO := Lib.hid hO3
      have hkn : ¬ (k : Int) < (l.length : Int) := by omega
      clear hO hO3
      go_wp2_with (first | (go_at_call 87; with_reducible refine Calls.mono (HRC.out _ _ _ _) ?_; rintro e w3 ⟨rfl, hb⟩; have hc := hb.ccell; have hf := hb.frz))
      have hE3 : Ext w w3 := hEw.tr hb
      have kz := KZ.out.ext hb z1
      have hR4 : Row 2 encP (st4 w3 (w.heap.size + 1) (.string s) (.int .i64 x) (.int .i64 er) (.slice A' (simL l).length c')) A' (simL l) := by
        rcases HO.out with h | ⟨g, rfl, hg, ho⟩
        · left; exact h
        · exact ((ho.ext hb).st4 (by omega) _ _ _ _).row
      have hS4 := Fo.store (w := w3) (b := w.heap.size + 1) kz (.string s) (.int .i64 x) (.int .i64 er) (.slice A' (simL l).length c')
      have hX4 := Ext.store4 (b := w.heap.size + 1) hE3 (by omega) (.string s) (.int .i64 x) (.int .i64 er) (.slice A' (simL l).length c')
      show bodyPost _ _ _ _ _ (st4 w3 (w.heap.size + 1) (.string s) (.int .i64 x) (.int .i64 er) (.slice A' (simL l).length c'))
      generalize st4 w3 (w.heap.size + 1) (.string s) (.int .i64 x) (.int .i64 er) (.slice A' (simL l).length c') = W6 at hS4 hX4 hR4 ⊢
      obtain ⟨s0, s1, s2, s3⟩ := hS4
      refine bodyPost_ret (v := .tuple #[.agg #[.string s, .int .i64 x, .int .i64 er, .slice A' (simL l).length c'], .int .i64 0]) (by simp [results, Try.results51, go_sem, s0, s1, s2, s3]) rfl ⟨.inl ⟨rfl, A', c', rfl, hR4⟩, hX4⟩
end Go.Proofs.Ytblmljcgjibfgaa

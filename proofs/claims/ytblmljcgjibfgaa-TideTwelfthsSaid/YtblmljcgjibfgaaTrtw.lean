/- The contract of the reference's Twelfths. -/
import Derived.Test.YtblmljcgjibfgaaTtw2
namespace Go.Proofs.Ytblmljcgjibfgaa
open Go Go.RowKit Go.IntWalk Go.Shelf

/-- The marks after i of them. -/
def rtw (l : List Pt) : Nat → List Pt
  | 0 => []
  | i + 1 => if i + 1 < l.length then addS (gt l i) (gt l (i + 1)) (rtw l i ++ [gt l i]) 5 else rtw l i ++ [gt l i]
theorem rtw_tw (l : List Pt) : ∀ i, i < l.length → rtw l i ++ [gt l i] = twL l (i + 1)
  | 0, _ => by rw [rtw, twL, twL, if_neg (by omega)]
  | i + 1, h => by
    rw [rtw, if_pos h, rtw_tw l i (by omega), show twL l (i + 1 + 1) = (if 0 < i + 1 then addS (gt l (i + 1 - 1)) (gt l (i + 1)) (twL l (i + 1)) 5 else twL l (i + 1)) ++ [gt l (i + 1)] from rfl, if_pos (by omega), Nat.add_sub_cancel]
theorem rtw_last (l : List Pt) (h : 0 < l.length) : rtw l l.length = twL l l.length := by
  obtain ⟨i, hi⟩ : ∃ i, l.length = i + 1 := ⟨l.length - 1, by omega⟩
  rw [hi, rtw, if_neg (by omega), rtw_tw l i (by omega)]
def litP : Obj := .cells #[.int .i64 0, .int .i64 1, .int .i64 3, .int .i64 6, .int .i64 9, .int .i64 11] 117
theorem part_cell (w : World) (k : Nat) (hk : k < 5) : (w.alloc litP).cell? ⟨w.heap.size, k + 1, none⟩ = some (.int .i64 (tw k)) := by
  unfold litP
  match k, hk with
  | 0, _ => simp [go_sem, tw]
  | 1, _ => simp [go_sem, tw]
  | 2, _ => simp [go_sem, tw]
  | 3, _ => simp [go_sem, tw]
  | 4, _ => simp [go_sem, tw]
theorem keepU {W w' : World} {b0 b1 b2 : Nat} (h : Ext W w') (h0 : b0 < W.heap.size) (h1 : b1 < W.heap.size) (h2 : b2 < W.heap.size) : (∀ j : Nat, w'.cell? ⟨b0, j, none⟩ = W.cell? ⟨b0, j, none⟩) ∧ (∀ j : Nat, w'.cell? ⟨b1, j, none⟩ = W.cell? ⟨b1, j, none⟩) ∧ (∀ j : Nat, w'.cell? ⟨b2, j, none⟩ = W.cell? ⟨b2, j, none⟩) ∧ Ext W w' :=
  ⟨fun j => h.ccell _ j h0, fun j => h.ccell _ j h1, fun j => h.ccell _ j h2, h⟩
set_option maxHeartbeats 4000000 in
set_option maxRecDepth 100000 in
theorem rtwelfths_c (s : ByteArray) (x er : Int) (l : List Pt) (w : World) (A : Option Addr) (c : Nat) (hl : l.length ≤ 1000) (hA : Row 2 encP w A l) :
    Calls Try.prog 55 #[.agg #[.string s, .int .i64 x, .int .i64 er, .slice A l.length c]] w
      fun e w' => GaOut s x er (twL l l.length) (twE s x er l) e w' ∧ Ext w w' := by
  have HC := Lib.hid (fun w' (hw : Ext w w') => rcheckGauge_c s x er l w' A c hl (hA.ext hw))
  unfold twE
  by_cases h0 : gaugeE s x er l = 0
  case neg =>
    rw [if_pos h0]
    generalize gaugeE s x er l = r at *
    have h' : (r == 0) = false := by simp [h0]
    go_enter Try.func55, Try.ntmps55
    go_wp2_with (first | (go_at_call 18; with_reducible refine Calls.mono (HC.out _ (by (repeat (first | with_reducible exact Ext.rfl' _ | with_reducible assumption | with_reducible refine Ext.al ?_ _ | with_reducible refine Ext.dr ?_ | with_reducible refine Ext.st ?_ (by simp) _ | with_reducible refine Ext.tr ?_ (by assumption))))) ?_; rintro e w1 ⟨rfl, hb⟩; have hc := hb.ccell; have hf := hb.frz; have hs := hb.sz; (try simp at hs); (try have hs0 := hs w.heap.size (by omega)); (try have hs1 := hs (w.heap.size + 1) (by omega)); (try have hs2 := hs (w.heap.size + 1 + 1) (by omega)); (try have hs3 := hs (w.heap.size + 1 + 1 + 1) (by omega))))
    have hE : Ext w w1 := by (repeat (first | with_reducible exact Ext.rfl' _ | with_reducible assumption | with_reducible refine Ext.al ?_ _ | with_reducible refine Ext.dr ?_ | with_reducible refine Ext.st ?_ (by simp) _ | with_reducible refine Ext.tr ?_ (by assumption)))
    have kz : Fo w1 (w.heap.size + 1) (.string ⟨#[]⟩) (.int .i64 0) (.int .i64 0) (.slice none 0 0) := by refine ⟨?_, ?_, ?_, ?_⟩ <;> simp [*, go_sem]
    have hS4 := Fo.store (w := w1) (b := w.heap.size + 1) kz (.string ⟨#[]⟩) (.int .i64 0) (.int .i64 0) (.slice none 0 0)
    have hX4 := Ext.store4 (b := w.heap.size + 1) hE (by omega) (.string ⟨#[]⟩) (.int .i64 0) (.int .i64 0) (.slice none 0 0)
    show bodyPost _ _ _ _ _ (st4 w1 (w.heap.size + 1) (.string ⟨#[]⟩) (.int .i64 0) (.int .i64 0) (.slice none 0 0))
    generalize st4 w1 (w.heap.size + 1) (.string ⟨#[]⟩) (.int .i64 0) (.int .i64 0) (.slice none 0 0) = W6 at hS4 hX4 ⊢
    obtain ⟨s0, s1, s2, s3⟩ := hS4
    refine bodyPost_ret (v := .tuple #[.agg #[.string ⟨#[]⟩, .int .i64 0, .int .i64 0, .slice none 0 0], .int .i64 r]) (by simp [results, Try.results55, go_sem, s0, s1, s2, s3]) rfl ⟨.inr ⟨h0, rfl⟩, hX4⟩
  obtain ⟨_, _, he, hG⟩ := gaugeE_zero h0
  rw [if_neg (by rw [h0]; simp)]
  rw [h0] at HC
  have HRC := Lib.hid (fun w A' n' c' => rwith_c s x er A A' l.length c n' c' w)
  obtain ⟨R, hR⟩ : ∃ R, twL l l.length = R := ⟨_, rfl⟩
  rw [hR]
  obtain ⟨Z, hZ⟩ : ∃ Z : Int, (if 400 < R.length then 8 else 0) = Z := ⟨_, rfl⟩
  rw [hZ]
  have HR := Lib.hid hR
  have HZ := Lib.hid hZ
  have hRl := twL_len l l.length
  rw [hR] at hRl
  clear hR hZ
  go_enter Try.func55, Try.ntmps55
  go_wp2_with (first | (go_at_call 18; with_reducible refine Calls.mono (HC.out _ (by (repeat (first | with_reducible exact Ext.rfl' _ | with_reducible assumption | with_reducible refine Ext.al ?_ _ | with_reducible refine Ext.dr ?_ | with_reducible refine Ext.st ?_ (by simp) _ | with_reducible refine Ext.tr ?_ (by assumption))))) ?_; rintro e wq ⟨rfl, hb⟩; have hc := hb.ccell; have hf := hb.frz; have hs := hb.sz; (try simp at hs); (try have t0 := hs (w.heap.size) (by first | assumption | omega)); (try have t1 := hs (w.heap.size + 1) (by first | assumption | omega)); (try have t2 := hs (w.heap.size) (by first | assumption | omega)); (try have t3 := hs (w.heap.size) (by first | assumption | omega)); (try have t4 := hs (w.heap.size) (by first | assumption | omega)); (try have t5 := hs (w.heap.size) (by first | assumption | omega))))
  have hE1 : Ext w wq := by (repeat (first | with_reducible exact Ext.rfl' _ | with_reducible assumption | with_reducible refine Ext.al ?_ _ | with_reducible refine Ext.dr ?_ | with_reducible refine Ext.st ?_ (by simp) _ | with_reducible refine Ext.tr ?_ (by assumption)))
  have kz : Fo wq (w.heap.size + 1) (.string ⟨#[]⟩) (.int .i64 0) (.int .i64 0) (.slice none 0 0) := by refine ⟨?_, ?_, ?_, ?_⟩ <;> simp [*, go_sem]
  have gz : Fo wq w.heap.size (.string s) (.int .i64 x) (.int .i64 er) (.slice A l.length c) := by refine ⟨?_, ?_, ?_, ?_⟩ <;> simp [*, go_sem]
  have fz : ∀ o, wq.frozen? ⟨w.heap.size + 1, o, none⟩ = false := by intro o; simp [*, go_sem]
  have hs1 : w.heap.size + 1 < wq.heap.size := t1
  have HK := Lib.hid (And.intro hE1 (And.intro kz (And.intro gz (And.intro fz hs1))))
  clear kz gz fz hc hf hs hb HC h0 t0 t1 t2 t3 t4 t5
  have hEp : Ext wq (wq.alloc (.cells #[.int .i64 0, .int .i64 1, .int .i64 3, .int .i64 6, .int .i64 9, .int .i64 11] 117)) := by (repeat (first | with_reducible exact Ext.rfl' _ | with_reducible assumption | with_reducible refine Ext.al ?_ _ | with_reducible refine Ext.dr ?_ | with_reducible refine Ext.st ?_ (by simp) _ | with_reducible refine Ext.tr ?_ (by assumption)))
  have hpc := fun k hk => part_cell wq k hk
  unfold litP at hpc
  have hzp : wq.heap.size < (wq.alloc (.cells #[.int .i64 0, .int .i64 1, .int .i64 3, .int .i64 6, .int .i64 9, .int .i64 11] 117)).heap.size := by simp
  generalize wq.alloc (.cells #[.int .i64 0, .int .i64 1, .int .i64 3, .int .i64 6, .int .i64 9, .int .i64 11] 117) = wp at *
  have HPC := Lib.hid (And.intro hEp (And.intro hpc hzp))
  clear hpc
  go_loopw [6, 7, 8, 9, 10, 11] (fun vl v _ _ _ _ wr => Ext wp wr ∧ ∃ i : Nat, i ≤ l.length ∧ v = .int .i64 i ∧ ∃ A' c', vl = .slice A' (rtw l i).length c' ∧ Hid (wr.ownsRow wp.heap.size 89 2 (.slice A' (rtw l i).length c') (rtw l i).length ((rtw l i).flatMap encP))) (fun _ v _ _ _ _ _ => l.length - (intOf v).toNat)
  case atStart => exact ⟨Ext.rfl' _, 0, Nat.zero_le _, rfl, none, 0, rfl, World.ownsRow_nil _ _ _ _⟩
  case round =>
    obtain ⟨hEP, i, hi, rfl, A', c', rfl, hO⟩ := hrel
    have hE := HPC.out.1.tr hEP
    have hEw : Ext w wr := hE1.tr hE
    have hszp := hEP.size
    have hzpr := hEP.sz _ HPC.out.2.2
    have hz0 : w.heap.size < wq.heap.size := by omega
    have hzr := hE.sz _ hz0
    by_cases hlt : i < l.length
    · obtain ⟨b, off, rfl, hb0, hcell⟩ := hA.p2 hlt
      obtain ⟨c1, c2⟩ := hcell _ hEw
      have HCE := Lib.hid hcell
      clear hcell
      have hzb := hEw.sz _ hb0
      have hgi := gt_lt l i hlt
      have hoki := hG.ok i hlt
      obtain ⟨g0, g1, g2, g3⟩ := Fo.all (HK.out.2.2.1.ext hE hz0)
      have hsz := hE.size
      have htw := rtw_tw l i hlt
      have hlen := twL_len l (i + 1)
      have hln : (rtw l i).length + 1 = (twL l (i + 1)).length := by rw [← htw]; simp
      rw [hgi] at hoki htw
      have HTW := Lib.hid (And.intro htw hln)
      have hn6 : (rtw l i).length ≤ 6000 := by omega
      clear htw hln hlen hgi
      obtain ⟨S, hS⟩ : ∃ S, rtw l i = S := ⟨_, rfl⟩
      rw [hS] at hO hn6 HTW ⊢
      obtain ⟨n, hn⟩ : ∃ n, S.length = n := ⟨_, rfl⟩
      rw [hn] at hO hn6 HTW ⊢
      have HN := Lib.hid (And.intro hS hn)
      clear hS hn
      obtain ⟨px, hpx⟩ : ∃ p, l[i].x = p := ⟨_, rfl⟩
      obtain ⟨py, hpy⟩ : ∃ p, l[i].y = p := ⟨_, rfl⟩
      rw [hpx] at c1
      rw [hpy] at c2
      have HP := Lib.hid (And.intro hpx hpy)
      clear hpx hpy
      have HLT := Lib.hid (World.ownsRow.lt hO.out)
      obtain ⟨i0, hi0, hzi0, hzi1, hzi2⟩ := info_parts infoM
      go_wp2_with (first | (at_builtin; refine wpList_append_own_at _ rfl _ _ 22 rfl wp.heap.size 89 i0 _ 2 16 Try.underlying22 hi0 hzi0 hzi1 hzi2 rfl (by decide) _ _ _ rfl (World.ownsRow.alloc (World.ownsRow.alloc hO.out _) _) ⟨_, 0, none⟩ 1 1 [.int .i64 px, .int .i64 py] rfl rfl ?_ ?_ ?_ ?_ ?_ ?_))
      any_goals first | (exact two_new _ _ _ _; done) | (exact two_twl _ _ (by simp) _ _ _) | (intro u hu; simp at hu; rcases hu with rfl | rfl <;> rfl) | (exact ⟨rfl, rfl⟩) | (unfold maxLen; omega) | omega | (simp; omega)
      intro v' w4 hown4 hgrow4 _ hloc4
      have hE4 : Ext wp w4 := Below.grown (Ext.al (Ext.al hEP _) _) hgrow4 (by simp; omega) (by intro q hq; exact (HLT.out q hq).1)
      have ha0 : w4.cell? ⟨wr.heap.size, 0, none⟩ = some (.int .i64 px) := World.grownBy.cell hgrow4 (by simp [World.cell?_alloc_past, go_sem]) (fun e9 => by have h7 := (HLT.out _ e9.symm).2; simp at h7)
      have ha1 : w4.cell? ⟨wr.heap.size, 1, none⟩ = some (.int .i64 py) := World.grownBy.cell hgrow4 (by simp [World.cell?_alloc_past, go_sem]) (fun e9 => by have h7 := (HLT.out _ e9.symm).2; simp at h7)
      have hza : wr.heap.size < w4.heap.size := by have := hgrow4.size; simp at this; omega
      have hown5 : w4.ownsRow wp.heap.size 89 2 v' (twL l (i + 1)).length ((twL l (i + 1)).flatMap encP) := by
        obtain ⟨h1, h2⟩ := HTW.out
        have h3 : (twL l (i + 1)).flatMap encP = S.flatMap encP ++ [.int .i64 px, .int .i64 py] := by rw [← h1, List.flatMap_append]; simp [encP, HP.out.1, HP.out.2]
        rw [← h2, h3]
        exact hown4
      have hnb : ∀ j, v'.ownBlock = some j → j ≠ wr.heap.size := by
        intro j hj
        rcases hloc4 with h | h
        · rw [h] at hj; have := (HLT.out j hj).2; omega
        · rw [h] at hj; injection hj with hj; first | omega | (simp at hj; omega)
      obtain ⟨A5, c5, hv5, _⟩ := own_cases hown5
      subst hv5
      obtain ⟨ba, hba⟩ : ∃ ba, wr.heap.size = ba := ⟨_, rfl⟩
      rw [hba] at ha0 ha1 hza hnb ⊢
      have HO5 := Lib.hid hown5
      have HNB := Lib.hid hnb
      have HBA := Lib.hid hba
      clear hown4 hgrow4 hloc4 hown5 hnb hba hO c1 c2 hi0 hzi0 hzi1 hzi2 g0 g1 g2 g3
      go_wp2
      go_loopw [6, 9, 10, 11] (fun vl v _ _ wx => Ext wp wx ∧ ∃ j : Nat, j ≤ 5 ∧ (j = 0 ∨ i + 1 < l.length) ∧ v = .int .i64 ((j : Int) + 1) ∧ ∃ A2 c2, vl = .slice A2 (addS (gt l i) (gt l (i + 1)) (twL l (i + 1)) j).length c2 ∧ Hid (wx.ownsRow wp.heap.size 89 2 (.slice A2 (addS (gt l i) (gt l (i + 1)) (twL l (i + 1)) j).length c2) (addS (gt l i) (gt l (i + 1)) (twL l (i + 1)) j).length ((addS (gt l i) (gt l (i + 1)) (twL l (i + 1)) j).flatMap encP)) ∧ Two wx ba px py ∧ ba < wx.heap.size ∧ Hid (∀ q, (Value.slice A2 (addS (gt l i) (gt l (i + 1)) (twL l (i + 1)) j).length c2).ownBlock = some q → q ≠ ba)) (fun _ v _ _ _ => 6 - (intOf v).toNat)
      case atStart => exact ⟨hE4, 0, by omega, .inl rfl, rfl, A5, c5, rfl, HO5.out, ⟨ha0, ha1⟩, hza, HNB.out⟩
      case round =>
        clear ha0 ha1 hza
        obtain ⟨hx, j, hj, hji, rfl, A2, c2, rfl, hO, ⟨ha0, ha1⟩, hza, hnb⟩ := hrel
        have hEq : Ext wq wr := HPC.out.1.tr hx
        have hExw : Ext w wr := hE1.tr hEq
        obtain ⟨g0, g1, g2, g3⟩ := Fo.all (HK.out.2.2.1.ext hEq hz0)
        have hzr2 := hEq.sz _ hz0
        have hszx := hx.size
        have hai := addS_len (gt l i) (gt l (i + 1)) (twL l (i + 1)) j
        have htl := twL_len l (i + 1)
        have hl4 := hG.len
        by_cases hin : i + 1 < l.length
        case neg =>
          have e : addS (gt l i) (gt l (i + 1)) (twL l (i + 1)) j = rtw l (i + 1) := by
            have h0 : j = 0 := by rcases hji with h | h; exact h; exact absurd h hin
            rw [h0, addS, rtw, if_neg hin, rtw_tw l i hlt]
          rw [e] at hO ⊢
          have hini : ¬ (i : Int) + 1 < (l.length : Int) := by omega
          clear e hai htl hnb ha0 ha1
          go_wp2
          all_goals exact ⟨⟨hx, i + 1, by omega, by go_num, A2, c2, rfl, hO⟩, by simp [intOf]; omega⟩
        by_cases hj5 : j < 5
        case neg =>
          have e : addS (gt l i) (gt l (i + 1)) (twL l (i + 1)) j = rtw l (i + 1) := by
            have h0 : j = 5 := by omega
            rw [h0, rtw, if_pos hin, rtw_tw l i hlt]
          rw [e] at hO ⊢
          have hj6 : ¬ (j : Int) + 1 ≤ 5 := by omega
          clear e hai htl hnb ha0 ha1
          go_wp2
          exact ⟨⟨hx, i + 1, by omega, by go_num, A2, c2, rfl, hO⟩, by simp [intOf]; omega⟩
        have hini : (i : Int) + 1 < (l.length : Int) := by omega
        have hjb : 0 ≤ (j : Int) + 1 := by omega
        have hjb2 : (j : Int) + 1 < 6 := by omega
        have hj6 : (j : Int) + 1 ≤ 5 := by omega
        obtain ⟨e0, e1⟩ := hA.r2 hin _ hExw
        have hzbx := hExw.sz _ hb0
        have pj := (hx.ccell wq.heap.size (j + 1) HPC.out.2.2).trans (HPC.out.2.1 j hj5)
        have hzpx := hx.sz _ HPC.out.2.2
        have hgi := gt_lt l i hlt
        have hgi1 := gt_lt l (i + 1) hin
        obtain ⟨hpx, hpy⟩ := HP.out
        have ok0 := (okM_iff _).1 (hG.ok i hlt)
        have ok1 := (okM_iff _).1 (hG.ok (i + 1) hin)
        have hasc := hG.asc i hin
        have hst := addS_succ (gt l i) (gt l (i + 1)) (twL l (i + 1)) j
        have hsx : sixth (gt l i) (gt l (i + 1)) j = ⟨px + ((j : Int) + 1) * (l[i + 1].x - px) / 6, py + tw j * (l[i + 1].y - py) / 12⟩ := by unfold sixth; rw [hgi, hgi1, hpx, hpy]
        rw [hsx] at hst
        rw [hgi, hpx, hpy] at ok0
        rw [hgi1] at ok1
        rw [hgi, hgi1, hpx] at hasc
        have HST := Lib.hid hst
        have t1 := tw_bd j
        clear hgi hgi1 hpx hpy hst hsx
        generalize addS (gt l i) (gt l (i + 1)) (twL l (i + 1)) j = O at *
        generalize l[i + 1].x = bx at *
        generalize l[i + 1].y = b_y at *
        generalize tw j = tk at *
        obtain ⟨U, p, rfl⟩ : ∃ U p, O = U ++ [p] := ⟨O.dropLast, O.getLast (by intro e; have h9 := congrArg List.length e; rw [List.length_nil] at h9; omega), (List.dropLast_concat_getLast _).symm⟩
        rw [lastX_app] at HST
        obtain ⟨m, hm⟩ : ∃ m, U.length = m := ⟨_, rfl⟩
        have hlU : (U ++ [p]).length = m + 1 := by simp [hm]
        rw [hlU] at hO hai hnb ⊢
        obtain ⟨A3, c3, hv, hg2⟩ := own_cases (by rw [hlU]; exact hO.out)
        injection hv with k1 k2 k3
        clear k2
        subst k1 k3
        rcases hg2 with hnil | ⟨g2', rfl, hgb2, hown2⟩
        · simp at hnil
        obtain ⟨b2, o2, hb2, hgz2, hgc2⟩ := hown2.row.p2 (k := m) (by rw [hlU]; omega)
        injection hb2 with hb2
        injection hb2 with hb3 hb4
        subst hb3 hb4
        have hlp2 : (U ++ [p])[m]'(by rw [hlU]; omega) = p := by subst hm; simp
        obtain ⟨l0, l1⟩ := hgc2 _ (Ext.rfl' _)
        rw [hlp2, Nat.zero_add] at l0 l1
        clear hgc2 hown2 hlp2
        obtain ⟨⟨x0, x1⟩, x2, x3⟩ := ok0
        obtain ⟨⟨x4, x5⟩, x6, x7⟩ := ok1
        obtain ⟨t1, t2⟩ := t1
        have m1 := mul_bound (x := (j : Int) + 1) (y := bx - px) (M := 10) (N := 1000000) (by omega) (by omega) (by omega) (by omega)
        have m2 := mul_bound (x := tk) (y := b_y - py) (M := 20) (N := 40000) (by omega) (by omega) (by omega) (by omega)
        have m3 : 0 ≤ ((j : Int) + 1) * (bx - px) := Int.mul_nonneg (by omega) (by omega)
        have q1 : 0 ≤ ((j : Int) + 1) * (bx - px) / 6 ∧ ((j : Int) + 1) * (bx - px) / 6 ≤ 2000000 := by omega
        have q2 : -100000 ≤ tk * (b_y - py) / 12 ∧ tk * (b_y - py) / 12 ≤ 100000 := by omega
        have HQ2 := Lib.hid (fun w => down_c (tk * (b_y - py)) 12 w (by omega) (by omega) (by omega) (by omega))
        have w3 : IntKind.i64.wrap (((j : Int) + 1) * (bx - px)) = ((j : Int) + 1) * (bx - px) := i64_in _ (by omega)
        have w4 : IntKind.i64.wrap (tk * (b_y - py)) = tk * (b_y - py) := i64_in _ (by omega)
        have w7 : (((j : Int) + 1) * (bx - px)).tdiv 6 = ((j : Int) + 1) * (bx - px) / 6 := Int.tdiv_eq_ediv_of_nonneg m3
        have w8 : IntKind.i64.wrap (((j : Int) + 1) * (bx - px) / 6) = ((j : Int) + 1) * (bx - px) / 6 := i64_in _ (by omega)
        have W34 := Lib.hid (And.intro w3 (And.intro w4 (And.intro w7 w8)))
        clear w3 w4 w7 w8 m1 m2 m3
        generalize ((j : Int) + 1) * (bx - px) / 6 = Q1 at *
        generalize tk * (b_y - py) / 12 = Q2 at *
        have w5 : IntKind.i64.wrap (px + Q1) = px + Q1 := i64_in _ (by omega)
        have w6 : IntKind.i64.wrap (py + Q2) = py + Q2 := i64_in _ (by omega)
        have w2 : IntKind.i64.wrap (b_y - py) = b_y - py := i64_in _ (by omega)
        have w1' : IntKind.i64.wrap (bx - px) = bx - px := i64_in _ (by omega)
        have W56 := Lib.hid (And.intro w1' (And.intro w2 (And.intro w5 w6)))
        have HLU := Lib.hid (And.intro hlU hm)
        clear w5 w6 w2 w1' hlU hm
        go_wp2
        refine wp_name (fun W hW => ?_)
        have hEW : Ext wr W := by rw [hW]; exact Ext.al (Ext.rfl' _) _
        have n0 : W.cell? ⟨wr.heap.size, 0, none⟩ = some (.int .i64 bx) := by rw [hW]; simp [go_sem]
        have n1 : W.cell? ⟨wr.heap.size, 1, none⟩ = some (.int .i64 b_y) := by rw [hW]; simp [go_sem]
        have hzW : wr.heap.size < W.heap.size := by rw [hW]; simp
        have a0 := (hEW.ccell _ _ hza).trans ha0
        have a1 := (hEW.ccell _ _ hza).trans ha1
        have p0 := (hEW.ccell _ _ hzpx).trans pj
        have l0' := (hEW.ccell _ _ hgz2).trans l0
        have hzaW := hEW.sz _ hza
        have hzpW := hEW.sz _ hzpx
        have hzgW := hEW.sz _ hgz2
        have HA01 := Lib.hid (And.intro ha0 (And.intro ha1 hza))
        have HEW := Lib.hid hEW
        clear hW l0 l1 ha0 ha1 pj e0 e1 g0 g1 g2 g3
        go_cut [11] (fun s8 wx => ∃ b2 : Nat, s8 = .pointer (some ⟨b2, 0, none⟩) ∧ Ext W wx ∧ b2 < wx.heap.size ∧ Two wx b2 (px + Q1) (py + Q2))
        case first =>
          obtain ⟨w3, w4, w7, w8⟩ := W34.out
          obtain ⟨w1', w2, w5, w6⟩ := W56.out
          clear hO hnb HST q1 q2 hgz2 hgb2 t1 t2 hai hzgW l0' hza hzpx hEW htl
          go_region_held3 (fun w' => (∀ j : Nat, w'.cell? ⟨ba, j, none⟩ = W.cell? ⟨ba, j, none⟩) ∧ (∀ j : Nat, w'.cell? ⟨wr.heap.size, j, none⟩ = W.cell? ⟨wr.heap.size, j, none⟩) ∧ (∀ j : Nat, w'.cell? ⟨wq.heap.size, j, none⟩ = W.cell? ⟨wq.heap.size, j, none⟩) ∧ Ext W w') ((refine keepU ?_ hzaW hzW hzpW; (repeat (first | with_reducible exact Ext.rfl' _ | with_reducible assumption | with_reducible refine Ext.al ?_ _ | with_reducible refine Ext.dr ?_ | with_reducible refine Ext.st ?_ (by simp) _)))) ((go_at_call 67; (with_reducible refine Calls.mono (HQ2.out _) ?_); rintro e w' ⟨rfl, rfl⟩))
          all_goals
            rename_i hJ hK h1 h2 hH
            clear hH
            refine h2 _ _ (Met.intro (h1 _ _ ?_))
            (repeat apply Exists.intro)
            refine ⟨?_, rfl⟩
            refine ⟨_, rfl, ?_, ?_, ?_, ?_⟩
            all_goals first | ((repeat (first | with_reducible exact Ext.rfl' _ | with_reducible assumption | with_reducible refine Ext.al ?_ _ | with_reducible refine Ext.dr ?_ | with_reducible refine Ext.st ?_ (by simp) _ | with_reducible refine Ext.tr ?_ (by assumption))); done) | (simp; done) | (simp; omega) | (simp [go_sem]; done) | (simp [World.cell?_alloc_past, World.cell?_alloc_new, go_sem]; done)
        case rest =>
          obtain ⟨b2, rfl, hx2, hb2, y0, y1⟩ := hcut
          have e0 := (hx2.ccell _ _ hzgW).trans l0'
          have hzg := hx2.sz _ hzgW
          have HX := Lib.hid (HEW.out.tr hx2)
          clear l0' hx2 a0 a1 p0 n0 n1 HQ2 hEW
          obtain ⟨wi, hwi⟩ : ∃ wi, wi = wr := ⟨_, rfl⟩
          subst hwi
          by_cases hlt2 : p.x < px + Q1
          · rw [if_pos hlt2] at HST
            obtain ⟨i0, hi0, hzi0, hzi1, hzi2⟩ := info_parts infoM
            go_wp2
            refine region_grow (by kernel_rfl) (by kernel_rfl) ?_
            repeat (first | go_big_quiet_step (first  | fail) | quiet_step (first  | fail))
            refine wpQuiet_nil ?_
            intro w1 hb
            have hc := hb.ccell
            have hf := hb.frz
            have hs := hb.sz
            (try simp at hs); (try have hs0 := hs w.heap.size (by omega)); (try have hs1 := hs (w.heap.size + 1) (by omega)); (try have hs2 := hs (w.heap.size + 1 + 1) (by omega)); (try have hs3 := hs (w.heap.size + 1 + 1 + 1) (by omega))
            (try simp only [IntWalk.i64_left])
            have HX2 := Lib.hid (HX.out.tr hb)
            have y0' := (hc _ _ hb2).trans y0
            have y1' := (hc _ _ hb2).trans y1
            have hb3 := hb.sz _ hb2
            have HO5 := Lib.hid (ownsRow_ext hO.out (HX.out.tr hb))
            have hz5 : wp.heap.size ≤ w1.heap.size := by have := HX2.out.size; omega
            have hz6 : wi.heap.size ≤ w1.heap.size := HX2.out.size
            clear hc hf hs hb y0 y1 hO
            go_wp2_with (first | (at_builtin; refine wpList_append_own_at _ rfl _ _ 22 rfl wp.heap.size 89 i0 _ 2 16 Try.underlying22 hi0 hzi0 hzi1 hzi2 rfl (by decide) _ _ _ rfl (World.ownsRow.alloc HO5.out _) ⟨_, 0, none⟩ 1 1 [.int .i64 (px + Q1), .int .i64 (py + Q2)] rfl rfl ?_ ?_ ?_ ?_ ?_ ?_))
            any_goals first | (exact two_new _ _ _ _; done) | (intro u hu; simp at hu; rcases hu with rfl | rfl <;> rfl) | (exact ⟨rfl, rfl⟩) | (unfold maxLen; omega) | omega | (simp; omega)
            intro v' w5 hown5 hgrow5 _ hloc
            clear hi0 hzi0 hzi1 hzi2
            have hXA : Ext wi (w1.alloc (.cells #[.int .i64 (px + Q1), .int .i64 (py + Q2)] 89)) := Ext.al HX2.out _
            have hne : some ba ≠ (Value.slice (some ⟨g2', 0, none⟩) (m + 1) c2).ownBlock := fun e9 => hnb.out _ e9.symm rfl
            have f0 : w5.cell? ⟨ba, 0, none⟩ = some (.int .i64 px) := World.grownBy.cell hgrow5 ((hXA.ccell _ _ HA01.out.2.2).trans HA01.out.1) hne
            have f1 : w5.cell? ⟨ba, 1, none⟩ = some (.int .i64 py) := World.grownBy.cell hgrow5 ((hXA.ccell _ _ HA01.out.2.2).trans HA01.out.2.1) hne
            have hz7 : ba < w5.heap.size := Nat.lt_of_lt_of_le (hXA.sz _ HA01.out.2.2) hgrow5.size
            have hlt5 := World.ownsRow.lt HO5.out
            have hE5 : Ext wp w5 := Below.grown (hx.tr hXA) hgrow5 (by have := (hx.tr hXA).size; simp at this ⊢; omega) (by intro q hq; exact (hlt5 q hq).1)
            have e3 : (U ++ [p] ++ [(⟨px + Q1, py + Q2⟩ : Pt)]).length = m + 1 + 1 := by have := HLU.out.2; simp; omega
            have e4 : (U ++ [p] ++ [(⟨px + Q1, py + Q2⟩ : Pt)]).flatMap encP = (U ++ [p]).flatMap encP ++ [.int .i64 (px + Q1), .int .i64 (py + Q2)] := by simp [encP]
            have hown6 : w5.ownsRow wp.heap.size 89 2 v' (U ++ [p] ++ [(⟨px + Q1, py + Q2⟩ : Pt)]).length ((U ++ [p] ++ [(⟨px + Q1, py + Q2⟩ : Pt)]).flatMap encP) := by rw [e3, e4]; first | exact hown5 | (simpa [encP] using hown5)
            obtain ⟨A5, c5, hv5, _⟩ := own_cases hown6
            subst hv5
            have hzb5 : ba < w1.heap.size := Nat.lt_of_lt_of_le HA01.out.2.2 hz6
            have hL5 : ∀ q, (Value.slice A5 (U ++ [p] ++ [(⟨px + Q1, py + Q2⟩ : Pt)]).length c5).ownBlock = some q → q ≠ ba := by
              intro q hq
              rcases hloc with h | h
              · rw [h] at hq; exact hnb.out q hq
              · rw [h] at hq
                injection hq with hq
                first | omega | (simp at hq; omega)
            clear hown5 hgrow5 hloc e3 e4 hlt5 hne hXA
            rw [← HST.out] at hown6 hL5 ⊢
            go_wp2
            exact ⟨⟨hE5, j + 1, by omega, .inr hin, by go_num, A5, c5, rfl, hown6, ⟨f0, f1⟩, hz7, hL5⟩, by simp [intOf]; omega⟩
          · rw [if_neg hlt2] at HST
            go_wp2
            refine region_grow (by kernel_rfl) (by kernel_rfl) ?_
            repeat (first | go_big_quiet_step (first  | fail) | quiet_step (first  | fail))
            refine wpQuiet_nil ?_
            intro w1 hb
            have hc := hb.ccell
            have hf := hb.frz
            have hs := hb.sz
            (try simp at hs); (try have hs0 := hs w.heap.size (by omega)); (try have hs1 := hs (w.heap.size + 1) (by omega)); (try have hs2 := hs (w.heap.size + 1 + 1) (by omega)); (try have hs3 := hs (w.heap.size + 1 + 1 + 1) (by omega))
            (try simp only [IntWalk.i64_left])
            have hX2 := HX.out.tr hb
            go_wp2
            have hO6 := ownsRow_ext hO.out hX2
            have hL6 := hnb.out
            rw [← HLU.out.1, ← HST.out] at hO6 hL6
            refine ⟨⟨hx.tr hX2, j + 1, by omega, .inr hin, by go_num, some ⟨g2', 0, none⟩, c2, ?_, hO6, ⟨(hX2.ccell _ _ HA01.out.2.2).trans HA01.out.1, (hX2.ccell _ _ HA01.out.2.2).trans HA01.out.2.1⟩, hX2.sz _ HA01.out.2.2, hL6⟩, by simp [intOf]; omega⟩
            rw [HST.out, HLU.out.1]
    · have hR2 : rtw l i = R := by
        have hkl : i = l.length := by omega
        rw [hkl, ← HR.out]
        rcases Nat.eq_zero_or_pos l.length with h | h
        · rw [h]; rfl
        · exact rtw_last l h
      rw [hR2] at hO ⊢
      clear hR2
      obtain ⟨g0, g1, g2, g3⟩ := Fo.all (HK.out.2.2.1.ext hE hz0)
      obtain ⟨q0, q1, q2, q3⟩ := Fo.all (HK.out.2.1.ext hE hs1)
      have yf := fun o => (hE.frz _ o hs1).trans (HK.out.2.2.2.1 o)
      have z1 := hE.sz _ hs1
      have KZ := Lib.hid (HK.out.2.1.ext hE hs1)
      obtain ⟨A2, c2, hv, hO3⟩ := own_cases hO.out
      injection hv with e1 e2 e3
      subst e1 e3
      clear e2
      have HO := Lib.hid hO3
      have hkn : ¬ (i : Int) < (l.length : Int) := by omega
      clear hO hO3
      by_cases hbig : 400 < R.length
      · have hz8 : Z = 8 := by rw [← HZ.out, if_pos hbig]
        subst hz8
        have hb' : (400 : Int) < (R.length : Int) := by omega
        go_wp2
        have kz := KZ.out
        have hS4 := Fo.store (w := wr) (b := w.heap.size + 1) kz (.string ⟨#[]⟩) (.int .i64 0) (.int .i64 0) (.slice none 0 0)
        have hX4 := Ext.store4 (b := w.heap.size + 1) hEw (by omega) (.string ⟨#[]⟩) (.int .i64 0) (.int .i64 0) (.slice none 0 0)
        show bodyPost _ _ _ _ _ (st4 wr (w.heap.size + 1) (.string ⟨#[]⟩) (.int .i64 0) (.int .i64 0) (.slice none 0 0))
        generalize st4 wr (w.heap.size + 1) (.string ⟨#[]⟩) (.int .i64 0) (.int .i64 0) (.slice none 0 0) = W6 at hS4 hX4 ⊢
        obtain ⟨s0, s1, s2, s3⟩ := hS4
        refine bodyPost_ret (v := .tuple #[.agg #[.string ⟨#[]⟩, .int .i64 0, .int .i64 0, .slice none 0 0], .int .i64 8]) (by simp [results, Try.results55, go_sem, s0, s1, s2, s3]) rfl ⟨.inr ⟨by decide, rfl⟩, hX4⟩
      · have hz8 : Z = 0 := by rw [← HZ.out, if_neg hbig]
        subst hz8
        have hb' : (R.length : Int) ≤ 400 := by omega
        go_wp2_with (first | (go_at_call 89; with_reducible refine Calls.mono (HRC.out _ _ _ _) ?_; rintro e w3 ⟨rfl, hb⟩; have hc := hb.ccell; have hf := hb.frz))
        have hE3 : Ext w w3 := hEw.tr hb
        have kz := KZ.out.ext hb z1
        have hR4 : Row 2 encP (st4 w3 (w.heap.size + 1) (.string s) (.int .i64 x) (.int .i64 er) (.slice A' R.length c')) A' R := by
          rcases HO.out with h | ⟨g, rfl, hg, ho⟩
          · left; exact h
          · have h5 := HPC.out.1.size
            exact ((ho.ext hb).st4 (by omega) _ _ _ _).row
        have hS4 := Fo.store (w := w3) (b := w.heap.size + 1) kz (.string s) (.int .i64 x) (.int .i64 er) (.slice A' R.length c')
        have hX4 := Ext.store4 (b := w.heap.size + 1) hE3 (by omega) (.string s) (.int .i64 x) (.int .i64 er) (.slice A' R.length c')
        show bodyPost _ _ _ _ _ (st4 w3 (w.heap.size + 1) (.string s) (.int .i64 x) (.int .i64 er) (.slice A' R.length c'))
        generalize st4 w3 (w.heap.size + 1) (.string s) (.int .i64 x) (.int .i64 er) (.slice A' R.length c') = W6 at hS4 hX4 hR4 ⊢
        obtain ⟨s0, s1, s2, s3⟩ := hS4
        refine bodyPost_ret (v := .tuple #[.agg #[.string s, .int .i64 x, .int .i64 er, .slice A' R.length c'], .int .i64 0]) (by simp [results, Try.results55, go_sem, s0, s1, s2, s3]) rfl ⟨.inl ⟨rfl, A', c', rfl, hR4⟩, hX4⟩
end Go.Proofs.Ytblmljcgjibfgaa

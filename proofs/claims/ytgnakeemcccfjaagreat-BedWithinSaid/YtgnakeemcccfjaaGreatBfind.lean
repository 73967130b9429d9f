/- The contract of findWay over cells that are not above a level. -/
import Derived.Test.YtgnakeemcccfjaaGreatBfindp
namespace Go.Proofs.YtgnakeemcccfjaaGreat
open Go Go.RowKit Go.IntWalk

set_option maxHeartbeats 16000000 in
set_option maxRecDepth 100000 in
theorem findWay_c (g : Gr) (cn rn : Nat) (F T : List Nat) (op : Nat → Bool) (p q : Nat) (w : World) (A B D : Option Addr) (cA cB cD : Nat) (hC : g.C = cn) (hR : g.R = rn) (h0 : 0 < cn) (h1 : cn ≤ 1024) (h2 : rn ≤ 1024) (hn : cn * rn ≤ 1024)
    (hF : ∀ x ∈ F, x < cn * rn) (hT : ∀ x ∈ T, x < cn * rn) (hFl : F.length ≤ 50000) (hTl : T.length ≤ 50000) (hB : Row 1 encZ w B (zl F)) (hD : Row 1 encZ w D (zl T))
    (hop : ∀ k, k < cn * rn → ∀ w', Ext w w' → Calls Tryz.prog 94 #[.int .i64 (k : Int), .pointer (some ⟨p, 0, none⟩), .pointer (some ⟨q, 0, none⟩)] w' fun e w'' => e = .returned (.bool (op k)) ∧ Ext w' w'') :
    Calls Tryz.prog 65 #[.agg #[.int .i64 g.X, .int .i64 g.Y, .int .i64 g.S, .int .i64 g.C, .int .i64 g.R, .slice A g.L.length cA], .slice B F.length cB, .slice D T.length cD, .func (.func 94) #[] #[.pointer (some ⟨p, 0, none⟩), .pointer (some ⟨q, 0, none⟩)]] w
      fun e w' => OutFind w.heap.size (adjN cn rn) op (cn * rn) F T e w' ∧ Ext w w' := by
  have HNB := Lib.hid (fun (i : Nat) (hi : i < cn * rn) w' => neighbours_c g cn rn i w' A cA hC hR h0 h1 h2 hi hn)
  have HSET := Lib.hid (fun w' (hw : Ext w w') => by
    have h := setOf_c (zl T) w' D cD (by rw [zl_len]; omega) (by intro x hx; obtain ⟨y, hy, rfl⟩ := List.mem_map.1 hx; have := hT y hy; exact ⟨by show (0 : Int) ≤ (y : Int); omega, by show (y : Int) ≤ 100000; omega⟩) (hD.ext hw)
    rw [zl_len] at h
    exact h)
  have HFS := Lib.hid (fun w' (hw : Ext w w') => firstSteps_c F w' B cB (by omega) (hB.ext hw))
  have HNL := Lib.hid (fun (i : Nat) (hi : i < cn * rn) (d : Nat) (hd : adjN cn rn i d) => nbr_lt h0 hi hd)
  have HNM := Lib.hid (fun (i : Nat) (hi : i < cn * rn) (d : Nat) => nbr_mem h0 hi d)
  have HIRR := Lib.hid (adjN_irr (rn := rn) h0)
  generalize hnn : cn * rn = n at *
  have HOP := Lib.hid hop
  have HF := Lib.hid hF
  have HT := Lib.hid hT
  have hmm := @run_makeMap Tryz.prog
  have HDC := Lib.hid hnn
  clear hC hR hop hF hT hB hD hnn
  go_enter Tryz.func65, Tryz.ntmps65
  go_wp2
  go_step3
  go_wp2_with (first | (go_at_call 90; (with_reducible refine Calls.mono (HSET.out _ (by (repeat (first | with_reducible exact Ext.rfl' _ | with_reducible assumption | with_reducible refine Ext.al ?_ _ | with_reducible refine Ext.dr ?_ | with_reducible refine Ext.st ?_ (by simp) _ | with_reducible refine Ext.tr ?_ (by assumption))))) ?_); rintro e w1 ⟨⟨b1, n1, rfl, hb1, hn1, hS1⟩, hb⟩; have hc := hb.ccell; have hf := hb.frz; have hs := hb.sz; (try simp at hs); (try have t0 := hs (w.heap.size) (by first | assumption | omega)); (try have t1 := hs (w.heap.size) (by first | assumption | omega)); (try have t2 := hs (w.heap.size) (by first | assumption | omega)); (try have t3 := hs (w.heap.size) (by first | assumption | omega)); (try have t4 := hs (w.heap.size) (by first | assumption | omega)); (try have t5 := hs (w.heap.size) (by first | assumption | omega))) | (go_at_call 91; (with_reducible refine Calls.mono (HFS.out _ (by (repeat (first | with_reducible exact Ext.rfl' _ | with_reducible assumption | with_reducible refine Ext.al ?_ _ | with_reducible refine Ext.dr ?_ | with_reducible refine Ext.st ?_ (by simp) _ | with_reducible refine Ext.tr ?_ (by assumption))))) ?_); rintro e w3 ⟨⟨As, cs, rfl, hS3⟩, hb⟩; have hc := hb.ccell; have hf := hb.frz; have hs := hb.sz; (try simp at hs); (try have t0 := hs (w.heap.size) (by first | assumption | omega)); (try have t1 := hs (w.heap.size) (by first | assumption | omega)); (try have t2 := hs (w.heap.size) (by first | assumption | omega)); (try have t3 := hs (w.heap.size) (by first | assumption | omega)); (try have t4 := hs (w.heap.size) (by first | assumption | omega)); (try have t5 := hs (w.heap.size) (by first | assumption | omega))))
  go_step3
  go_wp2
  have hFB : FB w g A cA b1 n1 T w1.heap.size 0 [] As cs (F.map fun c => (c, c)) w3 := by
    have hx : Ext (w.alloc (.cells #[.int .i64 g.X, .int .i64 g.Y, .int .i64 g.S, .int .i64 g.C, .int .i64 g.R, .slice A g.L.length cA] 24)) w1 := by assumption
    refine ⟨by (repeat (first | with_reducible exact Ext.rfl' _ | with_reducible assumption | with_reducible refine Ext.al ?_ _ | with_reducible refine Ext.dr ?_ | with_reducible refine Ext.st ?_ (by simp) _ | with_reducible refine Ext.tr ?_ (by assumption))), ?_, hS1.ext ((Ext.al (Ext.rfl' _) _).tr hb), (MapI.made w1).ext hb, by simpa using hS3, by have := hb1; simp at this; omega, hS1.lt⟩
    rw [hb.block _ (by have := hx.size; simp at this ⊢; omega), (MapKept.heap_alloc w1 _).2 _ (by have := hx.size; simp at this; omega), hx.block _ (by simp)]
    exact (MapKept.heap_alloc w _).1
  have hb2z : w1.heap.size < w3.heap.size := hs _ (by omega)
  clear hs hc hf hb hS1 hS3 hmm hb1 hn1 HSET HFS
  obtain ⟨b2, hb2⟩ : ∃ b2, w1.heap.size = b2 := ⟨_, rfl⟩
  rw [hb2] at hFB hb2z ⊢
  clear hb2
  have hQ0 : F.length = (F.map fun c => (c, c)).length := by simp
  rw [hQ0]
  have hst : Queue (adjN cn rn) n F [] (F.map fun c => (c, c)) := queue_start HF.out
  have hcl : Closed (adjN cn rn) op n F T [] ((F.map fun c => (c, c)).map Prod.fst) := by
    have e : (F.map fun c => (c, c)).map Prod.fst = F := by rw [List.map_map]; exact List.map_id' F
    rw [e]; exact closed_start
  have hql : (F.map fun c => (c, c)).length ≤ 50000 := by simpa using hFl
  generalize (F.map fun c => (c, c)) = Q0 at *
  have HS0 := Lib.hid (And.intro hFB (And.intro hst hcl))
  clear hFB hst hcl hQ0
  go_loopg [12, 13] (2 * n + 1) (fun gk s12 s13 wr => s12 = .bool false ∧ ∃ (As : Option Addr) (cs n2 : Nat) (O Q : List (Nat × Nat)), s13 = .slice As Q.length cs ∧ Hid (FB w g A cA b1 n1 T b2 n2 O As cs Q wr) ∧ Hid (Tree (adjN cn rn) op n F O ∧ Queue (adjN cn rn) n F O Q ∧ Closed (adjN cn rn) op n F T O (Q.map Prod.fst)) ∧
    n2 ≤ O.length ∧ Q.length ≤ 60000 ∧ 2 * (n - O.length) + min Q.length 1 ≤ gk)
  case atStart => exact ⟨rfl, As, cs, 0, [], Q0, rfl, Lib.hid HS0.out.1, Lib.hid ⟨Tree.nil, HS0.out.2.1, HS0.out.2.2⟩, Nat.le_refl _, by omega, by simp; omega⟩
  case round =>
    obtain ⟨rfl, As, cs, n2, O, Q, rfl, hFB, hTQ, hn2, hQl, hgk⟩ := hrel
    by_cases hQe : Q.length = 0
    · have hno : NoWay (adjN cn rn) op n F T := by
        have := hTQ.out.2.2
        rw [List.eq_nil_of_length_eq_zero hQe] at this
        exact this.done
      have HNO := Lib.hid hno
      have hE := hFB.out.ext
      have hQi : ¬ (0 : Int) < (Q.length : Int) := by omega
      clear hno
      go_wp2
      (try rw [Exit.noGoto_ret])
      go_ret
      exact ⟨.inl ⟨HNO.out, rfl⟩, hE⟩
    · have hQp : 0 < Q.length := by omega
      have hOn : O.length ≤ n := hTQ.out.1.len
      obtain ⟨wo, hwo⟩ : ∃ wo, wo = wr := ⟨_, rfl⟩
      subst hwo
      obtain ⟨gko, hgko⟩ : ∃ x, x = gk := ⟨_, rfl⟩
      subst hgko
      go_wp2
      go_loopg [12, 14, 31] Q.length (fun g2 s12 s14 s31 wx => s12 = .bool false ∧ ∃ (k m2 : Nat) (O1 R : List (Nat × Nat)), k + g2 = Q.length ∧ s31 = .int .i64 (k : Int) ∧ Hid (FB w g A cA b1 n1 T b2 m2 O1 As cs Q wx) ∧
        Hid (wx.ownsRow wo.heap.size 133 2 s14 R.length (R.flatMap encSt)) ∧ Hid (Tree (adjN cn rn) op n F O1 ∧ Queue (adjN cn rn) n F O1 (Q.drop k ++ R) ∧ Closed (adjN cn rn) op n F T O1 ((Q.drop k ++ R).map Prod.fst)) ∧
        m2 ≤ O1.length ∧ R.length ≤ 4 * O1.length ∧ O.length ≤ O1.length ∧ (R.length = 0 ∨ O.length < O1.length) ∧ wo.heap.size ≤ wx.heap.size)
      case atStart => exact ⟨rfl, 0, n2, O, [], by omega, rfl, hFB, Lib.hid (World.ownsRow_nil _ _ _ _), Lib.hid (by simpa using hTQ.out), hn2, by simp, Nat.le_refl _, .inl rfl, Nat.le_refl _⟩
      case round =>
        obtain ⟨rfl, k, m2, O1, R, hkg, rfl, hFB1, hOwn, hTQ1, hm2, hR4, hO1, hRO, hsz⟩ := hrel
        obtain ⟨wm, hwm⟩ : ∃ x, x = wr := ⟨_, rfl⟩
        subst hwm
        have hO1n : O1.length ≤ n := hTQ1.out.1.len
        by_cases hlt : k < Q.length
        case neg =>
          have hkq : k = Q.length := by omega
          obtain ⟨A', c', hv, hN⟩ := NewS.of (l := R) rfl rfl hOwn.out
          subst hv
          have hE1 := hFB1.out.map.lt
          have hb2o := hFB.out.map.lt
          have HN := Lib.hid hN
          have HC : Hid (Tree (adjN cn rn) op n F O1 ∧ Queue (adjN cn rn) n F O1 R ∧ Closed (adjN cn rn) op n F T O1 (R.map Prod.fst)) := Lib.hid (by have := hTQ1.out; rw [hkq, List.drop_length, List.nil_append] at this; exact this)
          have HF2 : Hid (FB w g A cA b1 n1 T b2 m2 O1 A' c' R wm) := Lib.hid (hFB1.out.other (HN.out.mono (by omega)))
          clear hOwn hN hTQ1 hFB1
          go_wp2
          go_roundg (gko - 1)
          case measure => omega
          case rel => exact ⟨rfl, A', c', m2, O1, R, rfl, HF2, HC, hm2, by omega, by omega⟩
        have HFAR := Lib.hid (fun q (hq : wo.heap.size ≤ q) => hFB.out.stp.far hq)
        obtain ⟨bs, os, hAs, hbs, hcell⟩ := (hFB1.out.stp.row).s2 hlt
        subst hAs
        obtain ⟨⟨c, b⟩, hx⟩ : ∃ x, Q[k] = x := ⟨_, rfl⟩
        have hdr : Q.drop k = (c, b) :: Q.drop (k + 1) := by rw [List.drop_eq_getElem_cons hlt, hx]
        have hcells := hcell _ (Ext.rfl' _)
        obtain ⟨e0, e1⟩ := hcells
        rw [hx] at e0 e1
        dsimp only at e0 e1
        have hQ1 := hTQ1.out.2.1 (c, b) (by rw [hdr]; simp)
        have hcn : c < n := hQ1.1
        have hbn : b < n := by
          rcases hQ1.2 with ⟨h, _⟩ | ⟨h, _⟩
          · have : b = c := h
            omega
          · exact (hTQ1.out.1.lt _ h).1
        have HX := Lib.hid (And.intro hdr hQ1)
        clear hx hdr hQ1 hcell
        have hkg' : k < Q.length := hlt
        go_upto_region 10 with fail
        refine wp_name (fun W hW => ?_)
        have hEW : Ext wm W := by rw [hW]; (repeat (first | with_reducible exact Ext.rfl' _ | with_reducible assumption | with_reducible refine Ext.al ?_ _ | with_reducible refine Ext.dr ?_ | with_reducible refine Ext.st ?_ (by simp) _ | with_reducible refine Ext.tr ?_ (by assumption)))
        have s0 : W.cell? ⟨wm.heap.size, 0, none⟩ = some (.int .i64 (c : Int)) := by rw [hW]; simp [go_sem]
        have s1 : W.cell? ⟨wm.heap.size, 1, none⟩ = some (.int .i64 (b : Int)) := by rw [hW]; simp [go_sem]
        have hsz2 : W.heap.size = wm.heap.size + 1 := by rw [hW]; simp
        have hFBW := hFB1.out.grow hEW
        have hlk := hFBW.map.look_ok c (wf_of (by omega) (by omega))
        have HOB := Lib.hid (fun q (hq : u14.ownBlock = some q) => (World.ownsRow.lt hOwn.out q hq).2)
        have hOw2 : Hid (W.ownsRow wo.heap.size 133 2 u14 R.length (R.flatMap encSt)) := Lib.hid (ownsRow_ext hOwn.out hEW)
        have hFW := Lib.hid hFBW
        have hwW := hFBW.ext
        have hWz : w.heap.size < W.heap.size := heap_lt hFBW.box
        have hb2W := hFBW.map.lt
        have hb2o := hFB.out.map.lt
        rw [mapOf_isSome] at hlk
        obtain ⟨mv, hmv⟩ : ∃ mv, (mapOf O1 (c : Int)).getD 0 = mv := ⟨_, rfl⟩
        rw [hmv] at hlk
        clear hmv hFBW hW hOwn hFB1 e0 e1
        have hOC := Lib.hid (HOP.out c hcn)
        by_cases hseen : c ∈ cellsOf O1
        · rw [decide_eq_true hseen] at hlk
          have HN2 : Hid (Tree (adjN cn rn) op n F O1 ∧ Queue (adjN cn rn) n F O1 (Q.drop (k + 1) ++ R) ∧ Closed (adjN cn rn) op n F T O1 ((Q.drop (k + 1) ++ R).map Prod.fst)) := Lib.hid (by
            obtain ⟨t1, t2, t3⟩ := hTQ1.out
            rw [HX.out.1] at t2 t3
            exact ⟨t1, fun x hx => t2 x (List.mem_cons_of_mem _ hx), Closed.skip t3 (.inl hseen)⟩)
          clear hseen
          go_wp2
          go_roundg (gk - 1)
          case measure => omega
          case rel => exact ⟨rfl, k + 1, m2, O1, R, by omega, by go_num, hFW, hOw2, HN2, hm2, hR4, hO1, hRO, by omega⟩
        rw [decide_eq_false hseen] at hlk
        cases hopc : op c
        · rw [hopc] at hOC
          have HN2 : Hid (Tree (adjN cn rn) op n F O1 ∧ Queue (adjN cn rn) n F O1 (Q.drop (k + 1) ++ R) ∧ Closed (adjN cn rn) op n F T O1 ((Q.drop (k + 1) ++ R).map Prod.fst)) := Lib.hid (by
            obtain ⟨t1, t2, t3⟩ := hTQ1.out
            rw [HX.out.1] at t2 t3
            exact ⟨t1, fun x hx => t2 x (List.mem_cons_of_mem _ hx), Closed.skip t3 (.inr hopc)⟩)
          clear hseen hopc
          go_wp2_with (first | (go_at_call 94; with_reducible refine Calls.mono (hOC.out _ (by (repeat (first | with_reducible exact Ext.rfl' _ | with_reducible assumption | with_reducible refine Ext.al ?_ _ | with_reducible refine Ext.dr ?_ | with_reducible refine Ext.st ?_ (by simp) _ | with_reducible refine Ext.tr ?_ (by assumption))))) ?_; rintro e w4 ⟨rfl, hb⟩; have hc := hb.ccell; have hf := hb.frz; have hs := hb.sz; (try simp at hs); (try have t0 := hs (w.heap.size) (by first | assumption | omega)); (try have t1 := hs (wm.heap.size) (by first | assumption | omega)); (try have t2 := hs (wm.heap.size) (by first | assumption | omega)); (try have t3 := hs (wm.heap.size) (by first | assumption | omega)); (try have t4 := hs (wm.heap.size) (by first | assumption | omega)); (try have t5 := hs (wm.heap.size) (by first | assumption | omega))))
          have hE4 : Ext W w4 := by assumption
          have hs4 := hE4.size
          go_roundg (gk - 1)
          case measure => omega
          case rel => exact ⟨rfl, k + 1, m2, O1, R, by omega, by go_num, Lib.hid (hFW.out.grow hE4), Lib.hid (ownsRow_ext hOw2.out hE4), HN2, hm2, hR4, hO1, hRO, by omega⟩
        rw [hopc] at hOC
        have hTr : Hid (Tree (adjN cn rn) op n F (O1 ++ [(c, b)])) := Lib.hid (Tree.snoc hTQ1.out.1 hcn hopc hseen HX.out.2.2)
        go_upto_region 12 with (first | (go_at_call 94; with_reducible refine Calls.mono (hOC.out _ (by (repeat (first | with_reducible exact Ext.rfl' _ | with_reducible assumption | with_reducible refine Ext.al ?_ _ | with_reducible refine Ext.dr ?_ | with_reducible refine Ext.st ?_ (by simp) _ | with_reducible refine Ext.tr ?_ (by assumption))))) ?_; rintro e w4 ⟨rfl, hb⟩; have hc := hb.ccell; have hf := hb.frz; have hs := hb.sz; (try simp at hs); (try have t0 := hs (w.heap.size) (by first | assumption | omega)); (try have t1 := hs (wm.heap.size) (by first | assumption | omega)); (try have t2 := hs (wm.heap.size) (by first | assumption | omega)); (try have t3 := hs (wm.heap.size) (by first | assumption | omega)); (try have t4 := hs (wm.heap.size) (by first | assumption | omega)); (try have t5 := hs (wm.heap.size) (by first | assumption | omega))))
        have hE4 : Ext W w4 := by assumption
        have hs4 := hE4.size
        have hF4 := hFW.out.grow hE4
        have hM4 := Lib.hid hF4.map
        have HF4 := Lib.hid hF4
        have HO4 := Lib.hid (ownsRow_ext hOw2.out hE4)
        have a0 := (hE4.ccell _ 0 (show wm.heap.size < W.heap.size by omega)).trans s0
        have a1 := (hE4.ccell _ 1 (show wm.heap.size < W.heap.size by omega)).trans s1
        have hm24 : m2 < maxLen := by unfold maxLen; omega
        have hsb : wm.heap.size < w4.heap.size := by omega
        have hsb2 : wm.heap.size ≠ b2 := by omega
        have hwz4 : w.heap.size < w4.heap.size := by omega
        clear hc hf hs hb hF4 hFW hOw2 s0 s1
        go_wp2_with (first | (at_mapUpdate; refine wpList_mapPut rfl _ _ _ rfl b2 m2 _ rfl hM4.out hm24 (c : Int) (b : Int) rfl rfl (wf_of (by omega) (by omega)) (wf_of (by omega) (by omega)) ?_))
        intro w5 hM5 hg5
        rw [← mapOf_snoc hseen] at hM5
        have hF5 := HF4.out.put (O' := O1 ++ [(c, b)]) hg5 hM5
        have a0 := (grown_cell hg5 hsb (by intro e; injection e with e; omega) 0).trans a0
        have a1 := (grown_cell hg5 hsb (by intro e; injection e with e; omega) 1).trans a1
        have hs5 := hg5.size
        have HO5 : Hid (w5.ownsRow wo.heap.size 133 2 u14 R.length (R.flatMap encSt)) := Lib.hid (HO4.out.kept hg5 (by
          rcases ho : u14.ownBlock with _ | qo
          · exact .inl rfl
          · refine .inr ?_
            have := (World.ownsRow.lt HO4.out qo ho).1
            intro e; injection e with e; omega))
        have hlk5 := hF5.set.look c (wf_of (by omega) (by omega))
        have HF5 := Lib.hid hF5
        have hE5 := hF5.ext
        clear hF5 hM5 hg5 HF4 HO4 hM4 hm24
        by_cases hcT : c ∈ T
        · rw [decide_eq_true (mem_zl.2 hcT)] at hlk5
          have HWT := Lib.hid (fun w' (hw : Ext w5 w') => wayTo_c c b2 (m2 + 1) w' hTr.out HIRR.out (by rw [cellsOf_snoc]; simp) hcT (by omega) (HF5.out.map.ext hw))
          clear hcT
          go_wp2_with (first | (go_at_call 93; (with_reducible refine Calls.mono (HWT.out _ (by (repeat (first | with_reducible exact Ext.rfl' _ | with_reducible assumption | with_reducible refine Ext.al ?_ _ | with_reducible refine Ext.dr ?_ | with_reducible refine Ext.st ?_ (by simp) _ | with_reducible refine Ext.tr ?_ (by assumption))))) ?_); rintro e w6 ⟨⟨p6, A6, c6, hW6, hp6, rfl, hN6⟩, hb⟩; have hc := hb.ccell; have hf := hb.frz; have hs := hb.sz; (try simp at hs); (try have t0 := hs (w.heap.size) (by first | assumption | omega)); (try have t1 := hs (wm.heap.size) (by first | assumption | omega)); (try have t2 := hs (wm.heap.size) (by first | assumption | omega)); (try have t3 := hs (wm.heap.size) (by first | assumption | omega)); (try have t4 := hs (wm.heap.size) (by first | assumption | omega)); (try have t5 := hs (wm.heap.size) (by first | assumption | omega))))
          have hE6 : Ext w5 w6 := by assumption
          have HW6 := Lib.hid (And.intro hW6 hN6)
          clear hW6 hN6 hc hf hs hb
          (try rw [Exit.noGoto_ret])
          go_ret
          exact ⟨.inr ⟨p6, A6, c6, HW6.out.1, hp6, rfl, HW6.out.2.mono hE5.size⟩, hE5.tr hE6⟩
        · rw [decide_eq_false (fun h => hcT (mem_zl.1 h))] at hlk5
          obtain ⟨c0, c1, c2, c3, c4, c5⟩ := HF5.out.cells
          have hwz5 : w.heap.size < w5.heap.size := by omega
          have hsb5 : wm.heap.size < w5.heap.size := by omega
          obtain ⟨gk2, hgk2⟩ : ∃ x, x = gk := ⟨_, rfl⟩
          subst hgk2
          have HN4 : Hid ((nbr cn rn c).length ≤ 4) := Lib.hid (nbr_len cn rn c)
          have HNQ := Lib.hid (fun d (hd : d ∈ nbr cn rn c) => HNL.out c hcn d hd)
          have HNC := Lib.hid (fun w' => (HNB.out c hcn w').mono fun e w'' h => (⟨OutZN.of h.1, h.2⟩ : OutZN w'.heap.size (nbr cn rn c) e w'' ∧ Ext w' w''))
          have HND : Hid (∀ d, d < n → adjN cn rn c d → d ∈ nbr cn rn c) := Lib.hid (fun d _ h => h)
          have HNA : Hid (∀ d, d ∈ nbr cn rn c → adjN cn rn c d) := Lib.hid (fun d h => h)
          have HCT := Lib.hid hcT
          generalize nbr cn rn c = N at *
          clear hcT hseen hopc
          go_wp2_with (first | (go_at_call 92; (with_reducible refine Calls.mono (HNC.out _) ?_); rintro e w7 ⟨⟨A7, c7, rfl, hN7⟩, hb⟩; have hc := hb.ccell; have hf := hb.frz; have hs := hb.sz; (try simp at hs); (try have t0 := hs (w.heap.size) (by first | assumption | omega)); (try have t1 := hs (wm.heap.size) (by first | assumption | omega)); (try have t2 := hs (wm.heap.size) (by first | assumption | omega)); (try have t3 := hs (wm.heap.size) (by first | assumption | omega)); (try have t4 := hs (wm.heap.size) (by first | assumption | omega)); (try have t5 := hs (wm.heap.size) (by first | assumption | omega))))
          have hE7 : Ext w5 w7 := by assumption
          have hs7 := hE7.size
          have HF7 := Lib.hid (HF5.out.grow hE7)
          have HO7 := Lib.hid (ownsRow_ext HO5.out hE7)
          have a7 := (hE7.ccell _ 0 hsb5).trans a0
          have HN7 := Lib.hid hN7
          have HA7 := Lib.hid (fun q (hq : q < w5.heap.size ∨ w7.heap.size ≤ q) => hN7.far hq)
          have hn4 := HN4.out
          clear hc hf hs hb hN7 a0 a1 c0 c1 c2 c3 c4 c5
          go_loopg [14, 66] N.length (fun g3 s14 s66 wy => ∃ (j : Nat), j + g3 = N.length ∧ s66 = .int .i64 (j : Int) ∧ Hid (wy.ownsRow wo.heap.size 133 2 s14 (R.length + j) ((R ++ (N.take j).map fun d => (d, c)).flatMap encSt)) ∧
            Hid (FB w g A cA b1 n1 T b2 (m2 + 1) (O1 ++ [(c, b)]) (some ⟨bs, os, none⟩) cs Q wy) ∧ Hid (NewZ w5.heap.size wy A7 c7 (zl N)) ∧ wy.cell? ⟨wm.heap.size, 0, none⟩ = some (.int .i64 (c : Int)) ∧
            Hid (∀ q, s14.ownBlock = some q → q < wm.heap.size ∨ w7.heap.size ≤ q) ∧ w7.heap.size ≤ wy.heap.size)
          case atStart => exact ⟨0, by omega, rfl, Lib.hid (by simpa using HO7.out), HF7, HN7, a7, Lib.hid (fun q hq => .inl (HOB.out q hq)), Nat.le_refl _⟩
          case round =>
            obtain ⟨j, hjg, rfl, hOy, hFy, hNy, ay, hBy, hsy⟩ := hrel
            clear a7 hlk5 hlk
            have hwy := hFy.out.ext
            by_cases hjl : j < N.length
            · obtain ⟨b7, o7, hA7, hb7, hcell⟩ := (hNy.out.row).p1 (k := j) (by rw [zl_len]; exact hjl)
              subst hA7
              have e7 := hcell _ (Ext.rfl' _)
              rw [show (zl N)[j]'(by rw [zl_len]; exact hjl) = (N[j] : Int) by simp [zl]] at e7
              have ht : N.take (j + 1) = N.take j ++ [N[j]] := List.take_succ_eq_append_getElem hjl
              have hdn := HNQ.out N[j] (List.getElem_mem hjl)
              obtain ⟨d, hd⟩ : ∃ d, N[j] = d := ⟨_, rfl⟩
              rw [hd] at e7 ht hdn
              have HT2 := Lib.hid ht
              clear hcell hd ht
              obtain ⟨i0, hi0, hzi0, hzi1, hzi2⟩ := info_parts infoSt
              have hRj : R.length + j ≤ 5000 := by omega
              have hszo : wo.heap.size ≤ wr.heap.size := by omega
              go_wp2_with (first | (at_builtin; refine wpList_append_own_at _ rfl _ _ 130 rfl wo.heap.size 133 i0 _ 2 16 Tryz.underlying130 hi0 hzi0 hzi1 hzi2 rfl (by decide) _ _ _ rfl (World.ownsRow.alloc hOy.out _) ⟨_, 0, none⟩ 1 1 [.int .i64 (d : Int), .int .i64 (c : Int)] rfl rfl ?_ ?_ ?_ ?_ ?_ ?_))
              · exact two_newZ _ _ _ _
              · intro u hu; simp at hu; rcases hu with rfl | rfl <;> rfl
              · unfold maxLen; omega
              · omega
              · simp; omega
              intro v' w9 hown9 hgrow9 _ hat9
              have hG : wr.grownBy w9 u14.ownBlock := (grown_but (grown_of_ext (Ext.al (Ext.rfl' wr) _)) _).trans hgrow9
              have hrow : ∀ q, u14.ownBlock = some q → wo.heap.size ≤ q ∧ q < wr.heap.size ∧ (q < wm.heap.size ∨ w7.heap.size ≤ q) := fun q hq => ⟨(World.ownsRow.lt hOy.out q hq).1, (World.ownsRow.lt hOy.out q hq).2, hBy.out q hq⟩
              have hs9 := hG.size
              have hF9 := Lib.hid (hFy.out.step hG (fun q hq => ⟨by have := (hrow q hq).1; omega, HFAR.out q (hrow q hq).1⟩))
              have hN9 := Lib.hid (hNy.out.kept hG (fun q hq => HA7.out q (by have := (hrow q hq).2.2; omega)))
              have ay9 := (grown_cell hG (show wm.heap.size < wr.heap.size by omega) (by intro e; have := (hrow _ e.symm).2.2; omega) 0).trans ay
              have hB9 : Hid (∀ q, v'.ownBlock = some q → q < wm.heap.size ∨ w7.heap.size ≤ q) := Lib.hid (by
                intro q hq
                rcases hat9 with h | h
                · exact hBy.out q (h ▸ hq)
                · rw [h] at hq
                  injection hq with hq
                  (try simp at hq)
                  omega)
              have hO9 : Hid (w9.ownsRow wo.heap.size 133 2 v' (R.length + (j + 1)) ((R ++ (N.take (j + 1)).map fun d => (d, c)).flatMap encSt)) := Lib.hid (by
                have e : (R ++ (N.take j ++ [d]).map fun d => (d, c)).flatMap encSt = R.flatMap encSt ++ ((List.take j (N.map fun d => (d, c))).flatMap encSt ++ [.int .i64 (d : Int), .int .i64 (c : Int)]) := by simp [encSt, List.map_take]
                rw [HT2.out, e, show R.length + (j + 1) = R.length + j + 1 by omega]
                exact hown9)
              clear hown9 hgrow9 hat9 hG hrow hi0 hzi0 hzi1 hzi2 ay e7
              go_wp2
              go_roundg (gk - 1)
              case measure => omega
              case rel => exact ⟨j + 1, by omega, by go_num, hO9, hF9, hN9, ay9, hB9, by omega⟩
            · have hjN : j = N.length := by omega
              obtain ⟨R', hR'⟩ : ∃ R', R ++ N.map (fun d => (d, c)) = R' := ⟨_, rfl⟩
              have hRl : R'.length = R.length + N.length := by rw [← hR']; simp
              have hOz : Hid (wr.ownsRow wo.heap.size 133 2 u14 R'.length (R'.flatMap encSt)) := Lib.hid (by
                have := hOy.out
                rw [hjN, List.take_length, hR'] at this
                rw [hRl]; exact this)
              have hTz : Hid (Tree (adjN cn rn) op n F (O1 ++ [(c, b)]) ∧ Queue (adjN cn rn) n F (O1 ++ [(c, b)]) (Q.drop (k + 1) ++ R') ∧ Closed (adjN cn rn) op n F T (O1 ++ [(c, b)]) ((Q.drop (k + 1) ++ R').map Prod.fst)) := Lib.hid (by
                obtain ⟨t1, t2, t3⟩ := hTQ1.out
                rw [HX.out.1] at t2 t3
                refine ⟨hTr.out, fun x hx => ?_, ?_⟩
                · rw [← hR', ← List.append_assoc, List.mem_append] at hx
                  rcases hx with hx | hx
                  · exact (Queue.grow (fun y hy => t2 y hy) (c, b)) x (List.mem_cons_of_mem _ hx)
                  · obtain ⟨d, hd, rfl⟩ := List.mem_map.1 hx
                    exact ⟨HNQ.out d hd, .inr ⟨by rw [cellsOf_snoc]; simp, HNA.out d hd⟩⟩
                · have h := Closed.take (b := b) t3 HCT.out HND.out
                  have e : ((Q.drop (k + 1) ++ R').map Prod.fst) = ((Q.drop (k + 1)).append R).map Prod.fst ++ N := by
                    rw [← hR', ← List.append_assoc, List.map_append, List.map_map]
                    congr 1
                    exact List.map_id' N
                  rw [e]
                  exact h)
              have hFz := hFy
              clear hOy hNy hBy hR'
              go_wp2
              go_roundg (gk2 - 1)
              case measure => omega
              case rel => exact ⟨rfl, k + 1, m2 + 1, O1 ++ [(c, b)], R', by omega, by go_num, hFz, hOz, hTz, by simp; omega, by simp; omega, by simp; omega, .inr (by simp; omega), by omega⟩
end Go.Proofs.YtgnakeemcccfjaaGreat

/- The contract of windows with Possible. -/
import Derived.Test.YtblmljcgjibfgaaTwin
namespace Go.Proofs.Ytblmljcgjibfgaa
open Go Go.RowKit Go.IntWalk Go.Shelf

set_option maxHeartbeats 4000000 in
theorem winP_c (gs : List Ga) (x f lev : Int) (d n : Nat) (V : Int → Int × Int × Bool) (w : World) (A : Option Addr) (c : Nat) (hl : gs.length ≤ 1000) (hc : gs.length ≤ c) (hA : Row 4 encG w A gs) (hM : Marks w gs) (h0 : viewE gs x f (f + d) = 0) (hV : ∀ m, IsLV gs x m (V m)) (hn : w.cell? ⟨n, 0, none⟩ = some (.int .i64 lev)) (hnz : n < w.heap.size) :
    Calls Try.prog 75 #[.slice A gs.length c, .int .i64 x, .agg #[.int .i64 f, .int .i64 (f + d)], .func (.func 77) #[] #[.pointer (some ⟨n, 0, none⟩)]] w
      fun e w' => ∃ A' c', e = .returned (.tuple #[.slice A' (winL (gP V lev) f (d + 1)).length c', .int .i64 0]) ∧ Row 2 encP w' A' (winL (gP V lev) f (d + 1)) ∧ Ext w w' := by
  have HC := Lib.hid (fun w' (hw : Ext w w') => checkLook_c gs x f (f + d) w' A c hl hc (hA.ext hw) (hM.ext hw))
  rw [h0] at HC
  obtain ⟨hG, hx, f0, f1, f2⟩ := view_parts h0
  have HPL := Lib.hid (fun m (hm : 0 ≤ m ∧ m ≤ 1000000) w' (hw : Ext w w') => place_v (hV m) w' A c hG hx hm (hA.ext hw) (hM.ext hw))
  have HNO := Lib.hid (fun m => (hV m).no)
  clear h0 hV hG
  go_enter Try.func75, Try.ntmps75
  go_wp2_with (first | (go_at_call 72; with_reducible refine Calls.mono (HC.out _ (by (repeat (first | with_reducible exact Ext.rfl' _ | with_reducible assumption | with_reducible refine Ext.al ?_ _ | with_reducible refine Ext.dr ?_ | with_reducible refine Ext.st ?_ (by simp) _ | with_reducible refine Ext.tr ?_ (by assumption))))) ?_; rintro e w1 ⟨rfl, hb⟩; have hc := hb.ccell; have hf := hb.frz; have hs := hb.sz; (try simp at hs); (try have t0 := hs (w.heap.size) (by first | assumption | omega)); (try have t1 := hs (w.heap.size + 1) (by first | assumption | omega)); (try have t2 := hs (w.heap.size) (by first | assumption | omega)); (try have t3 := hs (w.heap.size) (by first | assumption | omega)); (try have t4 := hs (w.heap.size) (by first | assumption | omega)); (try have t5 := hs (w.heap.size) (by first | assumption | omega))))
  have hE1 : Ext w w1 := by (repeat (first | with_reducible exact Ext.rfl' _ | with_reducible assumption | with_reducible refine Ext.al ?_ _ | with_reducible refine Ext.dr ?_ | with_reducible refine Ext.st ?_ (by simp) _ | with_reducible refine Ext.tr ?_ (by assumption)))
  have kw : Two w1 w.heap.size f (f + d) := by refine ⟨?_, ?_⟩ <;> simp [*, go_sem]
  have kn : w1.cell? ⟨n, 0, none⟩ = some (.int .i64 lev) := (hE1.ccell _ _ hnz).trans hn
  have hs1 : w.heap.size < w1.heap.size := t0
  have HK := Lib.hid (And.intro hE1 (And.intro kw (And.intro kn hs1)))
  clear kw kn hc hf hs hb HC hn
  have HNG := Lib.hid (fun (j : Nat) (h : gP V lev (f + (j : Int)) = false) => winL_no h)
  go_loopw [11, 12] (fun vl m wr => Ext w1 wr ∧ ∃ j : Nat, j ≤ d + 1 ∧ m = .int .i64 (f + (j : Int)) ∧ Hid (wr.ownsRow w1.heap.size 49 2 vl (winL (gP V lev) f j).length ((winL (gP V lev) f j).flatMap encP))) (fun _ m _ => d + 2 - (intOf m - f).toNat)
  case atStart => exact ⟨Ext.rfl' _, 0, Nat.zero_le _, by simp, World.ownsRow_nil _ _ _ _⟩
  case round =>
    obtain ⟨hE, j, hj, rfl, hO⟩ := hrel
    have hEw : Ext w wr := hE1.tr hE
    obtain ⟨p0, p1⟩ := HK.out.2.1
    have p0 := (hE.ccell _ 0 hs1).trans p0
    have p1 := (hE.ccell _ 1 hs1).trans p1
    have hnw : n < w1.heap.size := hE1.sz _ hnz
    have kn := (hE.ccell _ 0 hnw).trans HK.out.2.2.1
    have hnr := hE.sz _ hnw
    have hwr := hE.sz _ hs1
    have hsz := hE.size
    by_cases hlt : j ≤ d
    · have hle : f + (j : Int) ≤ f + (d : Int) := by omega
      have HP2 := Lib.hid (fun w' (hw : Ext w w') => HPL.out (f + (j : Int)) (by omega) w' hw)
      cases hk : (V (f + (j : Int))).2.2
      · have hno := HNO.out _ hk
        rw [hno] at HP2
        have HS := Lib.hid (HNG.out j (by unfold gP; rw [hk]; rfl))
        clear hno hk
        go_wp2_with (first | (go_at_call 70; with_reducible refine Calls.mono (HP2.out _ (by (repeat (first | with_reducible exact Ext.rfl' _ | with_reducible assumption | with_reducible refine Ext.al ?_ _ | with_reducible refine Ext.dr ?_ | with_reducible refine Ext.st ?_ (by simp) _ | with_reducible refine Ext.tr ?_ (by assumption))))) ?_; rintro e w3 ⟨rfl, hb⟩; have hc := hb.ccell; have hf := hb.frz; have hs := hb.sz; (try simp at hs); (try have t0 := hs (w.heap.size) (by first | assumption | omega)); (try have t1 := hs (n) (by first | assumption | omega)); (try have t2 := hs (wr.heap.size) (by first | assumption | omega)); (try have t3 := hs (wr.heap.size) (by first | assumption | omega)); (try have t4 := hs (wr.heap.size) (by first | assumption | omega)); (try have t5 := hs (wr.heap.size) (by first | assumption | omega))))
        have hE4 : Ext w1 (w3.alloc (.cells #[.int .i64 0, .int .i64 0] 28)) := Ext.al (hE.tr hb) _
        refine ⟨⟨hE4, j + 1, by omega, by go_num, ?_⟩, by simp [intOf]; omega⟩
        rw [HS.out]
        exact ownsRow_ext hO.out (Ext.al hb _)
      · obtain ⟨r0, hr0⟩ : ∃ r, (V (f + (j : Int))).1 = r := ⟨_, rfl⟩
        obtain ⟨r1, hr1⟩ : ∃ r, (V (f + (j : Int))).2.1 = r := ⟨_, rfl⟩
        have hgv : gP V lev (f + (j : Int)) = decide (lev ≤ r1) := by unfold gP; rw [hk, ← hr1]; rfl
        rw [hr0, hr1, hk] at HP2
        clear hr0 hr1 hk HNO
        cases hd : decide (lev ≤ r1)
        · rw [hd] at hgv
          have HS := Lib.hid (HNG.out j hgv)
          have hg : ∀ w', Ext w1 w' → Calls Try.prog 77 #[.agg #[.int .i64 r0, .int .i64 r1], .pointer (some ⟨n, 0, none⟩)] w' fun e w'' => e = .returned (.bool false) ∧ Ext w' w'' := by
            intro w' hw
            have h := possible1_c r0 r1 lev n w' ((hw.ccell _ 0 hnw).trans HK.out.2.2.1) (hw.sz _ hnw)
            rw [hd] at h
            exact h
          have HG := Lib.hid hg
          clear hgv hd hg
          go_wp2_with (first | (go_at_call 70; with_reducible refine Calls.mono (HP2.out _ (by (repeat (first | with_reducible exact Ext.rfl' _ | with_reducible assumption | with_reducible refine Ext.al ?_ _ | with_reducible refine Ext.dr ?_ | with_reducible refine Ext.st ?_ (by simp) _ | with_reducible refine Ext.tr ?_ (by assumption))))) ?_; rintro e w3 ⟨rfl, hb⟩; have hc := hb.ccell; have hf := hb.frz; have hs := hb.sz; (try simp at hs); (try have t0 := hs (w.heap.size) (by first | assumption | omega)); (try have t1 := hs (n) (by first | assumption | omega)); (try have t2 := hs (wr.heap.size) (by first | assumption | omega)); (try have t3 := hs (wr.heap.size) (by first | assumption | omega)); (try have t4 := hs (wr.heap.size) (by first | assumption | omega)); (try have t5 := hs (wr.heap.size) (by first | assumption | omega))) | (go_at_call 77; with_reducible refine Calls.mono (HG.out _ (by (repeat (first | with_reducible exact Ext.rfl' _ | with_reducible assumption | with_reducible refine Ext.al ?_ _ | with_reducible refine Ext.dr ?_ | with_reducible refine Ext.st ?_ (by simp) _ | with_reducible refine Ext.tr ?_ (by assumption))))) ?_; rintro e w4 ⟨rfl, hb⟩; have hc := hb.ccell; have hf := hb.frz; have hs := hb.sz; (try simp at hs); (try have t0 := hs (w.heap.size) (by first | assumption | omega)); (try have t1 := hs (n) (by first | assumption | omega)); (try have t2 := hs (wr.heap.size) (by first | assumption | omega)); (try have t3 := hs (w3.heap.size) (by first | assumption | omega)); (try have t4 := hs (wr.heap.size) (by first | assumption | omega)); (try have t5 := hs (wr.heap.size) (by first | assumption | omega))))
          have hE4 : Ext wr w4 := by (repeat (first | with_reducible exact Ext.rfl' _ | with_reducible assumption | with_reducible refine Ext.al ?_ _ | with_reducible refine Ext.dr ?_ | with_reducible refine Ext.st ?_ (by simp) _ | with_reducible refine Ext.tr ?_ (by assumption)))
          refine ⟨⟨hE.tr hE4, j + 1, by omega, by go_num, ?_⟩, by simp [intOf]; omega⟩
          rw [HS.out]
          exact ownsRow_ext hO.out hE4
        · rw [hd] at hgv
          have hg : ∀ w', Ext w1 w' → Calls Try.prog 77 #[.agg #[.int .i64 r0, .int .i64 r1], .pointer (some ⟨n, 0, none⟩)] w' fun e w'' => e = .returned (.bool true) ∧ Ext w' w'' := by
            intro w' hw
            have h := possible1_c r0 r1 lev n w' ((hw.ccell _ 0 hnw).trans HK.out.2.2.1) (hw.sz _ hnw)
            rw [hd] at h
            exact h
          have HG := Lib.hid hg
          obtain ⟨L, hL⟩ : ∃ L, winL (gP V lev) f j = L := ⟨_, rfl⟩
          have hO2 := hO.out
          rw [hL] at hO2
          have hL2 : L.length ≤ j := by rw [← hL]; exact winL_len _ _ _
          clear hd hg hO
          obtain ⟨i0, hi, hzi0, hzi1, hzi2⟩ := info_parts infoW
          rcases Nat.eq_zero_or_pos L.length with hz | hz
          · have hn0 : L = [] := List.eq_nil_of_length_eq_zero hz
            subst hn0
            have HS := Lib.hid (winL_first hgv hL)
            obtain ⟨A', c', hv, _⟩ := ownG_cases hO2
            subst hv
            have HO := Lib.hid hO2
            clear hgv hL hO2
            obtain ⟨bq, hbq⟩ : ∃ bq, bq < wr.heap.size := ⟨_, hwr⟩
            go_wp2_with (first | (go_at_call 70; with_reducible refine Calls.mono (HP2.out _ (by (repeat (first | with_reducible exact Ext.rfl' _ | with_reducible assumption | with_reducible refine Ext.al ?_ _ | with_reducible refine Ext.dr ?_ | with_reducible refine Ext.st ?_ (by simp) _ | with_reducible refine Ext.tr ?_ (by assumption))))) ?_; rintro e w3 ⟨rfl, hb⟩; have hc := hb.ccell; have hf := hb.frz; have hs := hb.sz; (try simp at hs); (try have t0 := hs (w.heap.size) (by first | assumption | omega)); (try have t1 := hs (n) (by first | assumption | omega)); (try have t2 := hs (wr.heap.size) (by first | assumption | omega)); (try have t3 := hs (bq) (by first | assumption | omega)); (try have t4 := hs (wr.heap.size) (by first | assumption | omega)); (try have t5 := hs (wr.heap.size) (by first | assumption | omega))) | (go_at_call 77; with_reducible refine Calls.mono (HG.out _ (by (repeat (first | with_reducible exact Ext.rfl' _ | with_reducible assumption | with_reducible refine Ext.al ?_ _ | with_reducible refine Ext.dr ?_ | with_reducible refine Ext.st ?_ (by simp) _ | with_reducible refine Ext.tr ?_ (by assumption))))) ?_; rintro e w4 ⟨rfl, hb⟩; have hc := hb.ccell; have hf := hb.frz; have hs := hb.sz; (try simp at hs); (try have t0 := hs (w.heap.size) (by first | assumption | omega)); (try have t1 := hs (n) (by first | assumption | omega)); (try have t2 := hs (wr.heap.size) (by first | assumption | omega)); (try have t3 := hs (w3.heap.size) (by first | assumption | omega)); (try have t4 := hs (bq) (by first | assumption | omega)); (try have t5 := hs (wr.heap.size) (by first | assumption | omega))) | (at_builtin; refine wpList_append_own _ rfl _ _ 56 rfl w1.heap.size 49 i0 _ 2 16 Try.underlying56 hi hzi0 hzi1 hzi2 rfl (by decide) _ _ _ rfl (World.ownsRow.alloc (ownsRow_ext HO.out (by (repeat (first | with_reducible exact Ext.rfl' _ | with_reducible assumption | with_reducible refine Ext.al ?_ _ | with_reducible refine Ext.dr ?_ | with_reducible refine Ext.st ?_ (by simp) _ | with_reducible refine Ext.tr ?_ (by assumption))))) _) ⟨_, 0, none⟩ 1 1 [.int .i64 (f + (j : Int)), .int .i64 (f + (j : Int))] rfl rfl ?_ ?_ ?_ ?_ ?_ ?_))
            any_goals first | (exact two_new _ _ _ _; done) | (intro u hu; simp at hu; rcases hu with rfl | rfl <;> rfl) | (exact ⟨rfl, rfl⟩) | (unfold maxLen; omega) | omega | (simp; omega) | (have h9 := (hE.tr (show Ext wr w4 by (repeat (first | with_reducible exact Ext.rfl' _ | with_reducible assumption | with_reducible refine Ext.al ?_ _ | with_reducible refine Ext.dr ?_ | with_reducible refine Ext.st ?_ (by simp) _ | with_reducible refine Ext.tr ?_ (by assumption))))).size; simp; omega)
            intro v' w5 hown5 hgrow5 _
            clear hi hzi0 hzi1 hzi2
            have hE4 : Ext wr w4 := by (repeat (first | with_reducible exact Ext.rfl' _ | with_reducible assumption | with_reducible refine Ext.al ?_ _ | with_reducible refine Ext.dr ?_ | with_reducible refine Ext.st ?_ (by simp) _ | with_reducible refine Ext.tr ?_ (by assumption)))
            have hlt5 := World.ownsRow.lt (ownsRow_ext HO.out hE4)
            have hE5 : Ext w1 w5 := Below.grown (Ext.al (hE.tr hE4) _) hgrow5 (by have := (hE.tr hE4).size; simp; omega) (by intro q hq; exact (hlt5 q hq).1)
            go_wp2
            refine ⟨⟨hE5, j + 1, by omega, by go_num, ?_⟩, by simp [intOf]; omega⟩
            rw [HS.out]
            exact hown5
          · obtain ⟨S, p, hSp, hSl⟩ := list_last hz
            subst hSp
            have hpo := winL_mem (p := p) (G := gP V lev) (f := f) (k := j) (by rw [hL]; simp)
            obtain ⟨A', c', hv, hg⟩ := ownG_cases hO2
            rcases hg with ⟨hnil, _⟩ | ⟨g, rfl, hgb, hown⟩
            · simp at hnil
            obtain ⟨k, hk⟩ : ∃ k, S.length = k := ⟨_, rfl⟩
            have hln : (S ++ [p]).length = k + 1 := by simp [hk]
            rw [hln] at hv
            subst hv
            have hgz := hown.lt
            have d2 := hown.cells (k * 2 + 1) (.int .i64 p.y) (by
              have h := flat_get encP_len (S ++ [p]) k (by rw [hln]; omega) 1 (.int .i64 p.y) (by subst hk; simp [encP])
              exact h)
            have d3 := fun o => hown.frozen o
            have HOW := Lib.hid hown
            have HO := Lib.hid hO2
            have HPO := Lib.hid hpo
            have hkj : k + 1 ≤ j := by rw [← hln]; exact hL2
            cases hq : (p.y == f + (j : Int) - 1)
            · have HS := Lib.hid (winL_new hgv hL (by simpa using hq))
              obtain ⟨b1, b2, b3, _⟩ := hpo
              obtain ⟨bq, hbq⟩ : ∃ bq, bq = g := ⟨_, rfl⟩
              subst hbq
              clear hgv hL hO2 hown
              go_wp2_with (first | (go_at_call 70; with_reducible refine Calls.mono (HP2.out _ (by (repeat (first | with_reducible exact Ext.rfl' _ | with_reducible assumption | with_reducible refine Ext.al ?_ _ | with_reducible refine Ext.dr ?_ | with_reducible refine Ext.st ?_ (by simp) _ | with_reducible refine Ext.tr ?_ (by assumption))))) ?_; rintro e w3 ⟨rfl, hb⟩; have hc := hb.ccell; have hf := hb.frz; have hs := hb.sz; (try simp at hs); (try have t0 := hs (w.heap.size) (by first | assumption | omega)); (try have t1 := hs (n) (by first | assumption | omega)); (try have t2 := hs (wr.heap.size) (by first | assumption | omega)); (try have t3 := hs (bq) (by first | assumption | omega)); (try have t4 := hs (wr.heap.size) (by first | assumption | omega)); (try have t5 := hs (wr.heap.size) (by first | assumption | omega))) | (go_at_call 77; with_reducible refine Calls.mono (HG.out _ (by (repeat (first | with_reducible exact Ext.rfl' _ | with_reducible assumption | with_reducible refine Ext.al ?_ _ | with_reducible refine Ext.dr ?_ | with_reducible refine Ext.st ?_ (by simp) _ | with_reducible refine Ext.tr ?_ (by assumption))))) ?_; rintro e w4 ⟨rfl, hb⟩; have hc := hb.ccell; have hf := hb.frz; have hs := hb.sz; (try simp at hs); (try have t0 := hs (w.heap.size) (by first | assumption | omega)); (try have t1 := hs (n) (by first | assumption | omega)); (try have t2 := hs (wr.heap.size) (by first | assumption | omega)); (try have t3 := hs (w3.heap.size) (by first | assumption | omega)); (try have t4 := hs (bq) (by first | assumption | omega)); (try have t5 := hs (wr.heap.size) (by first | assumption | omega))) | (at_builtin; refine wpList_append_own _ rfl _ _ 56 rfl w1.heap.size 49 i0 _ 2 16 Try.underlying56 hi hzi0 hzi1 hzi2 rfl (by decide) _ _ _ rfl (World.ownsRow.alloc (ownsRow_ext HO.out (by (repeat (first | with_reducible exact Ext.rfl' _ | with_reducible assumption | with_reducible refine Ext.al ?_ _ | with_reducible refine Ext.dr ?_ | with_reducible refine Ext.st ?_ (by simp) _ | with_reducible refine Ext.tr ?_ (by assumption))))) _) ⟨_, 0, none⟩ 1 1 [.int .i64 (f + (j : Int)), .int .i64 (f + (j : Int))] rfl rfl ?_ ?_ ?_ ?_ ?_ ?_))
              any_goals first | (exact two_new _ _ _ _; done) | (intro u hu; simp at hu; rcases hu with rfl | rfl <;> rfl) | (exact ⟨rfl, rfl⟩) | (unfold maxLen; omega) | omega | (simp; omega) | (have h9 := (hE.tr (show Ext wr w4 by (repeat (first | with_reducible exact Ext.rfl' _ | with_reducible assumption | with_reducible refine Ext.al ?_ _ | with_reducible refine Ext.dr ?_ | with_reducible refine Ext.st ?_ (by simp) _ | with_reducible refine Ext.tr ?_ (by assumption))))).size; simp; omega)
              intro v' w5 hown5 hgrow5 _
              clear hi hzi0 hzi1 hzi2
              have hE4 : Ext wr w4 := by (repeat (first | with_reducible exact Ext.rfl' _ | with_reducible assumption | with_reducible refine Ext.al ?_ _ | with_reducible refine Ext.dr ?_ | with_reducible refine Ext.st ?_ (by simp) _ | with_reducible refine Ext.tr ?_ (by assumption)))
              have hlt5 := World.ownsRow.lt (ownsRow_ext HO.out hE4)
              have hE5 : Ext w1 w5 := Below.grown (Ext.al (hE.tr hE4) _) hgrow5 (by have := (hE.tr hE4).size; simp; omega) (by intro q hq; exact (hlt5 q hq).1)
              go_wp2
              refine ⟨⟨hE5, j + 1, by omega, by go_num, ?_⟩, by simp [intOf]; omega⟩
              rw [HS.out]
              show w5.ownsRow _ _ _ _ _ _
              have e3 : (S ++ [p] ++ [(⟨f + (j : Int), f + (j : Int)⟩ : Pt)]).length = k + 1 + 1 := by simp [hk]
              have e4 : (S ++ [p] ++ [(⟨f + (j : Int), f + (j : Int)⟩ : Pt)]).flatMap encP = (S ++ [p]).flatMap encP ++ [.int .i64 (f + (j : Int)), .int .i64 (f + (j : Int))] := by simp [encP]
              rw [e3, e4]
              have h9 := hown5
              (try rw [hln] at h9)
              first | exact h9 | (simpa [encP] using h9)
            · have HS := Lib.hid (winL_more hgv hL (by simpa using hq))
              obtain ⟨b1, b2, b3, _⟩ := hpo
              obtain ⟨bq, hbq⟩ : ∃ bq, bq = g := ⟨_, rfl⟩
              subst hbq
              clear hgv hL hO2 hown
              go_wp2_with (first | (go_at_call 70; with_reducible refine Calls.mono (HP2.out _ (by (repeat (first | with_reducible exact Ext.rfl' _ | with_reducible assumption | with_reducible refine Ext.al ?_ _ | with_reducible refine Ext.dr ?_ | with_reducible refine Ext.st ?_ (by simp) _ | with_reducible refine Ext.tr ?_ (by assumption))))) ?_; rintro e w3 ⟨rfl, hb⟩; have hc := hb.ccell; have hf := hb.frz; have hs := hb.sz; (try simp at hs); (try have t0 := hs (w.heap.size) (by first | assumption | omega)); (try have t1 := hs (n) (by first | assumption | omega)); (try have t2 := hs (wr.heap.size) (by first | assumption | omega)); (try have t3 := hs (bq) (by first | assumption | omega)); (try have t4 := hs (wr.heap.size) (by first | assumption | omega)); (try have t5 := hs (wr.heap.size) (by first | assumption | omega))) | (go_at_call 77; with_reducible refine Calls.mono (HG.out _ (by (repeat (first | with_reducible exact Ext.rfl' _ | with_reducible assumption | with_reducible refine Ext.al ?_ _ | with_reducible refine Ext.dr ?_ | with_reducible refine Ext.st ?_ (by simp) _ | with_reducible refine Ext.tr ?_ (by assumption))))) ?_; rintro e w4 ⟨rfl, hb⟩; have hc := hb.ccell; have hf := hb.frz; have hs := hb.sz; (try simp at hs); (try have t0 := hs (w.heap.size) (by first | assumption | omega)); (try have t1 := hs (n) (by first | assumption | omega)); (try have t2 := hs (wr.heap.size) (by first | assumption | omega)); (try have t3 := hs (w3.heap.size) (by first | assumption | omega)); (try have t4 := hs (bq) (by first | assumption | omega)); (try have t5 := hs (wr.heap.size) (by first | assumption | omega))))
              have hE4 : Ext wr w4 := by (repeat (first | with_reducible exact Ext.rfl' _ | with_reducible assumption | with_reducible refine Ext.al ?_ _ | with_reducible refine Ext.dr ?_ | with_reducible refine Ext.st ?_ (by simp) _ | with_reducible refine Ext.tr ?_ (by assumption)))
              obtain ⟨h1, _⟩ := (HOW.out.ext hE4).setY k (by rw [hln]; omega) (f + (j : Int))
              have e1 : (S ++ [p]).set k ⟨((S ++ [p])[k]'(by rw [hln]; omega)).x, f + (j : Int)⟩ = S ++ [⟨p.x, f + (j : Int)⟩] := by subst hk; simp
              rw [e1] at h1
              refine ⟨⟨Ext.st (hE.tr hE4) hgb _, j + 1, by omega, by go_num, ?_⟩, by simp [intOf]; omega⟩
              rw [HS.out]
              have h2 := h1.to_row hgb
              have e2 : (S ++ [(⟨p.x, f + (j : Int)⟩ : Pt)]).length = k + 1 := by simp [hk]
              rw [e2] at h2 ⊢
              exact h2
    · have hjd : j = d + 1 := by omega
      subst hjd
      obtain ⟨A', c', hv, hg⟩ := ownG_cases hO.out
      subst hv
      have hle : ¬ f + ((d + 1 : Nat) : Int) ≤ f + (d : Int) := by omega
      clear hO
      go_wp2
      refine bodyPost_ret (v := .tuple #[.slice A' (winL (gP V lev) f (d + 1)).length c', .int .i64 0]) (by simp [results, Try.results75, go_sem]) rfl ⟨A', ⟨c', rfl⟩, ?_, by (repeat (first | with_reducible exact Ext.rfl' _ | with_reducible assumption | with_reducible refine Ext.al ?_ _ | with_reducible refine Ext.dr ?_ | with_reducible refine Ext.st ?_ (by simp) _ | with_reducible refine Ext.tr ?_ (by assumption)))⟩
      rcases hg with ⟨h, _, _⟩ | ⟨g, rfl, _, ho⟩
      · left; exact h
      · exact ho.row
end Go.Proofs.Ytblmljcgjibfgaa

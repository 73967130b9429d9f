/- What is sure is possible, is sure for every lower level, and with every smaller error; and the mean level is high enough: the law returns true for every input. Conditions: none. -/
import Derived.Test.YtblmljcgjibfgaaTbetter
import Derived.Test.YtblmljcgjibfgaaTlawpl
import Derived.Test.YtblmljcgjibfgaaTref
namespace Go.Proofs.Ytblmljcgjibfgaa
open Go Go.RowKit Go.IntWalk Go.Shelf

theorem light_shortN {gs : List Ga} {f t : Int} (h : lightB gs f t = true) : shortAllB gs = true := by
  unfold lightB at h
  rw [Bool.and_eq_true] at h
  exact h.1
theorem view_two {gs : List Ga} {x f t : Int} (hg : gausE gs = 0) (h : viewE gs x f t ≠ 0) : viewE gs x f t = 2 := by
  unfold viewE winE at *
  rw [hg] at h ⊢
  rw [if_neg (by simp)] at h ⊢
  split
  · rfl
  · rename_i hx
    rw [if_neg hx] at h
    split
    · rfl
    · rename_i hy
      rw [if_neg hy] at h
      exact absurd rfl h
theorem marks_bet (d : Int) {gs : List Ga} {w : World} (h : Marks w gs) : Marks w (betL d gs) := by
  intro k hk
  rw [bet_get]
  exact h k (by rw [bet_len] at hk; exact hk)
set_option maxHeartbeats 4000000 in
set_option maxRecDepth 100000 in
theorem ne_walk (gs : List Ga) (x f t lev : Int) (d : Int) (w : World) (A : Option Addr) (c : Nat) (hcap : gs.length ≤ c) (hd : 0 ≤ d ∧ d ≤ 255) (hA : Row 4 encG w A gs) (hM0 : ∀ k (hk : k < gs.length), Row 2 encP w gs[k].A gs[k].l) :
    Calls Try.prog 8 #[.agg #[.slice A gs.length c, .int .i64 x, .int .i64 f, .int .i64 t], .int .i64 lev, .int .u8 d] w
      fun e w' => e = .returned (.bool true) ∧ Ext w w' := by
  have HS := Lib.hid (fun w' (hw : Ext w w') => light_c gs x f t w' A c (hA.ext hw))
  cases hsh : lightB gs f t
  · rw [hsh] at HS
    clear hsh
    go_enter Try.func8, Try.ntmps8
    go_wp2_with (first | (go_at_call 15; with_reducible refine Calls.mono (awake_c _) ?_; rintro e w1 ⟨rfl, hb⟩; have hc := hb.ccell; have hf := hb.frz; have hs := hb.sz; (try simp at hs); (try have hs0 := hs w.heap.size (by omega)); (try have hs1 := hs (w.heap.size + 1) (by omega)); (try have hs2 := hs (w.heap.size + 1 + 1) (by omega)); (try have hs3 := hs (w.heap.size + 1 + 1 + 1) (by omega))) | (go_at_call 27; with_reducible refine Calls.mono (HS.out _ (by (repeat (first | with_reducible exact Ext.rfl' _ | with_reducible assumption | with_reducible refine Ext.al ?_ _ | with_reducible refine Ext.dr ?_ | with_reducible refine Ext.st ?_ (by simp) _ | with_reducible refine Ext.tr ?_ (by assumption))))) ?_; rintro e w1 ⟨rfl, hb⟩; have hc := hb.ccell; have hf := hb.frz; have hs := hb.sz; (try simp at hs); (try have hs0 := hs w.heap.size (by omega)); (try have hs1 := hs (w.heap.size + 1) (by omega)); (try have hs2 := hs (w.heap.size + 1 + 1) (by omega)); (try have hs3 := hs (w.heap.size + 1 + 1 + 1) (by omega))))
    go_ret
    exact ⟨rfl, by (repeat (first | with_reducible exact Ext.rfl' _ | with_reducible assumption | with_reducible refine Ext.al ?_ _ | with_reducible refine Ext.dr ?_ | with_reducible refine Ext.st ?_ (by simp) _ | with_reducible refine Ext.tr ?_ (by assumption)))⟩
  obtain ⟨hl, hM⟩ := short_marks (light_shortN hsh) hM0
  rw [hsh] at HS
  clear hsh hM0
  have HC := Lib.hid (fun w' (hw : Ext w w') => checkAll_c gs w' A c hl hcap (hA.ext hw) (hM.ext hw))
  by_cases hg : gausE gs = 0
  case neg =>
    generalize gausE gs = r at *
    have h' : (r == 0) = false := by simp [hg]
    go_enter Try.func8, Try.ntmps8
    go_wp2_with (first | (go_at_call 15; with_reducible refine Calls.mono (awake_c _) ?_; rintro e w1 ⟨rfl, hb⟩; have hc := hb.ccell; have hf := hb.frz; have hs := hb.sz; (try simp at hs); (try have hs0 := hs w.heap.size (by omega)); (try have hs1 := hs (w.heap.size + 1) (by omega)); (try have hs2 := hs (w.heap.size + 1 + 1) (by omega)); (try have hs3 := hs (w.heap.size + 1 + 1 + 1) (by omega))) | (go_at_call 27; with_reducible refine Calls.mono (HS.out _ (by (repeat (first | with_reducible exact Ext.rfl' _ | with_reducible assumption | with_reducible refine Ext.al ?_ _ | with_reducible refine Ext.dr ?_ | with_reducible refine Ext.st ?_ (by simp) _ | with_reducible refine Ext.tr ?_ (by assumption))))) ?_; rintro e w1 ⟨rfl, hb⟩; have hc := hb.ccell; have hf := hb.frz; have hs := hb.sz; (try simp at hs); (try have hs0 := hs w.heap.size (by omega)); (try have hs1 := hs (w.heap.size + 1) (by omega)); (try have hs2 := hs (w.heap.size + 1 + 1) (by omega)); (try have hs3 := hs (w.heap.size + 1 + 1 + 1) (by omega))) | (go_at_call 24; with_reducible refine Calls.mono (HC.out _ (by (repeat (first | with_reducible exact Ext.rfl' _ | with_reducible assumption | with_reducible refine Ext.al ?_ _ | with_reducible refine Ext.dr ?_ | with_reducible refine Ext.st ?_ (by simp) _ | with_reducible refine Ext.tr ?_ (by assumption))))) ?_; rintro e w1 ⟨rfl, hb⟩; have hc := hb.ccell; have hf := hb.frz; have hs := hb.sz; (try simp at hs); (try have hs0 := hs w.heap.size (by omega)); (try have hs1 := hs (w.heap.size + 1) (by omega)); (try have hs2 := hs (w.heap.size + 1 + 1) (by omega)); (try have hs3 := hs (w.heap.size + 1 + 1 + 1) (by omega))))
    go_ret
    exact ⟨rfl, by (repeat (first | with_reducible exact Ext.rfl' _ | with_reducible assumption | with_reducible refine Ext.al ?_ _ | with_reducible refine Ext.dr ?_ | with_reducible refine Ext.st ?_ (by simp) _ | with_reducible refine Ext.tr ?_ (by assumption)))⟩
  rw [hg] at HC
  have HGL := Lib.hid (gaus_good hg)
  have HW := Lib.hid (fun w => within3_c lev (-100000) 100000 w)
  cases hw : withinB lev (-100000) 100000
  · rw [hw] at HW
    clear hw
    go_enter Try.func8, Try.ntmps8
    go_wp2_with (first | (go_at_call 15; with_reducible refine Calls.mono (awake_c _) ?_; rintro e w1 ⟨rfl, hb⟩; have hc := hb.ccell; have hf := hb.frz; have hs := hb.sz; (try simp at hs); (try have hs0 := hs w.heap.size (by omega)); (try have hs1 := hs (w.heap.size + 1) (by omega)); (try have hs2 := hs (w.heap.size + 1 + 1) (by omega)); (try have hs3 := hs (w.heap.size + 1 + 1 + 1) (by omega))) | (go_at_call 27; with_reducible refine Calls.mono (HS.out _ (by (repeat (first | with_reducible exact Ext.rfl' _ | with_reducible assumption | with_reducible refine Ext.al ?_ _ | with_reducible refine Ext.dr ?_ | with_reducible refine Ext.st ?_ (by simp) _ | with_reducible refine Ext.tr ?_ (by assumption))))) ?_; rintro e w1 ⟨rfl, hb⟩; have hc := hb.ccell; have hf := hb.frz; have hs := hb.sz; (try simp at hs); (try have hs0 := hs w.heap.size (by omega)); (try have hs1 := hs (w.heap.size + 1) (by omega)); (try have hs2 := hs (w.heap.size + 1 + 1) (by omega)); (try have hs3 := hs (w.heap.size + 1 + 1 + 1) (by omega))) | (go_at_call 24; with_reducible refine Calls.mono (HC.out _ (by (repeat (first | with_reducible exact Ext.rfl' _ | with_reducible assumption | with_reducible refine Ext.al ?_ _ | with_reducible refine Ext.dr ?_ | with_reducible refine Ext.st ?_ (by simp) _ | with_reducible refine Ext.tr ?_ (by assumption))))) ?_; rintro e w1 ⟨rfl, hb⟩; have hc := hb.ccell; have hf := hb.frz; have hs := hb.sz; (try simp at hs); (try have hs0 := hs w.heap.size (by omega)); (try have hs1 := hs (w.heap.size + 1) (by omega)); (try have hs2 := hs (w.heap.size + 1 + 1) (by omega)); (try have hs3 := hs (w.heap.size + 1 + 1 + 1) (by omega))) | (go_at_call 25; with_reducible refine Calls.mono (HW.out _) ?_; rintro e w' ⟨rfl, rfl⟩))
    go_ret
    exact ⟨rfl, by (repeat (first | with_reducible exact Ext.rfl' _ | with_reducible assumption | with_reducible refine Ext.al ?_ _ | with_reducible refine Ext.dr ?_ | with_reducible refine Ext.st ?_ (by simp) _ | with_reducible refine Ext.tr ?_ (by assumption)))⟩
  rw [hw] at HW
  have hlv : -100000 ≤ lev ∧ lev ≤ 100000 := by unfold withinB at hw; simpa using hw
  obtain ⟨v0, v1⟩ := hlv
  clear hw
  go_enter Try.func8, Try.ntmps8
  go_wp2_with (first | (go_at_call 15; with_reducible refine Calls.mono (awake_c _) ?_; rintro e w1 ⟨rfl, hb⟩; have hc := hb.ccell; have hf := hb.frz; have hs := hb.sz; (try simp at hs); (try have hs0 := hs w.heap.size (by omega)); (try have hs1 := hs (w.heap.size + 1) (by omega)); (try have hs2 := hs (w.heap.size + 1 + 1) (by omega)); (try have hs3 := hs (w.heap.size + 1 + 1 + 1) (by omega))) | (go_at_call 27; with_reducible refine Calls.mono (HS.out _ (by (repeat (first | with_reducible exact Ext.rfl' _ | with_reducible assumption | with_reducible refine Ext.al ?_ _ | with_reducible refine Ext.dr ?_ | with_reducible refine Ext.st ?_ (by simp) _ | with_reducible refine Ext.tr ?_ (by assumption))))) ?_; rintro e w1 ⟨rfl, hb⟩; have hc := hb.ccell; have hf := hb.frz; have hs := hb.sz; (try simp at hs); (try have hs0 := hs w.heap.size (by omega)); (try have hs1 := hs (w.heap.size + 1) (by omega)); (try have hs2 := hs (w.heap.size + 1 + 1) (by omega)); (try have hs3 := hs (w.heap.size + 1 + 1 + 1) (by omega))) | (go_at_call 24; with_reducible refine Calls.mono (HC.out _ (by (repeat (first | with_reducible exact Ext.rfl' _ | with_reducible assumption | with_reducible refine Ext.al ?_ _ | with_reducible refine Ext.dr ?_ | with_reducible refine Ext.st ?_ (by simp) _ | with_reducible refine Ext.tr ?_ (by assumption))))) ?_; rintro e w1 ⟨rfl, hb⟩; have hc := hb.ccell; have hf := hb.frz; have hs := hb.sz; (try simp at hs); (try have hs0 := hs w.heap.size (by omega)); (try have hs1 := hs (w.heap.size + 1) (by omega)); (try have hs2 := hs (w.heap.size + 1 + 1) (by omega)); (try have hs3 := hs (w.heap.size + 1 + 1 + 1) (by omega))) | (go_at_call 25; with_reducible refine Calls.mono (HW.out _) ?_; rintro e w' ⟨rfl, rfl⟩) | (at_builtin; refine wpList_append_gs rfl _ _ rfl w1.heap.size _ rfl (World.ownsRow_lit _ #[] 0 ?_ (by decide) rfl) gs A c rfl (hA.ext ?_) hl ?_ ?_))
  any_goals first | (omega; done) | (simp; done) | (simp; omega; done) | ((repeat (first | with_reducible exact Ext.rfl' _ | with_reducible assumption | with_reducible refine Ext.al ?_ _ | with_reducible refine Ext.dr ?_ | with_reducible refine Ext.st ?_ (by simp) _ | with_reducible refine Ext.tr ?_ (by assumption))); done)
  intro v' w5 hown5 hgrow5
  have hE1 : Ext w w1 := by (repeat (first | with_reducible exact Ext.rfl' _ | with_reducible assumption | with_reducible refine Ext.al ?_ _ | with_reducible refine Ext.dr ?_ | with_reducible refine Ext.st ?_ (by simp) _ | with_reducible refine Ext.tr ?_ (by assumption)))
  have kp : Fo w1 w.heap.size (.slice A gs.length c) (.int .i64 x) (.int .i64 f) (.int .i64 t) := by refine ⟨?_, ?_, ?_, ?_⟩ <;> simp [*, go_sem]
  have hs1 : w.heap.size < w1.heap.size := hs0
  have hE5 : Ext w1 w5 := Below.grown (show Below w1.heap.size w1 (w1.alloc (.cells #[] 24)) from Ext.al (Ext.rfl' _) _) hgrow5 (by simp) (by intro q hq; simp [Value.ownBlock] at hq; omega)
  obtain ⟨A', c', hv, hcc, hO⟩ := ownA_cases hown5
  subst hv
  clear hgrow5 hown5 hs hs0 hc hf hb
  have HK := Lib.hid (And.intro hE1 (And.intro kp hs1))
  clear kp
  go_wp2
  go_loopw [8] (fun v wr => Ext w1 wr ∧ ∃ k : Nat, k ≤ gs.length ∧ v = .int .i64 k ∧ (gs = [] ∨ ∃ g, A' = some ⟨g, 0, none⟩ ∧ w1.heap.size ≤ g ∧ OwnA wr g c' (midB d gs k))) (fun v _ => gs.length - (intOf v).toNat)
  case atStart => exact ⟨hE5, 0, Nat.zero_le _, rfl, by rw [midB_zero]; exact hO⟩
  case round =>
    clear hO
    obtain ⟨hE, k, hk, rfl, hO⟩ := hrel
    by_cases hlt : k < gs.length
    · rcases hO with h | ⟨g, rfl, hgb, hO⟩
      · rw [h] at hlt; simp at hlt
      have hm := midB_len d gs k hk
      have hkm : k < (midB d gs k).length := by omega
      obtain ⟨b, off, hb, hz0, hcell⟩ := hO.row.p4 hkm
      injection hb with hb
      injection hb with hb1 hb2
      subst hb1 hb2
      have hc := hcell _ (Ext.rfl' wr)
      rw [midB_get d gs k hlt, Nat.zero_add] at hc
      obtain ⟨c0, c1, c2, c3⟩ := hc
      have hfz := fun o => hO.frozen o
      have hS := hO.setE k hkm (max 0 (gs[k].er - d))
      have hset := midB_set d gs k hlt
      rw [show erG (midB d gs k)[k] (max 0 (gs[k].er - d)) = betG d gs[k] by rw [midB_get d gs k hlt]; rfl, hset] at hS
      have HS := Lib.hid hS
      have her := HGL.out.ok k hlt |>.er
      rw [gg_lt gs k hlt] at her
      obtain ⟨r0, r1⟩ := her
      obtain ⟨d0, d1⟩ := id hd
      clear hcell hm hkm hS hset hO c0 c1 c3
      generalize gs[k].er = ek at *
      have hw1 : IntKind.i64.wrap (ek - d) = ek - d := i64_in _ (by omega)
      go_wp2
      exact ⟨⟨Ext.st hE hgb _, k + 1, by omega, by go_num, .inr ⟨g, rfl, hgb, HS.out⟩⟩, by simp [intOf]; omega⟩
    · have hkl : k = gs.length := by omega
      subst hkl
      have hRb : Row 4 encG wr A' (betL d gs) := by
        rcases hO with h | ⟨g, rfl, _, ho⟩
        · left; rw [h]; rfl
        · rw [midB_all] at ho; exact ho.row
      clear hO hk hlt
      have hEw : Ext w wr := HK.out.1.tr hE
      obtain ⟨p0, p1, p2, p3⟩ := Fo.all (HK.out.2.1.ext hE HK.out.2.2)
      have hzw := hE.sz _ HK.out.2.2
      by_cases h0 : viewE gs x f t = 0
      case neg =>
        have h2 := view_two hg h0
        have H1 := Lib.hid (fun l w' (hw : Ext w w') => sure_no_c gs x l f t w' A c hl hcap (hA.ext hw) (hM.ext hw) h0)
        have H2 := Lib.hid (fun w' (hw : Ext w w') => poss_no_c gs x lev f t w' A c hl hcap (hA.ext hw) (hM.ext hw) h0)
        have h3 : ∀ w', Ext wr w' → Calls Try.prog 31 #[.slice A' gs.length c', .int .i64 x, .int .i64 lev, .agg #[.int .i64 f, .int .i64 t]] w' fun e w'' => e = .returned (.tuple #[.slice none 0 0, .int .i64 2]) ∧ Ext w' w'' := by
          intro w' hw
          have h := sure_no_c (betL d gs) x lev f t w' A' c' (by rw [bet_len]; exact hl) (by rw [bet_len]; exact hcc) (hRb.ext hw) (marks_bet d (hM.ext (hEw.tr hw))) (by rw [view_bet hd.1 hg]; exact h0)
          rw [bet_len, view_bet hd.1 hg, h2] at h
          exact h
        have H3 := Lib.hid h3
        rw [h2] at H1 H2
        clear h3 h0 h2
        obtain ⟨d0, d1⟩ := id hd
        have hw1 : IntKind.i64.wrap (lev - d) = lev - d := i64_in _ (by omega)
        go_wp2_with (first | (go_at_call 31; with_reducible refine Calls.mono (H1.out _ _ (hEw.tr (by (repeat (first | with_reducible exact Ext.rfl' _ | with_reducible assumption | with_reducible refine Ext.al ?_ _ | with_reducible refine Ext.dr ?_ | with_reducible refine Ext.st ?_ (by simp) _ | with_reducible refine Ext.tr ?_ (by assumption)))))) ?_; rintro e w6 ⟨rfl, hb⟩; have hc := hb.ccell; have hf := hb.frz; have hs := hb.sz; (try simp at hs); (try have t0 := hs (w.heap.size) (by first | assumption | omega)); (try have t1 := hs (w.heap.size) (by first | assumption | omega)); (try have t2 := hs (w.heap.size) (by first | assumption | omega)); (try have t3 := hs (w.heap.size) (by first | assumption | omega)); (try have t4 := hs (w.heap.size) (by first | assumption | omega)); (try have t5 := hs (w.heap.size) (by first | assumption | omega))) | (go_at_call 32; with_reducible refine Calls.mono (H2.out _ (hEw.tr (by (repeat (first | with_reducible exact Ext.rfl' _ | with_reducible assumption | with_reducible refine Ext.al ?_ _ | with_reducible refine Ext.dr ?_ | with_reducible refine Ext.st ?_ (by simp) _ | with_reducible refine Ext.tr ?_ (by assumption)))))) ?_; rintro e w7 ⟨rfl, hb⟩; have hc := hb.ccell; have hf := hb.frz; have hs := hb.sz; (try simp at hs); (try have t0 := hs (w.heap.size) (by first | assumption | omega)); (try have t1 := hs (w.heap.size) (by first | assumption | omega)); (try have t2 := hs (w.heap.size) (by first | assumption | omega)); (try have t3 := hs (w.heap.size) (by first | assumption | omega)); (try have t4 := hs (w.heap.size) (by first | assumption | omega)); (try have t5 := hs (w.heap.size) (by first | assumption | omega))) | (go_at_call 31; with_reducible refine Calls.mono (H3.out _ (by (repeat (first | with_reducible exact Ext.rfl' _ | with_reducible assumption | with_reducible refine Ext.al ?_ _ | with_reducible refine Ext.dr ?_ | with_reducible refine Ext.st ?_ (by simp) _ | with_reducible refine Ext.tr ?_ (by assumption))))) ?_; rintro e w6 ⟨rfl, hb⟩; have hc := hb.ccell; have hf := hb.frz; have hs := hb.sz; (try simp at hs); (try have t0 := hs (w.heap.size) (by first | assumption | omega)); (try have t1 := hs (w.heap.size) (by first | assumption | omega)); (try have t2 := hs (w.heap.size) (by first | assumption | omega)); (try have t3 := hs (w.heap.size) (by first | assumption | omega)); (try have t4 := hs (w.heap.size) (by first | assumption | omega)); (try have t5 := hs (w.heap.size) (by first | assumption | omega))))
        go_ret
        exact ⟨by first | rfl | (simp; done) | (simp; omega), hEw.tr (by (repeat (first | with_reducible exact Ext.rfl' _ | with_reducible assumption | with_reducible refine Ext.al ?_ _ | with_reducible refine Ext.dr ?_ | with_reducible refine Ext.st ?_ (by simp) _ | with_reducible refine Ext.tr ?_ (by assumption))))⟩
      obtain ⟨hG, hx, f0, f1, f2⟩ := view_parts h0
      obtain ⟨n, hn⟩ : ∃ n : Nat, t = f + n := ⟨(t - f).toNat, by omega⟩
      subst hn
      obtain ⟨V, hV⟩ := lv_all hG x
      have hgb := gaus_bet hd.1 hg
      obtain ⟨V', hV'⟩ := lv_all (gaus_good hgb) x
      have H1 := Lib.hid (fun l w' (hw : Ext w w') => sure_c gs x l f n V w' A c hl hcap (hA.ext hw) (hM.ext hw) h0 hV)
      have H2 := Lib.hid (fun w' (hw : Ext w w') => poss_c gs x lev f n V w' A c hl hcap (hA.ext hw) (hM.ext hw) h0 hV)
      have h3 : ∀ w', Ext wr w' → Calls Try.prog 31 #[.slice A' gs.length c', .int .i64 x, .int .i64 lev, .agg #[.int .i64 f, .int .i64 (f + n)]] w' fun e w'' => ∃ A2 c2, e = .returned (.tuple #[.slice A2 (winL (gS V' lev) f (n + 1)).length c2, .int .i64 0]) ∧ Row 2 encP w'' A2 (winL (gS V' lev) f (n + 1)) ∧ Ext w' w'' := by
        intro w' hw
        have h := sure_c (betL d gs) x lev f n V' w' A' c' (by rw [bet_len]; exact hl) (by rw [bet_len]; exact hcc) (hRb.ext hw) (marks_bet d (hM.ext (hEw.tr hw))) (by rw [view_bet hd.1 hg]; exact h0) hV'
        rw [bet_len] at h
        exact h
      have H3 := Lib.hid h3
      have q1 : (winL (gS V lev) f (n + 1)).length ≤ 1000001 := by have := winL_len (gS V lev) f (n + 1); omega
      have q2 : (winL (gP V lev) f (n + 1)).length ≤ 1000001 := by have := winL_len (gP V lev) f (n + 1); omega
      have q3 : (winL (gS V (lev - d)) f (n + 1)).length ≤ 1000001 := by have := winL_len (gS V (lev - d)) f (n + 1); omega
      have q4 : (winL (gS V' lev) f (n + 1)).length ≤ 1000001 := by have := winL_len (gS V' lev) f (n + 1); omega
      have v1 := winL_cov (G := gS V lev) (H := gP V lev) (fun m h => sure_poss hG hV lev m h) f (n + 1)
      have v2 := winL_cov (G := gS V lev) (H := gS V (lev - d)) (fun m h => sure_less hd.1 m h) f (n + 1)
      have v3 := winL_cov (G := gS V lev) (H := gS V' lev) (fun m h => sure_bet hd.1 hG hV hV' lev m h) f (n + 1)
      have HMM := Lib.hid (fun p (hp : p ∈ winL (gS V lev) f (n + 1)) => winL_mem hp)
      have HH1 := Lib.hid (H1.out lev)
      have HH2 := Lib.hid (H1.out (lev - d))
      clear h3 H1
      generalize winL (gS V lev) f (n + 1) = La at *
      generalize winL (gP V lev) f (n + 1) = Lb at *
      generalize winL (gS V (lev - d)) f (n + 1) = Lc at *
      generalize winL (gS V' lev) f (n + 1) = Ld at *
      have K1 := Lib.hid (fun A B c c' w' (h1 : Row 2 encP w' A Lb) (h2 : Row 2 encP w' B La) => covers_c Lb La A B c c' w' q2 q1 h1 h2 v1)
      have K2 := Lib.hid (fun A B c c' w' (h1 : Row 2 encP w' A Lc) (h2 : Row 2 encP w' B La) => covers_c Lc La A B c c' w' q3 q1 h1 h2 v2)
      have K3 := Lib.hid (fun A B c c' w' (h1 : Row 2 encP w' A Ld) (h2 : Row 2 encP w' B La) => covers_c Ld La A B c c' w' q4 q1 h1 h2 v3)
      have HVV := Lib.hid hV
      have HGG := Lib.hid hG
      clear v1 v2 v3 hV hV' h0 hgb hG
      obtain ⟨d0, d1⟩ := id hd
      have hw1 : IntKind.i64.wrap (lev - d) = lev - d := i64_in _ (by omega)
      go_wp2_with (first | (go_at_call 31; with_reducible refine Calls.mono (HH1.out _ (hEw.tr (by (repeat (first | with_reducible exact Ext.rfl' _ | with_reducible assumption | with_reducible refine Ext.al ?_ _ | with_reducible refine Ext.dr ?_ | with_reducible refine Ext.st ?_ (by simp) _ | with_reducible refine Ext.tr ?_ (by assumption)))))) ?_; rintro e w6 ⟨A1, c1, rfl, hr1, hb⟩; have hc := hb.ccell; have hf := hb.frz; have hs := hb.sz; (try simp at hs); (try have t0 := hs (w.heap.size) (by first | assumption | omega)); (try have t1 := hs (w.heap.size) (by first | assumption | omega)); (try have t2 := hs (w.heap.size) (by first | assumption | omega)); (try have t3 := hs (w.heap.size) (by first | assumption | omega)); (try have t4 := hs (w.heap.size) (by first | assumption | omega)); (try have t5 := hs (w.heap.size) (by first | assumption | omega))) | (go_at_call 32; with_reducible refine Calls.mono (H2.out _ (hEw.tr (by (repeat (first | with_reducible exact Ext.rfl' _ | with_reducible assumption | with_reducible refine Ext.al ?_ _ | with_reducible refine Ext.dr ?_ | with_reducible refine Ext.st ?_ (by simp) _ | with_reducible refine Ext.tr ?_ (by assumption)))))) ?_; rintro e w7 ⟨A2, c2, rfl, hr2, hb⟩; have hc := hb.ccell; have hf := hb.frz; have hs := hb.sz; (try simp at hs); (try have t0 := hs (w.heap.size) (by first | assumption | omega)); (try have t1 := hs (w.heap.size) (by first | assumption | omega)); (try have t2 := hs (w.heap.size) (by first | assumption | omega)); (try have t3 := hs (w.heap.size) (by first | assumption | omega)); (try have t4 := hs (w.heap.size) (by first | assumption | omega)); (try have t5 := hs (w.heap.size) (by first | assumption | omega))) | (go_at_call 31; with_reducible refine Calls.mono (H3.out _ (by (repeat (first | with_reducible exact Ext.rfl' _ | with_reducible assumption | with_reducible refine Ext.al ?_ _ | with_reducible refine Ext.dr ?_ | with_reducible refine Ext.st ?_ (by simp) _ | with_reducible refine Ext.tr ?_ (by assumption))))) ?_; rintro e w9 ⟨A4, c4, rfl, hr4, hb⟩; have hc := hb.ccell; have hf := hb.frz; have hs := hb.sz; (try simp at hs); (try have t0 := hs (w.heap.size) (by first | assumption | omega)); (try have t1 := hs (w.heap.size) (by first | assumption | omega)); (try have t2 := hs (w.heap.size) (by first | assumption | omega)); (try have t3 := hs (w.heap.size) (by first | assumption | omega)); (try have t4 := hs (w.heap.size) (by first | assumption | omega)); (try have t5 := hs (w.heap.size) (by first | assumption | omega))) | (go_at_call 31; with_reducible refine Calls.mono (HH2.out _ (hEw.tr (by (repeat (first | with_reducible exact Ext.rfl' _ | with_reducible assumption | with_reducible refine Ext.al ?_ _ | with_reducible refine Ext.dr ?_ | with_reducible refine Ext.st ?_ (by simp) _ | with_reducible refine Ext.tr ?_ (by assumption)))))) ?_; rintro e w8 ⟨A3, c3, rfl, hr3, hb⟩; have hc := hb.ccell; have hf := hb.frz; have hs := hb.sz; (try simp at hs); (try have t0 := hs (w.heap.size) (by first | assumption | omega)); (try have t1 := hs (w.heap.size) (by first | assumption | omega)); (try have t2 := hs (w.heap.size) (by first | assumption | omega)); (try have t3 := hs (w.heap.size) (by first | assumption | omega)); (try have t4 := hs (w.heap.size) (by first | assumption | omega)); (try have t5 := hs (w.heap.size) (by first | assumption | omega))) | (go_at_call 38; with_reducible refine Calls.mono (K1.out _ _ _ _ _ (hr2.ext (by (repeat (first | with_reducible exact Ext.rfl' _ | with_reducible assumption | with_reducible refine Ext.al ?_ _ | with_reducible refine Ext.dr ?_ | with_reducible refine Ext.st ?_ (by simp) _ | with_reducible refine Ext.tr ?_ (by assumption))))) (hr1.ext (by (repeat (first | with_reducible exact Ext.rfl' _ | with_reducible assumption | with_reducible refine Ext.al ?_ _ | with_reducible refine Ext.dr ?_ | with_reducible refine Ext.st ?_ (by simp) _ | with_reducible refine Ext.tr ?_ (by assumption)))))) ?_; rintro e w10 ⟨rfl, hb⟩; have hc := hb.ccell; have hf := hb.frz; have hs := hb.sz; (try simp at hs); (try have t0 := hs (w.heap.size) (by first | assumption | omega)); (try have t1 := hs (w.heap.size) (by first | assumption | omega)); (try have t2 := hs (w.heap.size) (by first | assumption | omega)); (try have t3 := hs (w.heap.size) (by first | assumption | omega)); (try have t4 := hs (w.heap.size) (by first | assumption | omega)); (try have t5 := hs (w.heap.size) (by first | assumption | omega))) | (go_at_call 38; with_reducible refine Calls.mono (K2.out _ _ _ _ _ (hr3.ext (by (repeat (first | with_reducible exact Ext.rfl' _ | with_reducible assumption | with_reducible refine Ext.al ?_ _ | with_reducible refine Ext.dr ?_ | with_reducible refine Ext.st ?_ (by simp) _ | with_reducible refine Ext.tr ?_ (by assumption))))) (hr1.ext (by (repeat (first | with_reducible exact Ext.rfl' _ | with_reducible assumption | with_reducible refine Ext.al ?_ _ | with_reducible refine Ext.dr ?_ | with_reducible refine Ext.st ?_ (by simp) _ | with_reducible refine Ext.tr ?_ (by assumption)))))) ?_; rintro e w10 ⟨rfl, hb⟩; have hc := hb.ccell; have hf := hb.frz; have hs := hb.sz; (try simp at hs); (try have t0 := hs (w.heap.size) (by first | assumption | omega)); (try have t1 := hs (w.heap.size) (by first | assumption | omega)); (try have t2 := hs (w.heap.size) (by first | assumption | omega)); (try have t3 := hs (w.heap.size) (by first | assumption | omega)); (try have t4 := hs (w.heap.size) (by first | assumption | omega)); (try have t5 := hs (w.heap.size) (by first | assumption | omega))) | (go_at_call 38; with_reducible refine Calls.mono (K3.out _ _ _ _ _ (hr4.ext (by (repeat (first | with_reducible exact Ext.rfl' _ | with_reducible assumption | with_reducible refine Ext.al ?_ _ | with_reducible refine Ext.dr ?_ | with_reducible refine Ext.st ?_ (by simp) _ | with_reducible refine Ext.tr ?_ (by assumption))))) (hr1.ext (by (repeat (first | with_reducible exact Ext.rfl' _ | with_reducible assumption | with_reducible refine Ext.al ?_ _ | with_reducible refine Ext.dr ?_ | with_reducible refine Ext.st ?_ (by simp) _ | with_reducible refine Ext.tr ?_ (by assumption)))))) ?_; rintro e w10 ⟨rfl, hb⟩; have hc := hb.ccell; have hf := hb.frz; have hs := hb.sz; (try simp at hs); (try have t0 := hs (w.heap.size) (by first | assumption | omega)); (try have t1 := hs (w.heap.size) (by first | assumption | omega)); (try have t2 := hs (w.heap.size) (by first | assumption | omega)); (try have t3 := hs (w.heap.size) (by first | assumption | omega)); (try have t4 := hs (w.heap.size) (by first | assumption | omega)); (try have t5 := hs (w.heap.size) (by first | assumption | omega))))
      have hr : Row 2 encP w10 A1 La := hr1.ext (by (repeat (first | with_reducible exact Ext.rfl' _ | with_reducible assumption | with_reducible refine Ext.al ?_ _ | with_reducible refine Ext.dr ?_ | with_reducible refine Ext.st ?_ (by simp) _ | with_reducible refine Ext.tr ?_ (by assumption))))
      have hX : Ext wr w10 := by (repeat (first | with_reducible exact Ext.rfl' _ | with_reducible assumption | with_reducible refine Ext.al ?_ _ | with_reducible refine Ext.dr ?_ | with_reducible refine Ext.st ?_ (by simp) _ | with_reducible refine Ext.tr ?_ (by assumption)))
      have hEL : Ext w w10 := hEw.tr hX
      have kp : Fo w10 w.heap.size (.slice A gs.length c) (.int .i64 x) (.int .i64 f) (.int .i64 (f + n)) := ⟨(hX.ccell _ 0 hzw).trans p0, (hX.ccell _ 1 hzw).trans p1, (hX.ccell _ 2 hzw).trans p2, (hX.ccell _ 3 hzw).trans p3⟩
      have hzL := hX.sz _ hzw
      clear hr1 hr2 hr3 hr4 hc hf hs hb p0 p1 p2 p3 hX hw1
      go_loopw [17, 18, 19, 20, 21] (fun v _ _ _ _ wq => Ext w10 wq ∧ ∃ i : Nat, i ≤ La.length ∧ v = .int .i64 i) (fun v _ _ _ _ _ => La.length - (intOf v).toNat)
      case atStart => exact ⟨Ext.rfl' _, 0, Nat.zero_le _, rfl⟩
      case round =>
        obtain ⟨hq, i, hi, rfl⟩ := hrel
        have hEq := hEL.tr hq
        obtain ⟨p0, p1, p2, p3⟩ := Fo.all (kp.ext hq hzL)
        have hzq := hq.sz _ hzL
        by_cases hlt : i < La.length
        case neg =>
          go_wp2
          go_ret
          exact ⟨rfl, hEq⟩
        by_cases hone : gs.length = 1
        case neg =>
          have h1 : ((gs.length : Int) == 1) = false := by rw [beq_eq_false_iff_ne]; omega
          have h1n : (gs.length = 1) = False := eq_false hone
          go_wp2
          go_ret
          exact ⟨rfl, hEq⟩
        obtain ⟨g0, hg0⟩ := List.length_eq_one_iff.1 hone
        have hV1 := HVV.out
        have hG1 := HGG.out
        rw [hg0] at hV1 hG1
        obtain ⟨b, off, hAe, hb0, hcell⟩ := hr.p2 hlt
        obtain ⟨bg, og, hAg, hbg, hcg⟩ := hA.p4 (k := 0) (by omega)
        have hgg : gs[0]'(by omega) = g0 := by simp [hg0]
        have hMg := hM 0 (by omega)
        rw [hgg] at hcg hMg
        subst hAe
        have hgr : GoodR g0 := hG1.ok 0 (by simp)
        have hmem := HMM.out _ (List.getElem_mem hlt)
        obtain ⟨m0, m1, m2, m3⟩ := hmem
        have HCE := Lib.hid hcell
        have HCG := Lib.hid hcg
        have HM3 := Lib.hid m3
        have HV1 := Lib.hid hV1
        have HG1 := Lib.hid hG1
        clear hcell hcg m3 hV1 hG1 hgg
        obtain ⟨c1, c2⟩ := HCE.out _ hq
        have hzb := hq.sz _ hb0
        generalize La[i].x = px at *
        generalize La[i].y = py at *
        have h1 : ((gs.length : Int) == 1) = true := by rw [beq_iff_eq]; omega
        have hgz : 0 < (gs.length : Int) := by omega
        clear hone hg0
        go_wp2
        obtain ⟨wo, hwo⟩ : ∃ wo, wo = wr := ⟨_, rfl⟩
        subst hwo
        clear p0 p1 p2 p3 c1 c2 hzb hzq
        go_loopw [18, 19, 20, 21] (fun v _ _ _ wz => Ext wo wz ∧ ∃ j : Nat, (j : Int) ≤ py - px + 1 ∧ v = .int .i64 (px + (j : Int))) (fun v _ _ _ _ => (py + 1 - intOf v).toNat)
        case atStart => exact ⟨Ext.rfl' _, 0, by omega, by simp⟩
        case round =>
          obtain ⟨hz, j, hj, rfl⟩ := hrel
          have hzL2 := hq.tr hz
          have hEz := hEq.tr hz
          obtain ⟨p0, p1, p2, p3⟩ := Fo.all (kp.ext hzL2 hzL)
          obtain ⟨c1, c2⟩ := HCE.out _ hzL2
          have hzb := hzL2.sz _ hb0
          have hzq := hzL2.sz _ hzL
          by_cases hle : px + (j : Int) ≤ py
          · obtain ⟨p, hp⟩ := pos_some hgr.m (px + (j : Int))
            obtain ⟨ho, hmn⟩ := sure_mean HG1.out HV1.out (HM3.out (px + (j : Int)) (by omega) hle) hp
            have hME := Lib.hid (fun w' (hw : Ext w w') => rmean_c g0.s g0.x g0.er g0.l (px + (j : Int)) p w' g0.A g0.c hgr.m (by omega) (hMg.2.ext hw) hp)
            obtain ⟨e1, e2⟩ : rN g0.l (px + (j : Int)) p = mN g0.l (px + (j : Int)) p ∧ rD g0.l (px + (j : Int)) p = mD g0.l (px + (j : Int)) p := by
              unfold rN rD; rw [ho]; exact ⟨rfl, rfl⟩
            obtain ⟨k1, k2⟩ := m_bound hgr.m (show 0 ≤ px + (j : Int) ∧ px + (j : Int) ≤ 1000000 by omega) hp
            obtain ⟨k3, k4⟩ := k2 ho
            rw [e1, e2, ho] at hME
            obtain ⟨g1, g2, g3, g4⟩ := HCG.out _ hEz
            rw [Nat.zero_mul, Nat.add_zero] at g1 g2 g3 g4
            subst hAg
            have hzg := hEz.sz _ hbg
            have HMN := Lib.hid hmn
            clear e1 e2 k2 ho hp hmn
            generalize mN g0.l (px + (j : Int)) p = mn at *
            generalize mD g0.l (px + (j : Int)) p = md at *
            have u := mul_bound (x := lev) (y := md) (M := 100000) (N := 1000000) (by omega) (by omega) (by omega) (by omega)
            obtain ⟨u0, u1⟩ := u
            have hno : ¬ mn < lev * md := by have := HMN.out; omega
            go_wp2_with (first | (go_at_call 19; with_reducible refine Calls.mono (hME.out _ (hEz.tr (by (repeat (first | with_reducible exact Ext.rfl' _ | with_reducible assumption | with_reducible refine Ext.al ?_ _ | with_reducible refine Ext.dr ?_ | with_reducible refine Ext.st ?_ (by simp) _ | with_reducible refine Ext.tr ?_ (by assumption)))))) ?_; rintro e w12 ⟨rfl, hb⟩; have hc := hb.ccell; have hf := hb.frz; have hs := hb.sz; (try simp at hs); (try have t0 := hs (w.heap.size) (by first | assumption | omega)); (try have t1 := hs (b) (by first | assumption | omega)); (try have t2 := hs (bg) (by first | assumption | omega)); (try have t3 := hs (w.heap.size) (by first | assumption | omega)); (try have t4 := hs (w.heap.size) (by first | assumption | omega)); (try have t5 := hs (w.heap.size) (by first | assumption | omega))))
            exact ⟨⟨hz.tr (by (repeat (first | with_reducible exact Ext.rfl' _ | with_reducible assumption | with_reducible refine Ext.al ?_ _ | with_reducible refine Ext.dr ?_ | with_reducible refine Ext.st ?_ (by simp) _ | with_reducible refine Ext.tr ?_ (by assumption)))), j + 1, by omega, by go_num⟩, by simp [intOf]; omega⟩
          · go_wp2
            exact ⟨⟨hzL2, i + 1, by omega, by go_num⟩, by simp [intOf]; omega⟩
end Go.Proofs.Ytblmljcgjibfgaa

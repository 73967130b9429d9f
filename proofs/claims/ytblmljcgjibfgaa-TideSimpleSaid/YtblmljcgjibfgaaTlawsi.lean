/- Simplify is as specified, and changes the level at no minute: the law returns true for every input. Conditions: none. -/
import Derived.Test.YtblmljcgjibfgaaTrsimp
import Derived.Test.YtblmljcgjibfgaaTlawsh
namespace Go.Proofs.Ytblmljcgjibfgaa
open Go Go.RowKit Go.IntWalk Go.Shelf

theorem keep2 {W w' : World} {b0 b1 : Nat} (h : Ext W w') (h0 : b0 < W.heap.size) (h1 : b1 < W.heap.size) : (∀ j : Nat, w'.cell? ⟨b0, j, none⟩ = W.cell? ⟨b0, j, none⟩) ∧ (∀ j : Nat, w'.cell? ⟨b1, j, none⟩ = W.cell? ⟨b1, j, none⟩) ∧ Ext W w' :=
  ⟨fun j => h.ccell _ j h0, fun j => h.ccell _ j h1, h⟩
theorem none_c (w : World) : Calls Try.prog 52 #[.agg #[.string ⟨#[]⟩, .int .i64 0, .int .i64 0, .slice none 0 0]] w fun e w' => e = .returned (.bool true) ∧ Ext w w' := by
  have HSN : Hid (∀ w, Calls Try.prog 48 #[.agg #[.string ⟨#[]⟩, .int .i64 0, .int .i64 0, .slice none 0 0], .agg #[.string ⟨#[]⟩, .int .i64 0, .int .i64 0, .slice none 0 0]] w fun e w' => e = .returned (.bool true) ∧ Ext w w') :=
    fun w => same_c ⟨#[]⟩ 0 0 [] none none 0 0 w (by simp) (.inl rfl) (.inl rfl)
  go_enter Try.func52, Try.ntmps52
  go_wp2_with (first | (go_at_call 48; with_reducible refine Calls.mono (HSN.out _) ?_; rintro e w1 ⟨rfl, hb⟩; have hc := hb.ccell; have hf := hb.frz; have hs := hb.sz; (try simp at hs); (try have hs0 := hs w.heap.size (by omega)); (try have hs1 := hs (w.heap.size + 1) (by omega)); (try have hs2 := hs (w.heap.size + 1 + 1) (by omega)); (try have hs3 := hs (w.heap.size + 1 + 1 + 1) (by omega))))
  go_ret
  exact ⟨rfl, by (repeat (first | with_reducible exact Ext.rfl' _ | with_reducible assumption | with_reducible refine Ext.al ?_ _ | with_reducible refine Ext.dr ?_ | with_reducible refine Ext.st ?_ (by simp) _ | with_reducible refine Ext.tr ?_ (by assumption)))⟩
theorem simp_ok {s : ByteArray} {x er : Int} {l : List Pt} {w : World} {A : Option Addr} {c : Nat} (hl : l.length ≤ 1000) (hA : Row 2 encP w A l) (h : gaugeE s x er l = 0) :
    Calls Try.prog 51 #[.agg #[.string s, .int .i64 x, .int .i64 er, .slice A l.length c]] w
      fun e w' => ∃ A' c', e = .returned (.tuple #[.agg #[.string s, .int .i64 x, .int .i64 er, .slice A' (simL l).length c'], .int .i64 0]) ∧ Row 2 encP w' A' (simL l) ∧ Ext w w' := by
  refine Calls.mono (simp_c s x er l w A c hl hA) ?_
  rintro e w' ⟨⟨_, A', c', he, hr⟩ | ⟨hn, _⟩, hb⟩
  · exact ⟨A', c', he, hr, hb⟩
  · exact absurd h hn
theorem simp_no {s : ByteArray} {x er : Int} {l : List Pt} {w : World} {A : Option Addr} {c : Nat} (hl : l.length ≤ 1000) (hA : Row 2 encP w A l) (h : gaugeE s x er l ≠ 0) :
    Calls Try.prog 51 #[.agg #[.string s, .int .i64 x, .int .i64 er, .slice A l.length c]] w
      fun e w' => e = .returned (.tuple #[.agg #[.string ⟨#[]⟩, .int .i64 0, .int .i64 0, .slice none 0 0], .int .i64 (gaugeE s x er l)]) ∧ Ext w w' := by
  refine Calls.mono (simp_c s x er l w A c hl hA) ?_
  rintro e w' ⟨⟨hn, _⟩ | ⟨_, he⟩, hb⟩
  · exact absurd hn h
  · exact ⟨he, hb⟩
set_option maxHeartbeats 4000000 in
theorem si_walk (s : ByteArray) (x er : Int) (l : List Pt) (t : Int) (w : World) (A : Option Addr) (c : Nat) (hA : Row 2 encP w A l) :
    Calls Try.prog 12 #[.agg #[.string s, .int .i64 x, .int .i64 er, .slice A l.length c], .int .i64 t] w
      fun e w' => e = .returned (.bool true) ∧ Ext w w' := by
  have HS := Lib.hid (fun w => short_c s x er l w A c)
  cases hsh : shortB s l
  · rw [hsh] at HS
    clear hsh
    go_enter Try.func12, Try.ntmps12
    go_wp2_with (first | (go_at_call 15; with_reducible refine Calls.mono (awake_c _) ?_; rintro e w1 ⟨rfl, hb⟩; have hc := hb.ccell; have hf := hb.frz; have hs := hb.sz; (try simp at hs); (try have hs0 := hs w.heap.size (by omega)); (try have hs1 := hs (w.heap.size + 1) (by omega)); (try have hs2 := hs (w.heap.size + 1 + 1) (by omega)); (try have hs3 := hs (w.heap.size + 1 + 1 + 1) (by omega))) | (go_at_call 16; with_reducible refine Calls.mono (HS.out _) ?_; rintro e w1 ⟨rfl, hb⟩; have hc := hb.ccell; have hf := hb.frz; have hs := hb.sz; (try simp at hs); (try have hs0 := hs w.heap.size (by omega)); (try have hs1 := hs (w.heap.size + 1) (by omega)); (try have hs2 := hs (w.heap.size + 1 + 1) (by omega)); (try have hs3 := hs (w.heap.size + 1 + 1 + 1) (by omega))))
    go_ret
    exact ⟨rfl, by (repeat (first | with_reducible exact Ext.rfl' _ | with_reducible assumption | with_reducible refine Ext.al ?_ _ | with_reducible refine Ext.dr ?_ | with_reducible refine Ext.st ?_ (by simp) _ | with_reducible refine Ext.tr ?_ (by assumption)))⟩
  rw [hsh] at HS
  have hl : l.length ≤ 1000 := by
    unfold shortB at hsh
    simp at hsh
    omega
  clear hsh
  have HRC := Lib.hid (fun w' (hw : Ext w w') => rcheckGauge_c s x er l w' A c hl (hA.ext hw))
  by_cases h0 : gaugeE s x er l = 0
  case neg =>
    have H1 := Lib.hid (fun w' (hw : Ext w w') => simp_no (c := c) hl (hA.ext hw) h0)
    generalize gaugeE s x er l = r at *
    have h' : (r == 0) = false := by simp [h0]
    go_enter Try.func12, Try.ntmps12
    go_wp2_with (first | (go_at_call 15; with_reducible refine Calls.mono (awake_c _) ?_; rintro e w1 ⟨rfl, hb⟩; have hc := hb.ccell; have hf := hb.frz; have hs := hb.sz; (try simp at hs); (try have hs0 := hs w.heap.size (by omega)); (try have hs1 := hs (w.heap.size + 1) (by omega)); (try have hs2 := hs (w.heap.size + 1 + 1) (by omega)); (try have hs3 := hs (w.heap.size + 1 + 1 + 1) (by omega))) | (go_at_call 16; with_reducible refine Calls.mono (HS.out _) ?_; rintro e w1 ⟨rfl, hb⟩; have hc := hb.ccell; have hf := hb.frz; have hs := hb.sz; (try simp at hs); (try have hs0 := hs w.heap.size (by omega)); (try have hs1 := hs (w.heap.size + 1) (by omega)); (try have hs2 := hs (w.heap.size + 1 + 1) (by omega)); (try have hs3 := hs (w.heap.size + 1 + 1 + 1) (by omega))) | (go_at_call 51; with_reducible refine Calls.mono (H1.out _ (by (repeat (first | with_reducible exact Ext.rfl' _ | with_reducible assumption | with_reducible refine Ext.al ?_ _ | with_reducible refine Ext.dr ?_ | with_reducible refine Ext.st ?_ (by simp) _ | with_reducible refine Ext.tr ?_ (by assumption))))) ?_; rintro e wS ⟨rfl, hb⟩; have hc := hb.ccell; have hf := hb.frz; have hs := hb.sz; (try simp at hs); (try have t0 := hs (w.heap.size) (by first | assumption | omega)); (try have t1 := hs (w.heap.size) (by first | assumption | omega)); (try have t2 := hs (w.heap.size) (by first | assumption | omega)); (try have t3 := hs (w.heap.size) (by first | assumption | omega)); (try have t4 := hs (w.heap.size) (by first | assumption | omega)); (try have t5 := hs (w.heap.size) (by first | assumption | omega))) | (go_at_call 18; with_reducible refine Calls.mono (HRC.out _ (by (repeat (first | with_reducible exact Ext.rfl' _ | with_reducible assumption | with_reducible refine Ext.al ?_ _ | with_reducible refine Ext.dr ?_ | with_reducible refine Ext.st ?_ (by simp) _ | with_reducible refine Ext.tr ?_ (by assumption))))) ?_; rintro e wR ⟨rfl, hb⟩; have hc := hb.ccell; have hf := hb.frz; have hs := hb.sz; (try simp at hs); (try have t0 := hs (w.heap.size) (by first | assumption | omega)); (try have t1 := hs (wS.heap.size) (by first | assumption | omega)); (try have t2 := hs (w.heap.size) (by first | assumption | omega)); (try have t3 := hs (w.heap.size) (by first | assumption | omega)); (try have t4 := hs (w.heap.size) (by first | assumption | omega)); (try have t5 := hs (w.heap.size) (by first | assumption | omega))) | (go_at_call 52; with_reducible refine Calls.mono (none_c _) ?_; rintro e w1 ⟨rfl, hb⟩; have hc := hb.ccell; have hf := hb.frz; have hs := hb.sz; (try simp at hs); (try have hs0 := hs w.heap.size (by omega)); (try have hs1 := hs (w.heap.size + 1) (by omega)); (try have hs2 := hs (w.heap.size + 1 + 1) (by omega)); (try have hs3 := hs (w.heap.size + 1 + 1 + 1) (by omega))))
    go_ret
    exact ⟨rfl, by (repeat (first | with_reducible exact Ext.rfl' _ | with_reducible assumption | with_reducible refine Ext.al ?_ _ | with_reducible refine Ext.dr ?_ | with_reducible refine Ext.st ?_ (by simp) _ | with_reducible refine Ext.tr ?_ (by assumption)))⟩
  obtain ⟨_, _, he, hG⟩ := gaugeE_zero h0
  have hG2 := good_sim hG
  have hg2 := gaugeE_mk h0 hG2
  obtain ⟨n, hn⟩ : ∃ n, (simL l).length = n := ⟨_, rfl⟩
  have hl2 : (simL l).length ≤ 1000 := by have := hG2.len; omega
  have h1 : ∀ w', Ext w w' → Calls Try.prog 51 #[.agg #[.string s, .int .i64 x, .int .i64 er, .slice A l.length c]] w' fun e w'' => ∃ A' c', e = .returned (.tuple #[.agg #[.string s, .int .i64 x, .int .i64 er, .slice A' n c'], .int .i64 0]) ∧ Row 2 encP w'' A' (simL l) ∧ Ext w' w'' := by
    intro w' hw
    have h := simp_ok (c := c) hl (hA.ext hw) h0
    rw [hn] at h
    exact h
  have h2 : ∀ w', Ext w w' → Calls Try.prog 53 #[.agg #[.string s, .int .i64 x, .int .i64 er, .slice A l.length c]] w' fun e w'' => ∃ A' c', e = .returned (.agg #[.string s, .int .i64 x, .int .i64 er, .slice A' n c']) ∧ Row 2 encP w'' A' (simL l) ∧ Ext w' w'' := by
    intro w' hw
    have h := rsimp_c s x er l w' A c hG (hA.ext hw)
    rw [hn] at h
    exact h
  have h4 : ∀ A1 c1 A2 c2 w', Row 2 encP w' A1 (simL l) → Row 2 encP w' A2 (simL l) → Calls Try.prog 48 #[.agg #[.string s, .int .i64 x, .int .i64 er, .slice A1 n c1], .agg #[.string s, .int .i64 x, .int .i64 er, .slice A2 n c2]] w' fun e w'' => e = .returned (.bool true) ∧ Ext w' w'' := by
    intro A1 c1 A2 c2 w' hr hr2
    have h := same_c s x er (simL l) A1 A2 c1 c2 w' hl2 hr hr2
    rw [hn] at h
    exact h
  rw [h0] at HRC
  have H1 := Lib.hid h1
  have H2 := Lib.hid h2
  have H4 := Lib.hid h4
  clear h1 h2 h4
  cases ht : withinB t 0 1000000
  · have HA1 := Lib.hid (fun w' (hw : Ext w w') => at_out_c s x er l t w' A c hl (hA.ext hw) h0 ht)
    have ha2 : ∀ A1 c1 w', Row 2 encP w' A1 (simL l) → Calls Try.prog 17 #[.agg #[.string s, .int .i64 x, .int .i64 er, .slice A1 n c1], .int .i64 t] w' fun e w'' => e = .returned (.tuple #[.agg #[.int .i64 0, .int .i64 0], .int .i64 2]) ∧ Ext w' w'' := by
      intro A1 c1 w' hr
      have h := at_out_c s x er (simL l) t w' A1 c1 hl2 hr hg2 ht
      rw [hn] at h
      exact h
    have HA2 := Lib.hid ha2
    clear ha2 ht hg2 hG hG2 he hl2 h0 hn
    go_enter Try.func12, Try.ntmps12
    go_upto_region 9 with (first | (go_at_call 15; with_reducible refine Calls.mono (awake_c _) ?_; rintro e w1 ⟨rfl, hb⟩; have hc := hb.ccell; have hf := hb.frz; have hs := hb.sz; (try simp at hs); (try have hs0 := hs w.heap.size (by omega)); (try have hs1 := hs (w.heap.size + 1) (by omega)); (try have hs2 := hs (w.heap.size + 1 + 1) (by omega)); (try have hs3 := hs (w.heap.size + 1 + 1 + 1) (by omega))) | (go_at_call 16; with_reducible refine Calls.mono (HS.out _) ?_; rintro e w1 ⟨rfl, hb⟩; have hc := hb.ccell; have hf := hb.frz; have hs := hb.sz; (try simp at hs); (try have hs0 := hs w.heap.size (by omega)); (try have hs1 := hs (w.heap.size + 1) (by omega)); (try have hs2 := hs (w.heap.size + 1 + 1) (by omega)); (try have hs3 := hs (w.heap.size + 1 + 1 + 1) (by omega))) | (go_at_call 51; with_reducible refine Calls.mono (H1.out _ (by (repeat (first | with_reducible exact Ext.rfl' _ | with_reducible assumption | with_reducible refine Ext.al ?_ _ | with_reducible refine Ext.dr ?_ | with_reducible refine Ext.st ?_ (by simp) _ | with_reducible refine Ext.tr ?_ (by assumption))))) ?_; rintro e wS ⟨A1, c1, rfl, hr1, hb⟩; have hc := hb.ccell; have hf := hb.frz; have hs := hb.sz; (try simp at hs); (try have t0 := hs (w.heap.size) (by first | assumption | omega)); (try have t1 := hs (wS.heap.size) (by first | assumption | omega)); (try have t2 := hs (wR.heap.size) (by first | assumption | omega)); (try have t3 := hs (wB.heap.size) (by first | assumption | omega)); (try have t4 := hs (wA.heap.size) (by first | assumption | omega)); (try have t5 := hs (wC.heap.size) (by first | assumption | omega))) | (go_at_call 18; with_reducible refine Calls.mono (HRC.out _ (by (repeat (first | with_reducible exact Ext.rfl' _ | with_reducible assumption | with_reducible refine Ext.al ?_ _ | with_reducible refine Ext.dr ?_ | with_reducible refine Ext.st ?_ (by simp) _ | with_reducible refine Ext.tr ?_ (by assumption))))) ?_; rintro e wB ⟨rfl, hb⟩; have hc := hb.ccell; have hf := hb.frz; have hs := hb.sz; (try simp at hs); (try have t0 := hs (w.heap.size) (by first | assumption | omega)); (try have t1 := hs (wS.heap.size) (by first | assumption | omega)); (try have t2 := hs (wR.heap.size) (by first | assumption | omega)); (try have t3 := hs (wB.heap.size) (by first | assumption | omega)); (try have t4 := hs (wA.heap.size) (by first | assumption | omega)); (try have t5 := hs (wC.heap.size) (by first | assumption | omega))) | (go_at_call 53; with_reducible refine Calls.mono (H2.out _ (by (repeat (first | with_reducible exact Ext.rfl' _ | with_reducible assumption | with_reducible refine Ext.al ?_ _ | with_reducible refine Ext.dr ?_ | with_reducible refine Ext.st ?_ (by simp) _ | with_reducible refine Ext.tr ?_ (by assumption))))) ?_; rintro e wR ⟨A2, c2, rfl, hr2, hb⟩; have hc := hb.ccell; have hf := hb.frz; have hs := hb.sz; (try simp at hs); (try have t0 := hs (w.heap.size) (by first | assumption | omega)); (try have t1 := hs (wS.heap.size) (by first | assumption | omega)); (try have t2 := hs (wR.heap.size) (by first | assumption | omega)); (try have t3 := hs (wB.heap.size) (by first | assumption | omega)); (try have t4 := hs (wA.heap.size) (by first | assumption | omega)); (try have t5 := hs (wC.heap.size) (by first | assumption | omega))) | (go_at_call 48; with_reducible refine Calls.mono (H4.out _ _ _ _ _ (hr1.ext (by (repeat (first | with_reducible exact Ext.rfl' _ | with_reducible assumption | with_reducible refine Ext.al ?_ _ | with_reducible refine Ext.dr ?_ | with_reducible refine Ext.st ?_ (by simp) _ | with_reducible refine Ext.tr ?_ (by assumption))))) (hr2.ext (by (repeat (first | with_reducible exact Ext.rfl' _ | with_reducible assumption | with_reducible refine Ext.al ?_ _ | with_reducible refine Ext.dr ?_ | with_reducible refine Ext.st ?_ (by simp) _ | with_reducible refine Ext.tr ?_ (by assumption)))))) ?_; rintro e wQ ⟨rfl, hb⟩; have hc := hb.ccell; have hf := hb.frz; have hs := hb.sz; (try simp at hs); (try have t0 := hs (w.heap.size) (by first | assumption | omega)); (try have t1 := hs (wS.heap.size) (by first | assumption | omega)); (try have t2 := hs (wR.heap.size) (by first | assumption | omega)); (try have t3 := hs (wB.heap.size) (by first | assumption | omega)); (try have t4 := hs (wA.heap.size) (by first | assumption | omega)); (try have t5 := hs (wC.heap.size) (by first | assumption | omega))) | (go_at_call 17; with_reducible refine Calls.mono (HA1.out _ (by (repeat (first | with_reducible exact Ext.rfl' _ | with_reducible assumption | with_reducible refine Ext.al ?_ _ | with_reducible refine Ext.dr ?_ | with_reducible refine Ext.st ?_ (by simp) _ | with_reducible refine Ext.tr ?_ (by assumption))))) ?_; rintro e wA ⟨rfl, hb⟩; have hc := hb.ccell; have hf := hb.frz; have hs := hb.sz; (try simp at hs); (try have t0 := hs (w.heap.size) (by first | assumption | omega)); (try have t1 := hs (wS.heap.size) (by first | assumption | omega)); (try have t2 := hs (wR.heap.size) (by first | assumption | omega)); (try have t3 := hs (wB.heap.size) (by first | assumption | omega)); (try have t4 := hs (wA.heap.size) (by first | assumption | omega)); (try have t5 := hs (wC.heap.size) (by first | assumption | omega))) | (go_at_call 17; with_reducible refine Calls.mono (HA2.out _ _ _ (hr1.ext (by (repeat (first | with_reducible exact Ext.rfl' _ | with_reducible assumption | with_reducible refine Ext.al ?_ _ | with_reducible refine Ext.dr ?_ | with_reducible refine Ext.st ?_ (by simp) _ | with_reducible refine Ext.tr ?_ (by assumption)))))) ?_; rintro e wC ⟨rfl, hb⟩; have hc := hb.ccell; have hf := hb.frz; have hs := hb.sz; (try simp at hs); (try have t0 := hs (w.heap.size) (by first | assumption | omega)); (try have t1 := hs (wS.heap.size) (by first | assumption | omega)); (try have t2 := hs (wR.heap.size) (by first | assumption | omega)); (try have t3 := hs (wB.heap.size) (by first | assumption | omega)); (try have t4 := hs (wA.heap.size) (by first | assumption | omega)); (try have t5 := hs (wC.heap.size) (by first | assumption | omega))))
    have hr1B : Row 2 encP wB A1 (simL l) := hr1.ext (Ext.tr (Ext.al (Ext.rfl' _) _) hb)
    have kg : Fo wB w.heap.size (.string s) (.int .i64 x) (.int .i64 er) (.slice A l.length c) := by refine ⟨?_, ?_, ?_, ?_⟩ <;> simp [*, go_sem]
    have ks : Fo wB wS.heap.size (.string s) (.int .i64 x) (.int .i64 er) (.slice A1 n c1) := by refine ⟨?_, ?_, ?_, ?_⟩ <;> simp [*, go_sem]
    have hEB : Ext w wB := by (repeat (first | with_reducible exact Ext.rfl' _ | with_reducible assumption | with_reducible refine Ext.al ?_ _ | with_reducible refine Ext.dr ?_ | with_reducible refine Ext.st ?_ (by simp) _ | with_reducible refine Ext.tr ?_ (by assumption)))
    have hz0 : w.heap.size < wB.heap.size := by first | assumption | omega
    have hz : wS.heap.size < wB.heap.size := by first | assumption | omega
    obtain ⟨bs, hbs⟩ : ∃ b, wS.heap.size = b := ⟨_, rfl⟩
    rw [hbs] at ks hz ⊢
    obtain ⟨g0, g1, g2, g3⟩ := kg.all
    obtain ⟨s0, s1, s2, s3⟩ := ks.all
    have KG := Lib.hid (And.intro kg ks)
    clear hc hb hs hf kg ks
    refine wp_region_held_drew (S := (fun w' => (∀ j : Nat, w'.cell? ⟨w.heap.size, j, none⟩ = wB.cell? ⟨w.heap.size, j, none⟩) ∧ (∀ j : Nat, w'.cell? ⟨bs, j, none⟩ = wB.cell? ⟨bs, j, none⟩) ∧ Ext wB w')) (by kernel_rfl) ?_ (fun hHeld => ?_)
    · (try dsimp only); refine keep2 ?_ hz0 hz; (repeat (first | with_reducible exact Ext.rfl' _ | with_reducible assumption | (exact (by assumption : _ ∧ _ ∧ Ext wB _).2.2) | with_reducible refine Ext.al ?_ _ | with_reducible refine Ext.dr ?_ | with_reducible refine Ext.st ?_ (by simp) _ | with_reducible refine Ext.tr ?_ (by assumption)))
    refine wpAnyH_take (i := 0) (v := _) rfl (by kernel_rfl) (by kernel_rfl) (by kernel_rfl) (fun _ _ _ h => h) (Or.inl ⟨by kernel_rfl, by intro w hSw; (try dsimp only at hSw); go_simp; (try with_reducible rfl)⟩) (by assumption) ?_
    (try simp only [Act.put, List.getElem_toArray, List.getElem_cons_zero, List.setIfInBounds_toArray, List.set_cons_zero, List.set_cons_succ])
    refine wpAnyH_take (i := 1) (v := _) rfl (by kernel_rfl) (by kernel_rfl) (by kernel_rfl) (fun _ _ _ h => h) (Or.inl ⟨by kernel_rfl, by intro w hSw; (try dsimp only at hSw); go_simp; (try with_reducible rfl)⟩) (by assumption) ?_
    (try simp only [Act.put, List.getElem_toArray, List.getElem_cons_zero, List.getElem_cons_succ, List.setIfInBounds_toArray, List.set_cons_zero, List.set_cons_succ])
    refine wpAnyH_take (i := 2) (v := _) rfl (by kernel_rfl) (by kernel_rfl) (by kernel_rfl) (fun _ _ _ h => h) (Or.inl ⟨by kernel_rfl, by intro w hSw; (try dsimp only at hSw); go_simp; (try with_reducible rfl)⟩) (by assumption) ?_
    (try simp only [Act.put, List.getElem_toArray, List.getElem_cons_zero, List.getElem_cons_succ, List.setIfInBounds_toArray, List.set_cons_zero, List.set_cons_succ])
    refine wpAnyH_take (i := 3) (v := _) rfl (by kernel_rfl) (by kernel_rfl) (by kernel_rfl) (fun _ _ _ h => h) (Or.inl ⟨by kernel_rfl, by intro w hSw; (try dsimp only at hSw); go_simp; (try with_reducible rfl)⟩) (by assumption) ?_
    (try simp only [Act.put, List.getElem_toArray, List.getElem_cons_zero, List.getElem_cons_succ, List.setIfInBounds_toArray, List.set_cons_zero, List.set_cons_succ])
    refine wpAnyH_take (i := 4) (v := _) rfl (by kernel_rfl) (by kernel_rfl) (by kernel_rfl) (fun _ _ _ h => h) (Or.inl ⟨by kernel_rfl, by intro w hSw; (try dsimp only at hSw); go_simp; (try with_reducible rfl)⟩) (by assumption) ?_
    (try simp only [Act.put, List.getElem_toArray, List.getElem_cons_zero, List.getElem_cons_succ, List.setIfInBounds_toArray, List.set_cons_zero, List.set_cons_succ])
    refine wpAnyH_ready (rs := [5]) (by kernel_rfl) (by simp) ?_
    refine AllReadyH.cons (o := _) rfl (fun K hK => ?_) AllReadyH.nil
    go_simp
    (go_at_call 53; refine Calls.mono (H2.out _ (hEB.tr (Ext.dr (Ext.rfl' _)))) ?_; rintro e w1 ⟨A2, c2, rfl, hr2, hb⟩)
    refine hK.out _ _ ?_ (fun hHeld => ?_)
    · (try dsimp only); refine keep2 ?_ hz0 hz; (repeat (first | with_reducible exact Ext.rfl' _ | with_reducible assumption | (exact (by assumption : _ ∧ _ ∧ Ext wB _).2.2) | with_reducible refine Ext.al ?_ _ | with_reducible refine Ext.dr ?_ | with_reducible refine Ext.st ?_ (by simp) _ | with_reducible refine Ext.tr ?_ (by assumption)))
    clear hK K
    (try simp only [Act.put, List.getElem_toArray, List.getElem_cons_zero, List.getElem_cons_succ, List.setIfInBounds_toArray, List.set_cons_zero, List.set_cons_succ])
    refine wpAnyH_ready (rs := [6]) (by kernel_rfl) (by simp) ?_
    refine AllReadyH.cons (o := _) rfl (fun K hK => ?_) AllReadyH.nil
    go_simp
    (go_at_call 48; refine Calls.mono (H4.out _ _ _ _ _ (hr1B.ext ((Ext.dr (Ext.rfl' _)).tr hb)) hr2) ?_; rintro e w2 ⟨rfl, hb2⟩)
    refine hK.out _ _ ?_ (fun hHeld => ?_)
    · (try dsimp only); refine keep2 ?_ hz0 hz; (repeat (first | with_reducible exact Ext.rfl' _ | with_reducible assumption | (exact (by assumption : _ ∧ _ ∧ Ext wB _).2.2) | with_reducible refine Ext.al ?_ _ | with_reducible refine Ext.dr ?_ | with_reducible refine Ext.st ?_ (by simp) _ | with_reducible refine Ext.tr ?_ (by assumption)))
    clear hK K
    (try simp only [Act.put, List.getElem_toArray, List.getElem_cons_zero, List.getElem_cons_succ, List.setIfInBounds_toArray, List.set_cons_zero, List.set_cons_succ])
    refine wpAnyH_take (i := 7) (v := _) rfl (by kernel_rfl) (by kernel_rfl) (by kernel_rfl) (fun _ _ _ h => h) (Or.inl ⟨by kernel_rfl, by intro w hSw; (try dsimp only at hSw); go_simp; (try with_reducible rfl)⟩) (by assumption) ?_
    (try simp only [Act.put, List.getElem_toArray, List.getElem_cons_zero, List.getElem_cons_succ, List.setIfInBounds_toArray, List.set_cons_zero, List.set_cons_succ])
    refine wpAnyH_take (i := 8) (v := _) rfl (by kernel_rfl) (by kernel_rfl) (by kernel_rfl) (fun _ _ _ h => h) (Or.inl ⟨by kernel_rfl, by intro w hSw; (try dsimp only at hSw); go_simp; (try with_reducible rfl)⟩) (by assumption) ?_
    (try simp only [Act.put, List.getElem_toArray, List.getElem_cons_zero, List.getElem_cons_succ, List.setIfInBounds_toArray, List.set_cons_zero, List.set_cons_succ])
    refine wpAnyH_done (by kernel_rfl) ?_ _
    have hEn := hHeld.2.2
    have hc := hEn.ccell
    have hf := hEn.frz
    have hs := hEn.sz
    have hr1 := hr1B.ext hEn
    have hEw2 := hEB.tr hEn
    have zw0 := hEn.sz _ hz0
    have zw1 := hEn.sz _ hz
    clear hr2 hb hb2 hHeld
    go_wp2_with (first | (go_at_call 17; with_reducible refine Calls.mono (HA1.out _ (by (repeat (first | with_reducible exact Ext.rfl' _ | with_reducible assumption | with_reducible refine Ext.al ?_ _ | with_reducible refine Ext.dr ?_ | with_reducible refine Ext.st ?_ (by simp) _ | with_reducible refine Ext.tr ?_ (by assumption))))) ?_; rintro e wA ⟨rfl, hb⟩; have hc := hb.ccell; have hf := hb.frz; have hs := hb.sz; (try simp at hs); (try have t0 := hs (w.heap.size) (by first | assumption | omega)); (try have t1 := hs (bs) (by first | assumption | omega)); (try have t2 := hs (bs) (by first | assumption | omega)); (try have t3 := hs (bs) (by first | assumption | omega)); (try have t4 := hs (bs) (by first | assumption | omega)); (try have t5 := hs (bs) (by first | assumption | omega))) | (go_at_call 17; with_reducible refine Calls.mono (HA2.out _ _ _ (hr1.ext (by first | assumption | ((repeat (first | with_reducible exact Ext.rfl' _ | with_reducible assumption | with_reducible refine Ext.al ?_ _ | with_reducible refine Ext.dr ?_ | with_reducible refine Ext.st ?_ (by simp) _ | with_reducible refine Ext.tr ?_ (by assumption))))))) ?_; rintro e wC ⟨rfl, hb⟩; have hc := hb.ccell; have hf := hb.frz; have hs := hb.sz; (try simp at hs); (try have t0 := hs (w.heap.size) (by first | assumption | omega)); (try have t1 := hs (bs) (by first | assumption | omega)); (try have t2 := hs (bs) (by first | assumption | omega)); (try have t3 := hs (bs) (by first | assumption | omega)); (try have t4 := hs (bs) (by first | assumption | omega)); (try have t5 := hs (bs) (by first | assumption | omega))))
    go_ret
    exact ⟨by first | rfl | (simp; done) | (simp; omega), by (repeat (first | with_reducible exact Ext.rfl' _ | with_reducible assumption | with_reducible refine Ext.al ?_ _ | with_reducible refine Ext.dr ?_ | with_reducible refine Ext.st ?_ (by simp) _ | with_reducible refine Ext.tr ?_ (by assumption)))⟩
  · obtain ⟨i, hp⟩ := pos_some hG t
    obtain ⟨j, hq⟩ := pos_some hG2 t
    have HA1 := Lib.hid (fun w' (hw : Ext w w') => at_ok_c s x er l t i w' A c (hA.ext hw) h0 ht hp)
    obtain ⟨lv1, lv2, lv3⟩ := sim_lev (er := er) hG hp hq
    have ha2 : ∀ A1 c1 w', Row 2 encP w' A1 (simL l) → Calls Try.prog 17 #[.agg #[.string s, .int .i64 x, .int .i64 er, .slice A1 n c1], .int .i64 t] w' fun e w'' => e = .returned (.tuple #[.agg #[.int .i64 (gLo er l t i), .int .i64 (gHi er l t i)], .int .i64 (if mOk l t i then 0 else 11)]) ∧ Ext w' w'' := by
      intro A1 c1 w' hr
      have h := at_ok_c s x er (simL l) t j w' A1 c1 hr hg2 ht hq
      rw [hn, lv1, lv2, lv3] at h
      exact h
    have HA2 := Lib.hid ha2
    clear ha2 ht hg2 hG hG2 he hl2 h0 hn lv1 lv2 lv3 hp hq
    generalize gLo er l t i = lo at *
    generalize gHi er l t i = hi at *
    generalize (if mOk l t i then (0 : Int) else 11) = ec at *
    go_enter Try.func12, Try.ntmps12
    go_upto_region 9 with (first | (go_at_call 15; with_reducible refine Calls.mono (awake_c _) ?_; rintro e w1 ⟨rfl, hb⟩; have hc := hb.ccell; have hf := hb.frz; have hs := hb.sz; (try simp at hs); (try have hs0 := hs w.heap.size (by omega)); (try have hs1 := hs (w.heap.size + 1) (by omega)); (try have hs2 := hs (w.heap.size + 1 + 1) (by omega)); (try have hs3 := hs (w.heap.size + 1 + 1 + 1) (by omega))) | (go_at_call 16; with_reducible refine Calls.mono (HS.out _) ?_; rintro e w1 ⟨rfl, hb⟩; have hc := hb.ccell; have hf := hb.frz; have hs := hb.sz; (try simp at hs); (try have hs0 := hs w.heap.size (by omega)); (try have hs1 := hs (w.heap.size + 1) (by omega)); (try have hs2 := hs (w.heap.size + 1 + 1) (by omega)); (try have hs3 := hs (w.heap.size + 1 + 1 + 1) (by omega))) | (go_at_call 51; with_reducible refine Calls.mono (H1.out _ (by (repeat (first | with_reducible exact Ext.rfl' _ | with_reducible assumption | with_reducible refine Ext.al ?_ _ | with_reducible refine Ext.dr ?_ | with_reducible refine Ext.st ?_ (by simp) _ | with_reducible refine Ext.tr ?_ (by assumption))))) ?_; rintro e wS ⟨A1, c1, rfl, hr1, hb⟩; have hc := hb.ccell; have hf := hb.frz; have hs := hb.sz; (try simp at hs); (try have t0 := hs (w.heap.size) (by first | assumption | omega)); (try have t1 := hs (wS.heap.size) (by first | assumption | omega)); (try have t2 := hs (wR.heap.size) (by first | assumption | omega)); (try have t3 := hs (wB.heap.size) (by first | assumption | omega)); (try have t4 := hs (wA.heap.size) (by first | assumption | omega)); (try have t5 := hs (wC.heap.size) (by first | assumption | omega))) | (go_at_call 18; with_reducible refine Calls.mono (HRC.out _ (by (repeat (first | with_reducible exact Ext.rfl' _ | with_reducible assumption | with_reducible refine Ext.al ?_ _ | with_reducible refine Ext.dr ?_ | with_reducible refine Ext.st ?_ (by simp) _ | with_reducible refine Ext.tr ?_ (by assumption))))) ?_; rintro e wB ⟨rfl, hb⟩; have hc := hb.ccell; have hf := hb.frz; have hs := hb.sz; (try simp at hs); (try have t0 := hs (w.heap.size) (by first | assumption | omega)); (try have t1 := hs (wS.heap.size) (by first | assumption | omega)); (try have t2 := hs (wR.heap.size) (by first | assumption | omega)); (try have t3 := hs (wB.heap.size) (by first | assumption | omega)); (try have t4 := hs (wA.heap.size) (by first | assumption | omega)); (try have t5 := hs (wC.heap.size) (by first | assumption | omega))) | (go_at_call 53; with_reducible refine Calls.mono (H2.out _ (by (repeat (first | with_reducible exact Ext.rfl' _ | with_reducible assumption | with_reducible refine Ext.al ?_ _ | with_reducible refine Ext.dr ?_ | with_reducible refine Ext.st ?_ (by simp) _ | with_reducible refine Ext.tr ?_ (by assumption))))) ?_; rintro e wR ⟨A2, c2, rfl, hr2, hb⟩; have hc := hb.ccell; have hf := hb.frz; have hs := hb.sz; (try simp at hs); (try have t0 := hs (w.heap.size) (by first | assumption | omega)); (try have t1 := hs (wS.heap.size) (by first | assumption | omega)); (try have t2 := hs (wR.heap.size) (by first | assumption | omega)); (try have t3 := hs (wB.heap.size) (by first | assumption | omega)); (try have t4 := hs (wA.heap.size) (by first | assumption | omega)); (try have t5 := hs (wC.heap.size) (by first | assumption | omega))) | (go_at_call 48; with_reducible refine Calls.mono (H4.out _ _ _ _ _ (hr1.ext (by (repeat (first | with_reducible exact Ext.rfl' _ | with_reducible assumption | with_reducible refine Ext.al ?_ _ | with_reducible refine Ext.dr ?_ | with_reducible refine Ext.st ?_ (by simp) _ | with_reducible refine Ext.tr ?_ (by assumption))))) (hr2.ext (by (repeat (first | with_reducible exact Ext.rfl' _ | with_reducible assumption | with_reducible refine Ext.al ?_ _ | with_reducible refine Ext.dr ?_ | with_reducible refine Ext.st ?_ (by simp) _ | with_reducible refine Ext.tr ?_ (by assumption)))))) ?_; rintro e wQ ⟨rfl, hb⟩; have hc := hb.ccell; have hf := hb.frz; have hs := hb.sz; (try simp at hs); (try have t0 := hs (w.heap.size) (by first | assumption | omega)); (try have t1 := hs (wS.heap.size) (by first | assumption | omega)); (try have t2 := hs (wR.heap.size) (by first | assumption | omega)); (try have t3 := hs (wB.heap.size) (by first | assumption | omega)); (try have t4 := hs (wA.heap.size) (by first | assumption | omega)); (try have t5 := hs (wC.heap.size) (by first | assumption | omega))) | (go_at_call 17; with_reducible refine Calls.mono (HA1.out _ (by (repeat (first | with_reducible exact Ext.rfl' _ | with_reducible assumption | with_reducible refine Ext.al ?_ _ | with_reducible refine Ext.dr ?_ | with_reducible refine Ext.st ?_ (by simp) _ | with_reducible refine Ext.tr ?_ (by assumption))))) ?_; rintro e wA ⟨rfl, hb⟩; have hc := hb.ccell; have hf := hb.frz; have hs := hb.sz; (try simp at hs); (try have t0 := hs (w.heap.size) (by first | assumption | omega)); (try have t1 := hs (wS.heap.size) (by first | assumption | omega)); (try have t2 := hs (wR.heap.size) (by first | assumption | omega)); (try have t3 := hs (wB.heap.size) (by first | assumption | omega)); (try have t4 := hs (wA.heap.size) (by first | assumption | omega)); (try have t5 := hs (wC.heap.size) (by first | assumption | omega))) | (go_at_call 17; with_reducible refine Calls.mono (HA2.out _ _ _ (hr1.ext (by (repeat (first | with_reducible exact Ext.rfl' _ | with_reducible assumption | with_reducible refine Ext.al ?_ _ | with_reducible refine Ext.dr ?_ | with_reducible refine Ext.st ?_ (by simp) _ | with_reducible refine Ext.tr ?_ (by assumption)))))) ?_; rintro e wC ⟨rfl, hb⟩; have hc := hb.ccell; have hf := hb.frz; have hs := hb.sz; (try simp at hs); (try have t0 := hs (w.heap.size) (by first | assumption | omega)); (try have t1 := hs (wS.heap.size) (by first | assumption | omega)); (try have t2 := hs (wR.heap.size) (by first | assumption | omega)); (try have t3 := hs (wB.heap.size) (by first | assumption | omega)); (try have t4 := hs (wA.heap.size) (by first | assumption | omega)); (try have t5 := hs (wC.heap.size) (by first | assumption | omega))))
    have hr1B : Row 2 encP wB A1 (simL l) := hr1.ext (Ext.tr (Ext.al (Ext.rfl' _) _) hb)
    have kg : Fo wB w.heap.size (.string s) (.int .i64 x) (.int .i64 er) (.slice A l.length c) := by refine ⟨?_, ?_, ?_, ?_⟩ <;> simp [*, go_sem]
    have ks : Fo wB wS.heap.size (.string s) (.int .i64 x) (.int .i64 er) (.slice A1 n c1) := by refine ⟨?_, ?_, ?_, ?_⟩ <;> simp [*, go_sem]
    have hEB : Ext w wB := by (repeat (first | with_reducible exact Ext.rfl' _ | with_reducible assumption | with_reducible refine Ext.al ?_ _ | with_reducible refine Ext.dr ?_ | with_reducible refine Ext.st ?_ (by simp) _ | with_reducible refine Ext.tr ?_ (by assumption)))
    have hz0 : w.heap.size < wB.heap.size := by first | assumption | omega
    have hz : wS.heap.size < wB.heap.size := by first | assumption | omega
    obtain ⟨bs, hbs⟩ : ∃ b, wS.heap.size = b := ⟨_, rfl⟩
    rw [hbs] at ks hz ⊢
    obtain ⟨g0, g1, g2, g3⟩ := kg.all
    obtain ⟨s0, s1, s2, s3⟩ := ks.all
    have KG := Lib.hid (And.intro kg ks)
    clear hc hb hs hf kg ks
    refine wp_region_held_drew (S := (fun w' => (∀ j : Nat, w'.cell? ⟨w.heap.size, j, none⟩ = wB.cell? ⟨w.heap.size, j, none⟩) ∧ (∀ j : Nat, w'.cell? ⟨bs, j, none⟩ = wB.cell? ⟨bs, j, none⟩) ∧ Ext wB w')) (by kernel_rfl) ?_ (fun hHeld => ?_)
    · (try dsimp only); refine keep2 ?_ hz0 hz; (repeat (first | with_reducible exact Ext.rfl' _ | with_reducible assumption | (exact (by assumption : _ ∧ _ ∧ Ext wB _).2.2) | with_reducible refine Ext.al ?_ _ | with_reducible refine Ext.dr ?_ | with_reducible refine Ext.st ?_ (by simp) _ | with_reducible refine Ext.tr ?_ (by assumption)))
    refine wpAnyH_take (i := 0) (v := _) rfl (by kernel_rfl) (by kernel_rfl) (by kernel_rfl) (fun _ _ _ h => h) (Or.inl ⟨by kernel_rfl, by intro w hSw; (try dsimp only at hSw); go_simp; (try with_reducible rfl)⟩) (by assumption) ?_
    (try simp only [Act.put, List.getElem_toArray, List.getElem_cons_zero, List.setIfInBounds_toArray, List.set_cons_zero, List.set_cons_succ])
    refine wpAnyH_take (i := 1) (v := _) rfl (by kernel_rfl) (by kernel_rfl) (by kernel_rfl) (fun _ _ _ h => h) (Or.inl ⟨by kernel_rfl, by intro w hSw; (try dsimp only at hSw); go_simp; (try with_reducible rfl)⟩) (by assumption) ?_
    (try simp only [Act.put, List.getElem_toArray, List.getElem_cons_zero, List.getElem_cons_succ, List.setIfInBounds_toArray, List.set_cons_zero, List.set_cons_succ])
    refine wpAnyH_take (i := 2) (v := _) rfl (by kernel_rfl) (by kernel_rfl) (by kernel_rfl) (fun _ _ _ h => h) (Or.inl ⟨by kernel_rfl, by intro w hSw; (try dsimp only at hSw); go_simp; (try with_reducible rfl)⟩) (by assumption) ?_
    (try simp only [Act.put, List.getElem_toArray, List.getElem_cons_zero, List.getElem_cons_succ, List.setIfInBounds_toArray, List.set_cons_zero, List.set_cons_succ])
    refine wpAnyH_take (i := 3) (v := _) rfl (by kernel_rfl) (by kernel_rfl) (by kernel_rfl) (fun _ _ _ h => h) (Or.inl ⟨by kernel_rfl, by intro w hSw; (try dsimp only at hSw); go_simp; (try with_reducible rfl)⟩) (by assumption) ?_
    (try simp only [Act.put, List.getElem_toArray, List.getElem_cons_zero, List.getElem_cons_succ, List.setIfInBounds_toArray, List.set_cons_zero, List.set_cons_succ])
    refine wpAnyH_take (i := 4) (v := _) rfl (by kernel_rfl) (by kernel_rfl) (by kernel_rfl) (fun _ _ _ h => h) (Or.inl ⟨by kernel_rfl, by intro w hSw; (try dsimp only at hSw); go_simp; (try with_reducible rfl)⟩) (by assumption) ?_
    (try simp only [Act.put, List.getElem_toArray, List.getElem_cons_zero, List.getElem_cons_succ, List.setIfInBounds_toArray, List.set_cons_zero, List.set_cons_succ])
    refine wpAnyH_ready (rs := [5]) (by kernel_rfl) (by simp) ?_
    refine AllReadyH.cons (o := _) rfl (fun K hK => ?_) AllReadyH.nil
    go_simp
    (go_at_call 53; refine Calls.mono (H2.out _ (hEB.tr (Ext.dr (Ext.rfl' _)))) ?_; rintro e w1 ⟨A2, c2, rfl, hr2, hb⟩)
    refine hK.out _ _ ?_ (fun hHeld => ?_)
    · (try dsimp only); refine keep2 ?_ hz0 hz; (repeat (first | with_reducible exact Ext.rfl' _ | with_reducible assumption | (exact (by assumption : _ ∧ _ ∧ Ext wB _).2.2) | with_reducible refine Ext.al ?_ _ | with_reducible refine Ext.dr ?_ | with_reducible refine Ext.st ?_ (by simp) _ | with_reducible refine Ext.tr ?_ (by assumption)))
    clear hK K
    (try simp only [Act.put, List.getElem_toArray, List.getElem_cons_zero, List.getElem_cons_succ, List.setIfInBounds_toArray, List.set_cons_zero, List.set_cons_succ])
    refine wpAnyH_ready (rs := [6]) (by kernel_rfl) (by simp) ?_
    refine AllReadyH.cons (o := _) rfl (fun K hK => ?_) AllReadyH.nil
    go_simp
    (go_at_call 48; refine Calls.mono (H4.out _ _ _ _ _ (hr1B.ext ((Ext.dr (Ext.rfl' _)).tr hb)) hr2) ?_; rintro e w2 ⟨rfl, hb2⟩)
    refine hK.out _ _ ?_ (fun hHeld => ?_)
    · (try dsimp only); refine keep2 ?_ hz0 hz; (repeat (first | with_reducible exact Ext.rfl' _ | with_reducible assumption | (exact (by assumption : _ ∧ _ ∧ Ext wB _).2.2) | with_reducible refine Ext.al ?_ _ | with_reducible refine Ext.dr ?_ | with_reducible refine Ext.st ?_ (by simp) _ | with_reducible refine Ext.tr ?_ (by assumption)))
    clear hK K
    (try simp only [Act.put, List.getElem_toArray, List.getElem_cons_zero, List.getElem_cons_succ, List.setIfInBounds_toArray, List.set_cons_zero, List.set_cons_succ])
    refine wpAnyH_take (i := 7) (v := _) rfl (by kernel_rfl) (by kernel_rfl) (by kernel_rfl) (fun _ _ _ h => h) (Or.inl ⟨by kernel_rfl, by intro w hSw; (try dsimp only at hSw); go_simp; (try with_reducible rfl)⟩) (by assumption) ?_
    (try simp only [Act.put, List.getElem_toArray, List.getElem_cons_zero, List.getElem_cons_succ, List.setIfInBounds_toArray, List.set_cons_zero, List.set_cons_succ])
    refine wpAnyH_take (i := 8) (v := _) rfl (by kernel_rfl) (by kernel_rfl) (by kernel_rfl) (fun _ _ _ h => h) (Or.inl ⟨by kernel_rfl, by intro w hSw; (try dsimp only at hSw); go_simp; (try with_reducible rfl)⟩) (by assumption) ?_
    (try simp only [Act.put, List.getElem_toArray, List.getElem_cons_zero, List.getElem_cons_succ, List.setIfInBounds_toArray, List.set_cons_zero, List.set_cons_succ])
    refine wpAnyH_done (by kernel_rfl) ?_ _
    have hEn := hHeld.2.2
    have hc := hEn.ccell
    have hf := hEn.frz
    have hs := hEn.sz
    have hr1 := hr1B.ext hEn
    have hEw2 := hEB.tr hEn
    have zw0 := hEn.sz _ hz0
    have zw1 := hEn.sz _ hz
    clear hr2 hb hb2 hHeld
    go_wp2_with (first | (go_at_call 17; with_reducible refine Calls.mono (HA1.out _ (by (repeat (first | with_reducible exact Ext.rfl' _ | with_reducible assumption | with_reducible refine Ext.al ?_ _ | with_reducible refine Ext.dr ?_ | with_reducible refine Ext.st ?_ (by simp) _ | with_reducible refine Ext.tr ?_ (by assumption))))) ?_; rintro e wA ⟨rfl, hb⟩; have hc := hb.ccell; have hf := hb.frz; have hs := hb.sz; (try simp at hs); (try have t0 := hs (w.heap.size) (by first | assumption | omega)); (try have t1 := hs (bs) (by first | assumption | omega)); (try have t2 := hs (bs) (by first | assumption | omega)); (try have t3 := hs (bs) (by first | assumption | omega)); (try have t4 := hs (bs) (by first | assumption | omega)); (try have t5 := hs (bs) (by first | assumption | omega))) | (go_at_call 17; with_reducible refine Calls.mono (HA2.out _ _ _ (hr1.ext (by first | assumption | ((repeat (first | with_reducible exact Ext.rfl' _ | with_reducible assumption | with_reducible refine Ext.al ?_ _ | with_reducible refine Ext.dr ?_ | with_reducible refine Ext.st ?_ (by simp) _ | with_reducible refine Ext.tr ?_ (by assumption))))))) ?_; rintro e wC ⟨rfl, hb⟩; have hc := hb.ccell; have hf := hb.frz; have hs := hb.sz; (try simp at hs); (try have t0 := hs (w.heap.size) (by first | assumption | omega)); (try have t1 := hs (bs) (by first | assumption | omega)); (try have t2 := hs (bs) (by first | assumption | omega)); (try have t3 := hs (bs) (by first | assumption | omega)); (try have t4 := hs (bs) (by first | assumption | omega)); (try have t5 := hs (bs) (by first | assumption | omega))))
    go_ret
    exact ⟨by first | rfl | (simp; done) | (simp; omega), by (repeat (first | with_reducible exact Ext.rfl' _ | with_reducible assumption | with_reducible refine Ext.al ?_ _ | with_reducible refine Ext.dr ?_ | with_reducible refine Ext.st ?_ (by simp) _ | with_reducible refine Ext.tr ?_ (by assumption)))⟩
end Go.Proofs.Ytblmljcgjibfgaa

/- Residuals and Calibrate are as specified, and the calibrated gauge holds each observation and no smaller error would: the law returns true for every input. Conditions: none. -/
import Derived.Test.YtblmljcgjibfgaaTseen3
import Derived.Test.YtblmljcgjibfgaaTsame
namespace Go.Proofs.Ytblmljcgjibfgaa
open Go Go.RowKit Go.IntWalk Go.Shelf

theorem zero_c (w : World) : Calls Try.prog 52 #[.agg #[.string ⟨#[]⟩, .int .i64 0, .int .i64 0, .slice none 0 0]] w fun e w' => e = .returned (.bool true) ∧ Ext w w' := by
  have HSN : Hid (∀ w, Calls Try.prog 48 #[.agg #[.string ⟨#[]⟩, .int .i64 0, .int .i64 0, .slice none 0 0], .agg #[.string ⟨#[]⟩, .int .i64 0, .int .i64 0, .slice none 0 0]] w fun e w' => e = .returned (.bool true) ∧ Ext w w') :=
    fun w => same_c ⟨#[]⟩ 0 0 [] none none 0 0 w (by simp) (.inl rfl) (.inl rfl)
  go_enter Try.func52, Try.ntmps52
  go_wp2_with (first | (go_at_call 48; with_reducible refine Calls.mono (HSN.out _) ?_; rintro e w1 ⟨rfl, hb⟩; have hc := hb.ccell; have hf := hb.frz; have hs := hb.sz; (try simp at hs); (try have hs0 := hs w.heap.size (by omega)); (try have hs1 := hs (w.heap.size + 1) (by omega)); (try have hs2 := hs (w.heap.size + 1 + 1) (by omega)); (try have hs3 := hs (w.heap.size + 1 + 1 + 1) (by omega))))
  go_ret
  exact ⟨rfl, by (repeat (first | with_reducible exact Ext.rfl' _ | with_reducible assumption | with_reducible refine Ext.al ?_ _ | with_reducible refine Ext.dr ?_ | with_reducible refine Ext.st ?_ (by simp) _ | with_reducible refine Ext.tr ?_ (by assumption)))⟩
theorem gaugeE_er {s : ByteArray} {x er er' : Int} {l : List Pt} (h : gaugeE s x er l = 0) (h0 : 0 ≤ er') (h1 : er' ≤ 1000) : gaugeE s x er' l = 0 := by
  obtain ⟨a, b, _, _⟩ := gaugeE_zero h
  have hw : withinB er' 0 1000 = true := by unfold withinB; simp; omega
  unfold gaugeE at *
  rw [a] at h ⊢
  rw [if_neg (by decide)] at h ⊢
  rw [b, hw, if_neg (by decide)]
  rw [b] at h
  by_cases hc : (true && withinB er 0 1000) = false
  · rw [if_pos hc] at h; omega
  · rw [if_neg hc] at h; exact h
theorem need_ge (er : Int) (L : List Pt) : ∀ k, er ≤ needN er L k
  | 0 => Int.le_refl _
  | k + 1 => by have := need_ge er L k; rw [needN]; omega
theorem need_le (er : Int) (L : List Pt) : ∀ k i, i < k → (gt L i).x ≤ needN er L k ∧ -(gt L i).y ≤ needN er L k
  | k + 1, i, hi => by
    rw [needN]
    rcases Nat.lt_or_ge i k with h | h
    · have := need_le er L k i h; omega
    · have : i = k := by omega
      subst this
      omega
theorem need_tight (er : Int) (L : List Pt) : ∀ k, needN er L k = er ∨ ∃ i, i < k ∧ (needN er L k = (gt L i).x ∨ needN er L k = -(gt L i).y)
  | 0 => .inl rfl
  | k + 1 => by
    rw [needN]
    by_cases h1 : needN er L k < (gt L k).x ∨ needN er L k < -(gt L k).y
    · right
      exact ⟨k, by omega, by omega⟩
    · have e : max (max (needN er L k) (gt L k).x) (-(gt L k).y) = needN er L k := by omega
      rw [e]
      rcases need_tight er L k with h | ⟨i, hi, h⟩
      · exact .inl h
      · exact .inr ⟨i, by omega, h⟩
theorem keepE {W w' : World} {b0 b1 : Nat} (h : Ext W w') (h0 : b0 < W.heap.size) (h1 : b1 < W.heap.size) : (∀ j : Nat, w'.cell? ⟨b0, j, none⟩ = W.cell? ⟨b0, j, none⟩) ∧ (∀ j : Nat, w'.cell? ⟨b1, j, none⟩ = W.cell? ⟨b1, j, none⟩) ∧ Ext W w' :=
  ⟨fun j => h.ccell _ j h0, fun j => h.ccell _ j h1, h⟩
/-- Whether an observation stands at the end of the level. -/
def endB (l sn : List Pt) (P : Int → Nat) (N : Int) (i : Nat) : Bool := decide ((gt sn i).y = gLo N l (gt sn i).x (P (gt sn i).x)) || decide ((gt sn i).y = gHi N l (gt sn i).x (P (gt sn i).x))
theorem seen_tight {er N : Int} {l sn : List Pt} {P : Int → Nat} (hS : SeenOk l sn P) (hN : needN er (resL l P sn) sn.length = N) : (decide (N = er) || anyN (endB l sn P N) sn.length) = true := by
  rcases need_tight er (resL l P sn) sn.length with h | ⟨i, hi, h⟩
  · rw [hN] at h; rw [decide_eq_true h]; rfl
  · rw [Bool.or_eq_true]
    right
    refine anyN_at _ hi ?_
    rw [hN, resL_gt hi] at h
    unfold dL at h
    unfold endB gLo gHi
    rw [(hS.ok i hi).2]
    simp only [if_true, Bool.or_eq_true, decide_eq_true_eq]
    dsimp only at h
    omega
theorem seen_in {er N : Int} {l sn : List Pt} {P : Int → Nat} (hS : SeenOk l sn P) (hN : needN er (resL l P sn) sn.length = N) {i : Nat} (hi : i < sn.length) : gLo N l (gt sn i).x (P (gt sn i).x) ≤ (gt sn i).y ∧ (gt sn i).y ≤ gHi N l (gt sn i).x (P (gt sn i).x) := by
  have h := need_le er (resL l P sn) sn.length i hi
  rw [hN, resL_gt hi] at h
  unfold dL at h
  unfold gLo gHi
  rw [(hS.ok i hi).2]
  simp only [if_true]
  dsimp only at h
  omega
theorem pos_fn {l : List Pt} : ∃ P : Int → Nat, Good l → ∀ t, PosAt l t (P t) := by
  by_cases h : Good l
  · exact ⟨fun t => Classical.choose (pos_some h t), fun _ t => Classical.choose_spec (pos_some h t)⟩
  · exact ⟨fun _ => 0, fun h' => absurd h' h⟩
set_option maxHeartbeats 4000000 in
set_option maxRecDepth 100000 in
theorem se_walk (s : ByteArray) (x er : Int) (l sn : List Pt) (w : World) (A B : Option Addr) (c c' : Nat) (hsn0 : sn.length ≤ maxLen) (hA : Row 2 encP w A l) (hB : Row 2 encP w B sn) :
    Calls Try.prog 14 #[.agg #[.string s, .int .i64 x, .int .i64 er, .slice A l.length c], .slice B sn.length c'] w
      fun e w' => e = .returned (.bool true) ∧ Ext w w' := by
  have HS := Lib.hid (fun w => short_c s x er l w A c)
  cases hsh : shortB s l
  · rw [hsh] at HS
    clear hsh
    go_enter Try.func14, Try.ntmps14
    go_wp2_with (first | (go_at_call 15; with_reducible refine Calls.mono (awake_c _) ?_; rintro e w1 ⟨rfl, hb⟩; have hc := hb.ccell; have hf := hb.frz; have hs := hb.sz; (try simp at hs); (try have hs0 := hs w.heap.size (by omega)); (try have hs1 := hs (w.heap.size + 1) (by omega)); (try have hs2 := hs (w.heap.size + 1 + 1) (by omega)); (try have hs3 := hs (w.heap.size + 1 + 1 + 1) (by omega))) | (go_at_call 16; with_reducible refine Calls.mono (HS.out _) ?_; rintro e w1 ⟨rfl, hb⟩; have hc := hb.ccell; have hf := hb.frz; have hs := hb.sz; (try simp at hs); (try have hs0 := hs w.heap.size (by omega)); (try have hs1 := hs (w.heap.size + 1) (by omega)); (try have hs2 := hs (w.heap.size + 1 + 1) (by omega)); (try have hs3 := hs (w.heap.size + 1 + 1 + 1) (by omega))))
    go_ret
    exact ⟨rfl, by (repeat (first | with_reducible exact Ext.rfl' _ | with_reducible assumption | with_reducible refine Ext.al ?_ _ | with_reducible refine Ext.dr ?_ | with_reducible refine Ext.st ?_ (by simp) _ | with_reducible refine Ext.tr ?_ (by assumption)))⟩
  rw [hsh] at HS
  have hl : l.length ≤ 1000 := by
    unfold shortB at hsh
    simp at hsh
    omega
  clear hsh
  unfold maxLen at hsn0
  by_cases hbig : (20 < sn.length ∧ sn.length ≤ 400) ∨ 420 < sn.length
  · rcases hbig with ⟨b1, b2⟩ | b1
    · have b1' : (20 : Int) < (sn.length : Int) := by omega
      have b2' : (sn.length : Int) ≤ 400 := by omega
      go_enter Try.func14, Try.ntmps14
      go_wp2_with (first | (go_at_call 15; with_reducible refine Calls.mono (awake_c _) ?_; rintro e w1 ⟨rfl, hb⟩; have hc := hb.ccell; have hf := hb.frz; have hs := hb.sz; (try simp at hs); (try have hs0 := hs w.heap.size (by omega)); (try have hs1 := hs (w.heap.size + 1) (by omega)); (try have hs2 := hs (w.heap.size + 1 + 1) (by omega)); (try have hs3 := hs (w.heap.size + 1 + 1 + 1) (by omega))) | (go_at_call 16; with_reducible refine Calls.mono (HS.out _) ?_; rintro e w1 ⟨rfl, hb⟩; have hc := hb.ccell; have hf := hb.frz; have hs := hb.sz; (try simp at hs); (try have hs0 := hs w.heap.size (by omega)); (try have hs1 := hs (w.heap.size + 1) (by omega)); (try have hs2 := hs (w.heap.size + 1 + 1) (by omega)); (try have hs3 := hs (w.heap.size + 1 + 1 + 1) (by omega))))
      go_ret
      exact ⟨rfl, by (repeat (first | with_reducible exact Ext.rfl' _ | with_reducible assumption | with_reducible refine Ext.al ?_ _ | with_reducible refine Ext.dr ?_ | with_reducible refine Ext.st ?_ (by simp) _ | with_reducible refine Ext.tr ?_ (by assumption)))⟩
    · have b1' : (420 : Int) < (sn.length : Int) := by omega
      go_enter Try.func14, Try.ntmps14
      go_wp2_with (first | (go_at_call 15; with_reducible refine Calls.mono (awake_c _) ?_; rintro e w1 ⟨rfl, hb⟩; have hc := hb.ccell; have hf := hb.frz; have hs := hb.sz; (try simp at hs); (try have hs0 := hs w.heap.size (by omega)); (try have hs1 := hs (w.heap.size + 1) (by omega)); (try have hs2 := hs (w.heap.size + 1 + 1) (by omega)); (try have hs3 := hs (w.heap.size + 1 + 1 + 1) (by omega))) | (go_at_call 16; with_reducible refine Calls.mono (HS.out _) ?_; rintro e w1 ⟨rfl, hb⟩; have hc := hb.ccell; have hf := hb.frz; have hs := hb.sz; (try simp at hs); (try have hs0 := hs w.heap.size (by omega)); (try have hs1 := hs (w.heap.size + 1) (by omega)); (try have hs2 := hs (w.heap.size + 1 + 1) (by omega)); (try have hs3 := hs (w.heap.size + 1 + 1 + 1) (by omega))))
      go_ret
      exact ⟨rfl, by (repeat (first | with_reducible exact Ext.rfl' _ | with_reducible assumption | with_reducible refine Ext.al ?_ _ | with_reducible refine Ext.dr ?_ | with_reducible refine Ext.st ?_ (by simp) _ | with_reducible refine Ext.tr ?_ (by assumption)))⟩
  have hsn : sn.length ≤ 1000 := by omega
  obtain ⟨P, hP⟩ := pos_fn (l := l)
  have HR := Lib.hid (fun w' (hw : Ext w w') => rcheckSeen_c s x er l sn P w' A B c c' hl hsn (hA.ext hw) (hB.ext hw) hP)
  by_cases h0 : seenE s x er l P sn = 0
  case neg =>
    have H1 := Lib.hid (fun w' (hw : Ext w w') => resid_bad s x er l sn P w' A B c c' hl hsn (hA.ext hw) (hB.ext hw) hP h0)
    have H2 := Lib.hid (fun w' (hw : Ext w w') => cal_bad s x er l sn P w' A B c c' hl hsn (hA.ext hw) (hB.ext hw) hP h0)
    generalize seenE s x er l P sn = r at *
    have h' : (r == 0) = false := by simp [h0]
    have hb2 : ¬ (20 < (sn.length : Int) ∧ (sn.length : Int) ≤ 400) := by omega
    have hb3 : ¬ 420 < (sn.length : Int) := by omega
    go_enter Try.func14, Try.ntmps14
    go_wp2_with (first | (go_at_call 15; with_reducible refine Calls.mono (awake_c _) ?_; rintro e w1 ⟨rfl, hb⟩; have hc := hb.ccell; have hf := hb.frz; have hs := hb.sz; (try simp at hs); (try have hs0 := hs w.heap.size (by omega)); (try have hs1 := hs (w.heap.size + 1) (by omega)); (try have hs2 := hs (w.heap.size + 1 + 1) (by omega)); (try have hs3 := hs (w.heap.size + 1 + 1 + 1) (by omega))) | (go_at_call 16; with_reducible refine Calls.mono (HS.out _) ?_; rintro e w1 ⟨rfl, hb⟩; have hc := hb.ccell; have hf := hb.frz; have hs := hb.sz; (try simp at hs); (try have hs0 := hs w.heap.size (by omega)); (try have hs1 := hs (w.heap.size + 1) (by omega)); (try have hs2 := hs (w.heap.size + 1 + 1) (by omega)); (try have hs3 := hs (w.heap.size + 1 + 1 + 1) (by omega))) | (go_at_call 56; with_reducible refine Calls.mono (H1.out _ (by (repeat (first | with_reducible exact Ext.rfl' _ | with_reducible assumption | with_reducible refine Ext.al ?_ _ | with_reducible refine Ext.dr ?_ | with_reducible refine Ext.st ?_ (by simp) _ | with_reducible refine Ext.tr ?_ (by assumption))))) ?_; rintro e w3 ⟨rfl, hb⟩; have hc := hb.ccell; have hf := hb.frz; have hs := hb.sz; (try simp at hs); (try have t0 := hs (w.heap.size) (by first | assumption | omega)); (try have t1 := hs (w.heap.size) (by first | assumption | omega)); (try have t2 := hs (w.heap.size) (by first | assumption | omega)); (try have t3 := hs (w.heap.size) (by first | assumption | omega)); (try have t4 := hs (w.heap.size) (by first | assumption | omega)); (try have t5 := hs (w.heap.size) (by first | assumption | omega))) | (go_at_call 57; with_reducible refine Calls.mono (H2.out _ (by (repeat (first | with_reducible exact Ext.rfl' _ | with_reducible assumption | with_reducible refine Ext.al ?_ _ | with_reducible refine Ext.dr ?_ | with_reducible refine Ext.st ?_ (by simp) _ | with_reducible refine Ext.tr ?_ (by assumption))))) ?_; rintro e w4 ⟨rfl, hb⟩; have hc := hb.ccell; have hf := hb.frz; have hs := hb.sz; (try simp at hs); (try have t0 := hs (w.heap.size) (by first | assumption | omega)); (try have t1 := hs (w3.heap.size) (by first | assumption | omega)); (try have t2 := hs (w.heap.size) (by first | assumption | omega)); (try have t3 := hs (w.heap.size) (by first | assumption | omega)); (try have t4 := hs (w.heap.size) (by first | assumption | omega)); (try have t5 := hs (w.heap.size) (by first | assumption | omega))) | (go_at_call 58; with_reducible refine Calls.mono (HR.out _ (by (repeat (first | with_reducible exact Ext.rfl' _ | with_reducible assumption | with_reducible refine Ext.al ?_ _ | with_reducible refine Ext.dr ?_ | with_reducible refine Ext.st ?_ (by simp) _ | with_reducible refine Ext.tr ?_ (by assumption))))) ?_; rintro e w5 ⟨rfl, hb⟩; have hc := hb.ccell; have hf := hb.frz; have hs := hb.sz; (try simp at hs); (try have t0 := hs (w.heap.size) (by first | assumption | omega)); (try have t1 := hs (w3.heap.size) (by first | assumption | omega)); (try have t2 := hs (w4.heap.size) (by first | assumption | omega)); (try have t3 := hs (w.heap.size) (by first | assumption | omega)); (try have t4 := hs (w.heap.size) (by first | assumption | omega)); (try have t5 := hs (w.heap.size) (by first | assumption | omega))) | (go_at_call 52; with_reducible refine Calls.mono (zero_c _) ?_; rintro e w1 ⟨rfl, hb⟩; have hc := hb.ccell; have hf := hb.frz; have hs := hb.sz; (try simp at hs); (try have hs0 := hs w.heap.size (by omega)); (try have hs1 := hs (w.heap.size + 1) (by omega)); (try have hs2 := hs (w.heap.size + 1 + 1) (by omega)); (try have hs3 := hs (w.heap.size + 1 + 1 + 1) (by omega))))
    all_goals go_ret
    all_goals exact ⟨by first | rfl | (simp; done) | (simp; omega), by (repeat (first | with_reducible exact Ext.rfl' _ | with_reducible assumption | with_reducible refine Ext.al ?_ _ | with_reducible refine Ext.dr ?_ | with_reducible refine Ext.st ?_ (by simp) _ | with_reducible refine Ext.tr ?_ (by assumption)))⟩
  obtain ⟨hg0, hn4, hnz, hok⟩ := seenE_zero h0
  obtain ⟨_, _, he, hG⟩ := gaugeE_zero hg0
  have hS : SeenOk l sn P := ⟨hG, hn4, hP hG, hok⟩
  have hD := fun w' (hw : Ext w w') => diff_ok (s := s) (x := x) (er := er) (c := c) (c' := c') hl hsn (hA.ext hw) (hB.ext hw) hP h0
  have hLn := resL_len l P sn
  have hR1 : ∀ w', Ext w w' → Calls Try.prog 56 #[.agg #[.string s, .int .i64 x, .int .i64 er, .slice A l.length c], .slice B sn.length c'] w' fun e w'' => e = .returned (.tuple #[.agg #[.int .i64 (fLo (resL l P sn) sn.length), .int .i64 (fHi (resL l P sn) sn.length)], .int .i64 0]) ∧ Ext w' w'' := by
    intro w' hw
    have h := resid_ok s x er l sn (resL l P sn) w' A B c c' (by omega) (by omega) (hD w' hw)
    rw [hLn] at h
    exact h
  have hR2 : ∀ w', Ext w w' → Calls Try.prog 59 #[.agg #[.string s, .int .i64 x, .int .i64 er, .slice A l.length c], .slice B sn.length c'] w' fun e w'' => e = .returned (.agg #[.int .i64 (fLo (resL l P sn) sn.length), .int .i64 (fHi (resL l P sn) sn.length)]) ∧ Ext w' w'' :=
    fun w' hw => rresid_c s x er l sn P w' A B c c' hS hnz (hA.ext hw) (hB.ext hw)
  have hC1 : ∀ w', Ext w w' → Calls Try.prog 57 #[.agg #[.string s, .int .i64 x, .int .i64 er, .slice A l.length c], .slice B sn.length c'] w' fun e w'' => GaOut s x (needN er (resL l P sn) sn.length) l (if 1000 < needN er (resL l P sn) sn.length then 2 else 0) e w'' ∧ Ext w' w'' := by
    intro w' hw
    have h := cal_ok s x er l sn (resL l P sn) w' A B c c' (by omega) hl (hA.ext hw) (res_small hG (hP hG) (fun k hk => (hok k hk).1)) (hD w' hw)
    rw [hLn] at h
    exact h
  have hN1 : ∀ w', Ext w w' → Calls Try.prog 60 #[.agg #[.string s, .int .i64 x, .int .i64 er, .slice A l.length c], .slice B sn.length c'] w' fun e w'' => e = .returned (.int .i64 (needN er (resL l P sn) sn.length)) ∧ Ext w' w'' :=
    fun w' hw => rneed_c s x er l sn P w' A B c c' hS (hA.ext hw) (hB.ext hw)
  rw [h0] at HR
  have hge := need_ge er (resL l P sn) sn.length
  obtain ⟨N, hN⟩ : ∃ N, needN er (resL l P sn) sn.length = N := ⟨_, rfl⟩
  rw [hN] at hC1 hN1 hge
  generalize fLo (resL l P sn) sn.length = rlo at *
  generalize fHi (resL l P sn) sn.length = rhi at *
  have HR1 := Lib.hid hR1
  have HR2 := Lib.hid hR2
  have HN1 := Lib.hid hN1
  have hb1 : (sn.length : Int) ≤ 20 := by omega
  have hb3 : ¬ 420 < (sn.length : Int) := by omega
  have hb4 : ¬ 400 < (sn.length : Int) := by omega
  clear hR1 hR2 hN1 hD h0
  by_cases hbigN : 1000 < N
  · rw [if_pos hbigN] at hC1
    have hC2 : ∀ w', Ext w w' → Calls Try.prog 57 #[.agg #[.string s, .int .i64 x, .int .i64 er, .slice A l.length c], .slice B sn.length c'] w' fun e w'' => e = .returned (.tuple #[.agg #[.string ⟨#[]⟩, .int .i64 0, .int .i64 0, .slice none 0 0], .int .i64 2]) ∧ Ext w' w'' :=
      fun w' hw => (hC1 w' hw).mono fun e w'' ⟨h1, h2⟩ => by
        rcases h1 with ⟨h1, _⟩ | ⟨_, h1⟩
        · exact absurd h1 (by decide)
        · exact ⟨h1, h2⟩
    have HC2 := Lib.hid hC2
    clear hC1 hC2 hN hLn
    go_enter Try.func14, Try.ntmps14
    go_wp2_with (first | (go_at_call 15; with_reducible refine Calls.mono (awake_c _) ?_; rintro e w1 ⟨rfl, hb⟩; have hc := hb.ccell; have hf := hb.frz; have hs := hb.sz; (try simp at hs); (try have hs0 := hs w.heap.size (by omega)); (try have hs1 := hs (w.heap.size + 1) (by omega)); (try have hs2 := hs (w.heap.size + 1 + 1) (by omega)); (try have hs3 := hs (w.heap.size + 1 + 1 + 1) (by omega))) | (go_at_call 16; with_reducible refine Calls.mono (HS.out _) ?_; rintro e w1 ⟨rfl, hb⟩; have hc := hb.ccell; have hf := hb.frz; have hs := hb.sz; (try simp at hs); (try have hs0 := hs w.heap.size (by omega)); (try have hs1 := hs (w.heap.size + 1) (by omega)); (try have hs2 := hs (w.heap.size + 1 + 1) (by omega)); (try have hs3 := hs (w.heap.size + 1 + 1 + 1) (by omega))) | (go_at_call 56; with_reducible refine Calls.mono (HR1.out _ (by (repeat (first | with_reducible exact Ext.rfl' _ | with_reducible assumption | with_reducible refine Ext.al ?_ _ | with_reducible refine Ext.dr ?_ | with_reducible refine Ext.st ?_ (by simp) _ | with_reducible refine Ext.tr ?_ (by assumption))))) ?_; rintro e w3 ⟨rfl, hb⟩; have hc := hb.ccell; have hf := hb.frz; have hs := hb.sz; (try simp at hs); (try have t0 := hs (w.heap.size) (by first | assumption | omega)); (try have t1 := hs (w.heap.size) (by first | assumption | omega)); (try have t2 := hs (w.heap.size) (by first | assumption | omega)); (try have t3 := hs (w.heap.size) (by first | assumption | omega)); (try have t4 := hs (w.heap.size) (by first | assumption | omega)); (try have t5 := hs (w.heap.size) (by first | assumption | omega))) | (go_at_call 57; with_reducible refine Calls.mono (HC2.out _ (by (repeat (first | with_reducible exact Ext.rfl' _ | with_reducible assumption | with_reducible refine Ext.al ?_ _ | with_reducible refine Ext.dr ?_ | with_reducible refine Ext.st ?_ (by simp) _ | with_reducible refine Ext.tr ?_ (by assumption))))) ?_; rintro e w4 ⟨rfl, hb⟩; have hc := hb.ccell; have hf := hb.frz; have hs := hb.sz; (try simp at hs); (try have t0 := hs (w.heap.size) (by first | assumption | omega)); (try have t1 := hs (w3.heap.size) (by first | assumption | omega)); (try have t2 := hs (w.heap.size) (by first | assumption | omega)); (try have t3 := hs (w.heap.size) (by first | assumption | omega)); (try have t4 := hs (w.heap.size) (by first | assumption | omega)); (try have t5 := hs (w.heap.size) (by first | assumption | omega))) | (go_at_call 58; with_reducible refine Calls.mono (HR.out _ (by (repeat (first | with_reducible exact Ext.rfl' _ | with_reducible assumption | with_reducible refine Ext.al ?_ _ | with_reducible refine Ext.dr ?_ | with_reducible refine Ext.st ?_ (by simp) _ | with_reducible refine Ext.tr ?_ (by assumption))))) ?_; rintro e w5 ⟨rfl, hb⟩; have hc := hb.ccell; have hf := hb.frz; have hs := hb.sz; (try simp at hs); (try have t0 := hs (w.heap.size) (by first | assumption | omega)); (try have t1 := hs (w3.heap.size) (by first | assumption | omega)); (try have t2 := hs (w4.heap.size) (by first | assumption | omega)); (try have t3 := hs (w.heap.size) (by first | assumption | omega)); (try have t4 := hs (w.heap.size) (by first | assumption | omega)); (try have t5 := hs (w.heap.size) (by first | assumption | omega))) | (go_at_call 52; with_reducible refine Calls.mono (zero_c _) ?_; rintro e w1 ⟨rfl, hb⟩; have hc := hb.ccell; have hf := hb.frz; have hs := hb.sz; (try simp at hs); (try have hs0 := hs w.heap.size (by omega)); (try have hs1 := hs (w.heap.size + 1) (by omega)); (try have hs2 := hs (w.heap.size + 1 + 1) (by omega)); (try have hs3 := hs (w.heap.size + 1 + 1 + 1) (by omega))))
    have hE5 : Ext w w5 := by (repeat (first | with_reducible exact Ext.rfl' _ | with_reducible assumption | with_reducible refine Ext.al ?_ _ | with_reducible refine Ext.dr ?_ | with_reducible refine Ext.st ?_ (by simp) _ | with_reducible refine Ext.tr ?_ (by assumption)))
    have gz : Fo w5 w.heap.size (.string s) (.int .i64 x) (.int .i64 er) (.slice A l.length c) := by refine ⟨?_, ?_, ?_, ?_⟩ <;> simp [*, go_sem]
    have rz : Two w5 w3.heap.size rlo rhi := by refine ⟨?_, ?_⟩ <;> simp [*, go_sem]
    have cz : Fo w5 w4.heap.size (.string ⟨#[]⟩) (.int .i64 0) (.int .i64 0) (.slice none 0 0) := by refine ⟨?_, ?_, ?_, ?_⟩ <;> simp [*, go_sem]
    have z0 : w.heap.size < w5.heap.size := by first | assumption | omega
    have z3 : w3.heap.size < w5.heap.size := by first | assumption | omega
    have z4 : w4.heap.size < w5.heap.size := by first | assumption | omega
    obtain ⟨b3, hb3e⟩ : ∃ b, w3.heap.size = b := ⟨_, rfl⟩
    obtain ⟨b4, hb4e⟩ : ∃ b, w4.heap.size = b := ⟨_, rfl⟩
    rw [hb3e] at rz z3 ⊢
    rw [hb4e] at cz z4 ⊢
    clear hb3e hb4e
    obtain ⟨g0, g1, g2, g3⟩ := gz.all
    obtain ⟨r0, r1⟩ := id rz
    obtain ⟨d0, d1, d2, d3⟩ := cz.all
    clear hc hb hs hf gz rz cz
    refine region_grow (by kernel_rfl) (by kernel_rfl) ?_
    repeat (first | go_big_quiet_step (first | (go_at_call 59; with_reducible exact callsGrow (HR2.out _ (hE5.tr (Grow.ok _)))) | fail) | quiet_step (first | (go_at_call 59; with_reducible exact callsGrow (HR2.out _ (hE5.tr (Grow.ok _)))) | fail))
    refine wpQuiet_nil ?_
    intro w1 hb
    have hc := hb.ccell
    have hf := hb.frz
    have hs := hb.sz
    (try simp at hs); (try have hs0 := hs w.heap.size (by omega)); (try have hs1 := hs (w.heap.size + 1) (by omega)); (try have hs2 := hs (w.heap.size + 1 + 1) (by omega)); (try have hs3 := hs (w.heap.size + 1 + 1 + 1) (by omega))
    (try simp only [IntWalk.i64_left])
    have hz0 := hs _ z0
    have hz3 := hs _ z3
    have hz4 := hs _ z4
    have hE6 := hE5.tr hb
    go_wp2_with (first | (go_at_call 60; with_reducible refine Calls.mono (HN1.out _ hE6) ?_; rintro e w7 ⟨rfl, hb⟩; have hc := hb.ccell; have hf := hb.frz; have hs := hb.sz; (try simp at hs); (try have t0 := hs (w.heap.size) (by first | assumption | omega)); (try have t1 := hs (b3) (by first | assumption | omega)); (try have t2 := hs (b4) (by first | assumption | omega)); (try have t3 := hs (w.heap.size) (by first | assumption | omega)); (try have t4 := hs (w.heap.size) (by first | assumption | omega)); (try have t5 := hs (w.heap.size) (by first | assumption | omega))) | (go_at_call 52; with_reducible refine Calls.mono (zero_c _) ?_; rintro e w1 ⟨rfl, hb⟩; have hc := hb.ccell; have hf := hb.frz; have hs := hb.sz; (try simp at hs); (try have hs0 := hs w.heap.size (by omega)); (try have hs1 := hs (w.heap.size + 1) (by omega)); (try have hs2 := hs (w.heap.size + 1 + 1) (by omega)); (try have hs3 := hs (w.heap.size + 1 + 1 + 1) (by omega))))
    go_ret
    exact ⟨by first | rfl | (simp; done) | (simp; omega), hE6.tr (by (repeat (first | with_reducible exact Ext.rfl' _ | with_reducible assumption | with_reducible refine Ext.al ?_ _ | with_reducible refine Ext.dr ?_ | with_reducible refine Ext.st ?_ (by simp) _ | with_reducible refine Ext.tr ?_ (by assumption))))⟩
  · rw [if_neg hbigN] at hC1
    have hC2 : ∀ w', Ext w w' → Calls Try.prog 57 #[.agg #[.string s, .int .i64 x, .int .i64 er, .slice A l.length c], .slice B sn.length c'] w' fun e w'' => ∃ A' c', e = .returned (.tuple #[.agg #[.string s, .int .i64 x, .int .i64 N, .slice A' l.length c'], .int .i64 0]) ∧ Row 2 encP w'' A' l ∧ Ext w' w'' :=
      fun w' hw => (hC1 w' hw).mono fun e w'' ⟨h1, h2⟩ => by
        rcases h1 with ⟨_, A', c', h3, h4⟩ | ⟨h1, _⟩
        · exact ⟨A', c', h3, h4, h2⟩
        · exact absurd rfl h1
    have HC2 := Lib.hid hC2
    clear hC1 hC2 hLn
    have HNN := Lib.hid hN
    have HSO := Lib.hid hS
    have HGE := Lib.hid (gaugeE_er (er' := N) hg0 (by omega) (by omega))
    clear hN hS hok
    go_enter Try.func14, Try.ntmps14
    go_wp2_with (first | (go_at_call 15; with_reducible refine Calls.mono (awake_c _) ?_; rintro e w1 ⟨rfl, hb⟩; have hc := hb.ccell; have hf := hb.frz; have hs := hb.sz; (try simp at hs); (try have hs0 := hs w.heap.size (by omega)); (try have hs1 := hs (w.heap.size + 1) (by omega)); (try have hs2 := hs (w.heap.size + 1 + 1) (by omega)); (try have hs3 := hs (w.heap.size + 1 + 1 + 1) (by omega))) | (go_at_call 16; with_reducible refine Calls.mono (HS.out _) ?_; rintro e w1 ⟨rfl, hb⟩; have hc := hb.ccell; have hf := hb.frz; have hs := hb.sz; (try simp at hs); (try have hs0 := hs w.heap.size (by omega)); (try have hs1 := hs (w.heap.size + 1) (by omega)); (try have hs2 := hs (w.heap.size + 1 + 1) (by omega)); (try have hs3 := hs (w.heap.size + 1 + 1 + 1) (by omega))) | (go_at_call 56; with_reducible refine Calls.mono (HR1.out _ (by (repeat (first | with_reducible exact Ext.rfl' _ | with_reducible assumption | with_reducible refine Ext.al ?_ _ | with_reducible refine Ext.dr ?_ | with_reducible refine Ext.st ?_ (by simp) _ | with_reducible refine Ext.tr ?_ (by assumption))))) ?_; rintro e w3 ⟨rfl, hb⟩; have hc := hb.ccell; have hf := hb.frz; have hs := hb.sz; (try simp at hs); (try have t0 := hs (w.heap.size) (by first | assumption | omega)); (try have t1 := hs (w.heap.size) (by first | assumption | omega)); (try have t2 := hs (w.heap.size) (by first | assumption | omega)); (try have t3 := hs (w.heap.size) (by first | assumption | omega)); (try have t4 := hs (w.heap.size) (by first | assumption | omega)); (try have t5 := hs (w.heap.size) (by first | assumption | omega))) | (go_at_call 57; with_reducible refine Calls.mono (HC2.out _ (by (repeat (first | with_reducible exact Ext.rfl' _ | with_reducible assumption | with_reducible refine Ext.al ?_ _ | with_reducible refine Ext.dr ?_ | with_reducible refine Ext.st ?_ (by simp) _ | with_reducible refine Ext.tr ?_ (by assumption))))) ?_; rintro e w4 ⟨A2, c2, rfl, hr2, hb⟩; have hc := hb.ccell; have hf := hb.frz; have hs := hb.sz; (try simp at hs); (try have t0 := hs (w.heap.size) (by first | assumption | omega)); (try have t1 := hs (w3.heap.size) (by first | assumption | omega)); (try have t2 := hs (w.heap.size) (by first | assumption | omega)); (try have t3 := hs (w.heap.size) (by first | assumption | omega)); (try have t4 := hs (w.heap.size) (by first | assumption | omega)); (try have t5 := hs (w.heap.size) (by first | assumption | omega))) | (go_at_call 58; with_reducible refine Calls.mono (HR.out _ (by (repeat (first | with_reducible exact Ext.rfl' _ | with_reducible assumption | with_reducible refine Ext.al ?_ _ | with_reducible refine Ext.dr ?_ | with_reducible refine Ext.st ?_ (by simp) _ | with_reducible refine Ext.tr ?_ (by assumption))))) ?_; rintro e w5 ⟨rfl, hb⟩; have hc := hb.ccell; have hf := hb.frz; have hs := hb.sz; (try simp at hs); (try have t0 := hs (w.heap.size) (by first | assumption | omega)); (try have t1 := hs (w3.heap.size) (by first | assumption | omega)); (try have t2 := hs (w4.heap.size) (by first | assumption | omega)); (try have t3 := hs (w.heap.size) (by first | assumption | omega)); (try have t4 := hs (w.heap.size) (by first | assumption | omega)); (try have t5 := hs (w.heap.size) (by first | assumption | omega))) | (go_at_call 52; with_reducible refine Calls.mono (zero_c _) ?_; rintro e w1 ⟨rfl, hb⟩; have hc := hb.ccell; have hf := hb.frz; have hs := hb.sz; (try simp at hs); (try have hs0 := hs w.heap.size (by omega)); (try have hs1 := hs (w.heap.size + 1) (by omega)); (try have hs2 := hs (w.heap.size + 1 + 1) (by omega)); (try have hs3 := hs (w.heap.size + 1 + 1 + 1) (by omega))))
    have hr5 : Row 2 encP w5 A2 l := hr2.ext (by (repeat (first | with_reducible exact Ext.rfl' _ | with_reducible assumption | with_reducible refine Ext.al ?_ _ | with_reducible refine Ext.dr ?_ | with_reducible refine Ext.st ?_ (by simp) _ | with_reducible refine Ext.tr ?_ (by assumption))))
    clear hr2
    have hE5 : Ext w w5 := by (repeat (first | with_reducible exact Ext.rfl' _ | with_reducible assumption | with_reducible refine Ext.al ?_ _ | with_reducible refine Ext.dr ?_ | with_reducible refine Ext.st ?_ (by simp) _ | with_reducible refine Ext.tr ?_ (by assumption)))
    have gz : Fo w5 w.heap.size (.string s) (.int .i64 x) (.int .i64 er) (.slice A l.length c) := by refine ⟨?_, ?_, ?_, ?_⟩ <;> simp [*, go_sem]
    have rz : Two w5 w3.heap.size rlo rhi := by refine ⟨?_, ?_⟩ <;> simp [*, go_sem]
    have cz : Fo w5 w4.heap.size (.string s) (.int .i64 x) (.int .i64 N) (.slice A2 l.length c2) := by refine ⟨?_, ?_, ?_, ?_⟩ <;> simp [*, go_sem]
    have z0 : w.heap.size < w5.heap.size := by first | assumption | omega
    have z3 : w3.heap.size < w5.heap.size := by first | assumption | omega
    have z4 : w4.heap.size < w5.heap.size := by first | assumption | omega
    obtain ⟨b3, hb3e⟩ : ∃ b, w3.heap.size = b := ⟨_, rfl⟩
    obtain ⟨b4, hb4e⟩ : ∃ b, w4.heap.size = b := ⟨_, rfl⟩
    rw [hb3e] at rz z3 ⊢
    rw [hb4e] at cz z4 ⊢
    clear hb3e hb4e
    obtain ⟨g0, g1, g2, g3⟩ := gz.all
    obtain ⟨r0, r1⟩ := id rz
    obtain ⟨d0, d1, d2, d3⟩ := cz.all
    clear hc hb hs hf gz rz cz
    refine region_grow (by kernel_rfl) (by kernel_rfl) ?_
    repeat (first | go_big_quiet_step (first | (go_at_call 59; with_reducible exact callsGrow (HR2.out _ (hE5.tr (Grow.ok _)))) | fail) | quiet_step (first | (go_at_call 59; with_reducible exact callsGrow (HR2.out _ (hE5.tr (Grow.ok _)))) | fail))
    refine wpQuiet_nil ?_
    intro w1 hb
    have hc := hb.ccell
    have hf := hb.frz
    have hs := hb.sz
    (try simp at hs); (try have hs0 := hs w.heap.size (by omega)); (try have hs1 := hs (w.heap.size + 1) (by omega)); (try have hs2 := hs (w.heap.size + 1 + 1) (by omega)); (try have hs3 := hs (w.heap.size + 1 + 1 + 1) (by omega))
    (try simp only [IntWalk.i64_left])
    have hz0 := hs _ z0
    have hz3 := hs _ z3
    have hz4 := hs _ z4
    have hE6 := hE5.tr hb
    have hr6 := hr5.ext hb
    have H4 := Lib.hid (fun w' (hw : Ext w w') (h2 : Row 2 encP w' A2 l) => same_c s x N l A2 A c2 c w' hl h2 (hA.ext hw))
    go_wp2_with (first | (go_at_call 60; with_reducible refine Calls.mono (HN1.out _ hE6) ?_; rintro e w7 ⟨rfl, hb⟩; have hc := hb.ccell; have hf := hb.frz; have hs := hb.sz; (try simp at hs); (try have t0 := hs (w.heap.size) (by first | assumption | omega)); (try have t1 := hs (b3) (by first | assumption | omega)); (try have t2 := hs (b4) (by first | assumption | omega)); (try have t3 := hs (w.heap.size) (by first | assumption | omega)); (try have t4 := hs (w.heap.size) (by first | assumption | omega)); (try have t5 := hs (w.heap.size) (by first | assumption | omega))) | (go_at_call 48; with_reducible refine Calls.mono (H4.out _ (hE6.tr (by (repeat (first | with_reducible exact Ext.rfl' _ | with_reducible assumption | with_reducible refine Ext.al ?_ _ | with_reducible refine Ext.dr ?_ | with_reducible refine Ext.st ?_ (by simp) _ | with_reducible refine Ext.tr ?_ (by assumption))))) (hr6.ext (by (repeat (first | with_reducible exact Ext.rfl' _ | with_reducible assumption | with_reducible refine Ext.al ?_ _ | with_reducible refine Ext.dr ?_ | with_reducible refine Ext.st ?_ (by simp) _ | with_reducible refine Ext.tr ?_ (by assumption)))))) ?_; rintro e w8 ⟨rfl, hb⟩; have hc := hb.ccell; have hf := hb.frz; have hs := hb.sz; (try simp at hs); (try have t0 := hs (w.heap.size) (by first | assumption | omega)); (try have t1 := hs (b3) (by first | assumption | omega)); (try have t2 := hs (b4) (by first | assumption | omega)); (try have t3 := hs (w7.heap.size) (by first | assumption | omega)); (try have t4 := hs (w.heap.size) (by first | assumption | omega)); (try have t5 := hs (w.heap.size) (by first | assumption | omega))))
    have hX8 : Ext w5 w8 := by (repeat (first | with_reducible exact Ext.rfl' _ | with_reducible assumption | with_reducible refine Ext.al ?_ _ | with_reducible refine Ext.dr ?_ | with_reducible refine Ext.st ?_ (by simp) _ | with_reducible refine Ext.tr ?_ (by assumption)))
    have hE8 : Ext w w8 := hE5.tr hX8
    have cz : Fo w8 b4 (.string s) (.int .i64 x) (.int .i64 N) (.slice A2 l.length c2) := by refine ⟨(hX8.ccell _ 0 z4).trans d0, (hX8.ccell _ 1 z4).trans d1, (hX8.ccell _ 2 z4).trans d2, (hX8.ccell _ 3 z4).trans d3⟩
    have hz8 := hX8.sz _ z4
    have hr8 := hr5.ext hX8
    clear hb hc hf hs hr6 hr5 hE6 hz0 hz3 hz4 g0 g1 g2 g3 r0 r1 d0 d1 d2 d3 hX8
    go_loopw [12, 13] (fun tv v wr => Ext w8 wr ∧ ∃ k : Nat, k ≤ sn.length ∧ v = .int .i64 k ∧ ∃ T, tv = .bool T ∧ Hid (T = (decide (N = er) || anyN (endB l sn P N) k))) (fun _ v _ => sn.length - (intOf v).toNat)
    case atStart => exact ⟨Ext.rfl' _, 0, Nat.zero_le _, rfl, _, rfl, by show _ = (_ || false); rw [Bool.or_false]; rfl⟩
    case round =>
      obtain ⟨hE, k, hk, rfl, T, rfl, hT⟩ := hrel
      have hEw : Ext w wr := hE8.tr hE
      have hzr := hE.sz _ hz8
      by_cases hlt : k < sn.length
      · obtain ⟨b, off, rfl, hb0, hcell⟩ := hB.p2 hlt
        have hc0 := hcell _ hEw
        clear hcell
        have hzb := hEw.sz _ hb0
        obtain ⟨c1, c2'⟩ := hc0
        have hgk := gt_lt sn k hlt
        obtain ⟨d0, d1, d2, d3⟩ := Fo.all (cz.ext hE hz8)
        obtain ⟨hq, ho⟩ := HSO.out.ok k hlt
        have hokk := (okM_iff _).1 hq
        obtain ⟨⟨o1, o2⟩, o3, o4⟩ := hokk
        have hp := HSO.out.pos (gt sn k).x
        have HAT := Lib.hid (fun w' (hw : Ext w8 w') => at_ok_c s x N l (gt sn k).x (P (gt sn k).x) w' A2 c2 (hr8.ext hw) HGE.out (by unfold withinB; simp; omega) hp)
        rw [ho, if_pos rfl] at HAT
        obtain ⟨i1, i2⟩ := seen_in HSO.out HNN.out hlt
        have HEN : Hid (∀ T' : Bool, T' = (T || endB l sn P N k) → T' = (decide (N = er) || anyN (endB l sn P N) (k + 1))) := Lib.hid (fun T' h => by rw [h, hT.out, anyN, Bool.or_assoc])
        unfold endB at HEN
        clear hq ho hp
        rw [hgk] at HAT o1 o2 o3 o4 i1 i2 HEN
        clear hgk
        generalize gLo N l sn[k].x (P sn[k].x) = lo at *
        generalize gHi N l sn[k].x (P sn[k].x) = hi at *
        generalize sn[k].x = px at *
        generalize sn[k].y = py at *
        have hlo : ¬ py < lo := by omega
        have hhi : ¬ hi < py := by omega
        go_wp2
        go_cut [14, 15] (fun s14 s15 wx => ∃ b2 : Nat, s14 = .pointer (some ⟨b2, 0, none⟩) ∧ s15 = .int .i64 0 ∧ Ext wr wx ∧ b2 < wx.heap.size ∧ Two wx b2 lo hi)
        case first =>
          clear hA hB hlo hhi i1 i2
          go_region_held3 (fun w' => (∀ j : Nat, w'.cell? ⟨b, j, none⟩ = wr.cell? ⟨b, j, none⟩) ∧ (∀ j : Nat, w'.cell? ⟨b4, j, none⟩ = wr.cell? ⟨b4, j, none⟩) ∧ Ext wr w') ((refine keepE ?_ hzb hzr; (repeat (first | with_reducible exact Ext.rfl' _ | with_reducible assumption | with_reducible refine Ext.al ?_ _ | with_reducible refine Ext.dr ?_ | with_reducible refine Ext.st ?_ (by first | (simp; done) | (have h9 := Below.size hb; simp at h9 ⊢; omega)) _ | with_reducible refine Ext.tr ?_ (by assumption))))) ((go_at_call 17; with_reducible refine Calls.mono (HAT.out _ (hE.tr (by (repeat (first | with_reducible exact Ext.rfl' _ | with_reducible assumption | with_reducible refine Ext.al ?_ _ | with_reducible refine Ext.dr ?_ | with_reducible refine Ext.st ?_ (by simp) _ | with_reducible refine Ext.tr ?_ (by assumption)))))) ?_; rintro e w1 ⟨rfl, hb⟩; have hc := hb.ccell; have hf := hb.frz; have hs := hb.sz; (try simp at hs); (try have t0 := hs wr.heap.size (by omega))))
          all_goals
            rename_i hJ hK h1 h2 hH
            clear hH
            refine h2 _ _ (Met.intro (h1 _ _ ?_))
            (repeat apply Exists.intro)
            refine ⟨?_, rfl⟩
            refine ⟨_, rfl, rfl, ?_, ?_, ?_, ?_⟩
            · (repeat (first | with_reducible exact Ext.rfl' _ | with_reducible assumption | with_reducible refine Ext.al ?_ _ | with_reducible refine Ext.dr ?_ | with_reducible refine Ext.st ?_ (by first | (simp; done) | (have h9 := Below.size hb; simp at h9 ⊢; omega)) _ | with_reducible refine Ext.tr ?_ (by assumption)))
            all_goals first | (simp; done) | (simp; omega) | (simp [go_sem]; done) | (simp [*, go_sem]; done)
        case rest =>
          obtain ⟨b2, rfl, rfl, hx, hb2, y0, y1⟩ := hcut
          have m1 := (hx.ccell _ (off + k * 2) hzb).trans c1
          have m2 := (hx.ccell _ (off + k * 2 + 1) hzb).trans c2'
          have hzb2 := hx.sz _ hzb
          clear c1 c2' d0 d1 d2 d3
          have hlo' : decide (py < lo) = false := decide_eq_false (by omega)
          have hhi' : decide (hi < py) = false := decide_eq_false (by omega)
          go_wp2
          have HX := Lib.hid (hE.tr hx)
          refine region_grow (by kernel_rfl) (by kernel_rfl) ?_
          repeat (first | go_big_quiet_step (first  | fail) | quiet_step (first  | fail))
          refine wpQuiet_nil ?_
          intro w1 hb
          have hc := hb.ccell
          have hf := hb.frz
          have hs := hb.sz
          (try simp at hs); (try have hs0 := hs w.heap.size (by omega)); (try have hs1 := hs (w.heap.size + 1) (by omega)); (try have hs2 := hs (w.heap.size + 1 + 1) (by omega)); (try have hs3 := hs (w.heap.size + 1 + 1 + 1) (by omega))
          (try simp only [IntWalk.i64_left])
          have HX3 := Lib.hid (HX.out.tr hb)
          have p1 := (hc _ _ hzb2).trans m2
          have p0 := (hc _ _ hzb2).trans m1
          have v0 := (hc _ _ hb2).trans y0
          have v1 := (hc _ _ hb2).trans y1
          have hzb3 := hb.sz _ hzb2
          have hb3' := hb.sz _ hb2
          clear hb hc hf hs m1 m2 y0 y1 hx
          have HEN2 : Hid (∀ T' : Bool, T' = (T || ((py == lo) || (py == hi))) → T' = (decide (N = er) || anyN (endB l sn P N) (k + 1))) := HEN.out
          clear HEN
          cases T
          all_goals
            cases h1 : (py == lo)
            all_goals
              cases h2 : (py == hi)
              all_goals
                rw [h1, h2] at HEN2
                go_wp2
                refine region_grow (by kernel_rfl) (by kernel_rfl) ?_
                repeat (first | go_big_quiet_step (first  | fail) | quiet_step (first  | fail))
                refine wpQuiet_nil ?_
                intro w1 hb
                have hc := hb.ccell
                have hf := hb.frz
                have hs := hb.sz
                (try simp at hs); (try have hs0 := hs w.heap.size (by omega)); (try have hs1 := hs (w.heap.size + 1) (by omega)); (try have hs2 := hs (w.heap.size + 1 + 1) (by omega)); (try have hs3 := hs (w.heap.size + 1 + 1 + 1) (by omega))
                (try simp only [IntWalk.i64_left])
                go_wp2
                exact ⟨⟨HX3.out.tr hb, k + 1, by omega, by go_num, _, rfl, HEN2.out _ rfl⟩, by simp [intOf]; omega⟩
      · have hkl : k = sn.length := by omega
        subst hkl
        have hT2 : T = true := hT.out.trans (seen_tight HSO.out HNN.out)
        subst hT2
        clear hT
        go_wp2
        go_ret
        exact ⟨rfl, hEw⟩
end Go.Proofs.Ytblmljcgjibfgaa

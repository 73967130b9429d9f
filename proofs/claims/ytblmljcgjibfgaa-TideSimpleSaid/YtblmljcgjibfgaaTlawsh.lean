/- Shift is as specified, and shifts levels: the law returns true for every input. Conditions: none. -/
import Derived.Test.YtblmljcgjibfgaaTrshift
import Derived.Test.YtblmljcgjibfgaaTsame
import Derived.Test.YtblmljcgjibfgaaTplace
import Derived.Test.YtblmljcgjibfgaaTawake
namespace Go.Proofs.Ytblmljcgjibfgaa
open Go Go.RowKit Go.IntWalk Go.Shelf

theorem firstE_all {f : Nat → Int} : ∀ {n : Nat}, (∀ i, i < n → f i = 0) → firstE f n = 0
  | 0, _ => rfl
  | n + 1, h => firstE_step (firstE_all fun i hi => h i (by omega)) (h n (by omega))
theorem marks_of_good {l : List Pt} (h : Good l) : marksE l = 0 := by
  unfold marksE
  rw [if_neg (by have := h.len; omega)]
  refine firstE_all fun i hi => ?_
  unfold errAt
  rw [if_neg (by rw [h.ok i hi]; decide), if_neg]
  rintro ⟨h1, h2⟩
  have := h.asc (i - 1) (by omega)
  rw [show i - 1 + 1 = i by omega] at this
  omega
theorem shiftL_len (by_ : Int) (l : List Pt) : (shiftL by_ l).length = l.length := by simp [shiftL]
theorem gt_shift (by_ : Int) (l : List Pt) (k : Nat) (hk : k < l.length) : gt (shiftL by_ l) k = sh by_ (gt l k) := by
  rw [gt_lt _ k (by rw [shiftL_len]; exact hk), gt_lt l k hk]
  simp [shiftL]
theorem good_shift {by_ : Int} {l : List Pt} (h : Good l) (hb : shBad by_ l = false) : Good (shiftL by_ l) := by
  refine ⟨by rw [shiftL_len]; exact h.len, fun i hi => ?_, fun i hi => ?_⟩
  · rw [shiftL_len] at hi
    rw [gt_shift by_ l i hi]
    unfold shBad at hb
    rw [anyN_no] at hb
    have := hb i hi
    simpa using this
  · rw [shiftL_len] at hi
    rw [gt_shift by_ l i (by omega), gt_shift by_ l (i + 1) hi]
    exact h.asc i hi
theorem shift_back (by_ : Int) (l : List Pt) : shiftL (-by_) (shiftL by_ l) = l := by
  unfold shiftL
  rw [List.map_map]
  have : (sh (-by_) ∘ sh by_) = id := by
    funext p
    show (⟨p.x, p.y + by_ + -by_⟩ : Pt) = p
    rw [show p.y + by_ + -by_ = p.y by omega]
  rw [this, List.map_id]
theorem shBad_back {by_ : Int} {l : List Pt} (h : Good l) : shBad (-by_) (shiftL by_ l) = false := by
  unfold shBad
  rw [anyN_no]
  intro i hi
  rw [shiftL_len] at hi
  rw [gt_shift by_ l i hi]
  have := h.ok i hi
  unfold sh
  dsimp only
  rw [show (gt l i).y + by_ + -by_ = (gt l i).y by omega]
  rw [this]; rfl
theorem gaugeE_mk {s : ByteArray} {x er : Int} {l L : List Pt} (h : gaugeE s x er l = 0) (hL : Good L) : gaugeE s x er L = 0 := by
  unfold gaugeE at *
  cases hn : nameB s
  · rw [if_pos hn] at h; omega
  rw [if_neg (by rw [hn]; decide)] at h
  rw [if_neg (by decide)]
  cases hw : (withinB x (-1000000) 1000000 && withinB er 0 1000)
  · rw [if_pos hw] at h; omega
  rw [if_neg (by decide)]
  exact marks_of_good hL
theorem shE_zero {s : ByteArray} {x er : Int} {l : List Pt} {by_ : Int} (h : shE s x er l by_ = 0) : gaugeE s x er l = 0 ∧ (-40000 ≤ by_ ∧ by_ ≤ 40000) ∧ shBad by_ l = false := by
  unfold shE at h
  by_cases h0 : gaugeE s x er l = 0
  · rw [if_neg (by rw [h0]; simp)] at h
    cases hw : withinB by_ (-40000) 40000
    · rw [if_pos hw] at h; omega
    rw [if_neg (by rw [hw]; decide)] at h
    cases hb : shBad by_ l
    · exact ⟨h0, by unfold withinB at hw; simpa using hw, rfl⟩
    · rw [hb] at h; simp at h
  · rw [if_pos h0] at h; exact absurd h h0
theorem shE_back {s : ByteArray} {x er : Int} {l : List Pt} {by_ : Int} (h : shE s x er l by_ = 0) : shE s x er (shiftL by_ l) (-by_) = 0 := by
  obtain ⟨h0, h1, h2⟩ := shE_zero h
  obtain ⟨_, _, _, hG⟩ := gaugeE_zero h0
  unfold shE
  rw [gaugeE_mk h0 (good_shift hG h2), if_neg (by simp), if_neg (by unfold withinB; simp; omega), shBad_back hG]; rfl
theorem pos_shift {by_ : Int} {l : List Pt} {t : Int} {i : Nat} (h : PosAt l t i) : PosAt (shiftL by_ l) t i := by
  obtain ⟨h1, h2, h3⟩ := h
  refine ⟨by rw [shiftL_len]; exact h1, fun a ha => ?_, fun a ha hal => ?_⟩
  · rw [gt_shift by_ l a (by omega)]; exact h2 a ha
  · rw [shiftL_len] at hal
    rw [gt_shift by_ l a hal]; exact h3 a ha hal
theorem lev_shift {er by_ : Int} {l : List Pt} {t : Int} {i : Nat} (hG : Good l) (hp : PosAt l t i) :
    mOk (shiftL by_ l) t i = mOk l t i ∧ (mOk l t i = true → gLo er (shiftL by_ l) t i = gLo er l t i + by_ ∧ gHi er (shiftL by_ l) t i = gHi er l t i + by_) := by
  have hf : foundB (shiftL by_ l) t i = foundB l t i := by
    unfold foundB
    rw [shiftL_len]
    by_cases hi : i < l.length
    · rw [gt_shift by_ l i hi]; rfl
    · rw [decide_eq_false hi]; rfl
  have ho : mOk (shiftL by_ l) t i = mOk l t i := by unfold mOk; rw [hf, shiftL_len]
  refine ⟨ho, fun h => ?_⟩
  have hD : mD (shiftL by_ l) t i = mD l t i ∧ mN (shiftL by_ l) t i = mN l t i + by_ * mD l t i := by
    unfold mD mN
    rw [hf]
    cases hff : foundB l t i
    · unfold mOk at h
      rw [hff, Bool.false_or, Bool.and_eq_true, decide_eq_true_eq, decide_eq_true_eq] at h
      rw [gt_shift by_ l i h.2, gt_shift by_ l (i - 1) (by omega)]
      refine ⟨rfl, ?_⟩
      unfold sumZ sh
      simp only [Bool.false_eq_true, if_false]
      grind
    · have hil : i < l.length := by
        unfold foundB at hff
        rw [Bool.and_eq_true] at hff
        exact of_decide_eq_true hff.1
      rw [gt_shift by_ l i hil]
      refine ⟨rfl, ?_⟩
      unfold sh
      simp
  obtain ⟨hd, _⟩ := m_small hG hp h
  unfold gLo gHi mLo mHi
  rw [ho, h, hD.1, hD.2]
  simp only [if_true]
  generalize mN l t i = n at *
  generalize mD l t i = d at *
  have e1 : (n + by_ * d) / d = n / d + by_ := Int.add_mul_ediv_right n by_ (by omega)
  have e2 : (-(n + by_ * d)) / d = (-n) / d + -by_ := by
    rw [show -(n + by_ * d) = -n + (-by_) * d by grind]
    exact Int.add_mul_ediv_right (-n) (-by_) (by omega)
  rw [e1, e2]
  omega
theorem shift_ok {s : ByteArray} {x er : Int} {l : List Pt} {by_ : Int} {w : World} {A : Option Addr} {c : Nat} (hl : l.length ≤ 1000) (hA : Row 2 encP w A l) (h : shE s x er l by_ = 0) :
    Calls Try.prog 46 #[.agg #[.string s, .int .i64 x, .int .i64 er, .slice A l.length c], .int .i64 by_] w
      fun e w' => ∃ A' c', e = .returned (.tuple #[.agg #[.string s, .int .i64 x, .int .i64 er, .slice A' l.length c'], .int .i64 0]) ∧ Row 2 encP w' A' (shiftL by_ l) ∧ Ext w w' := by
  refine Calls.mono (shift_c s x er l by_ w A c hl hA) ?_
  rintro e w' ⟨⟨_, A', c', he, hr⟩ | ⟨hn, _⟩, hb⟩
  · rw [shiftL_len] at he; exact ⟨A', c', he, hr, hb⟩
  · exact absurd h hn
theorem shift_no {s : ByteArray} {x er : Int} {l : List Pt} {by_ : Int} {w : World} {A : Option Addr} {c : Nat} (hl : l.length ≤ 1000) (hA : Row 2 encP w A l) (h : shE s x er l by_ ≠ 0) :
    Calls Try.prog 46 #[.agg #[.string s, .int .i64 x, .int .i64 er, .slice A l.length c], .int .i64 by_] w
      fun e w' => e = .returned (.tuple #[.agg #[.string ⟨#[]⟩, .int .i64 0, .int .i64 0, .slice none 0 0], .int .i64 (shE s x er l by_)]) ∧ Ext w w' := by
  refine Calls.mono (shift_c s x er l by_ w A c hl hA) ?_
  rintro e w' ⟨⟨hn, _⟩ | ⟨_, he⟩, hb⟩
  · exact absurd hn h
  · exact ⟨he, hb⟩
theorem rshift_ok {s : ByteArray} {x er : Int} {l : List Pt} {by_ : Int} {w : World} {A : Option Addr} {c : Nat} (hl : l.length ≤ 1000) (hA : Row 2 encP w A l) (h : shE s x er l by_ = 0) :
    Calls Try.prog 47 #[.agg #[.string s, .int .i64 x, .int .i64 er, .slice A l.length c], .int .i64 by_] w
      fun e w' => ∃ A' c', e = .returned (.tuple #[.agg #[.string s, .int .i64 x, .int .i64 er, .slice A' l.length c'], .int .i64 0]) ∧ Row 2 encP w' A' (shiftL by_ l) ∧ Ext w w' := by
  refine Calls.mono (rshift_c s x er l by_ w A c hl hA) ?_
  rintro e w' ⟨⟨_, A', c', he, hr⟩ | ⟨hn, _⟩, hb⟩
  · rw [shiftL_len] at he; exact ⟨A', c', he, hr, hb⟩
  · exact absurd h hn
theorem rshift_no {s : ByteArray} {x er : Int} {l : List Pt} {by_ : Int} {w : World} {A : Option Addr} {c : Nat} (hl : l.length ≤ 1000) (hA : Row 2 encP w A l) (h : shE s x er l by_ ≠ 0) :
    Calls Try.prog 47 #[.agg #[.string s, .int .i64 x, .int .i64 er, .slice A l.length c], .int .i64 by_] w
      fun e w' => e = .returned (.tuple #[.agg #[.string ⟨#[]⟩, .int .i64 0, .int .i64 0, .slice none 0 0], .int .i64 (shE s x er l by_)]) ∧ Ext w w' := by
  refine Calls.mono (rshift_c s x er l by_ w A c hl hA) ?_
  rintro e w' ⟨⟨hn, _⟩ | ⟨_, he⟩, hb⟩
  · exact absurd hn h
  · exact ⟨he, hb⟩
set_option maxHeartbeats 4000000 in
theorem sh_walk (s : ByteArray) (x er : Int) (l : List Pt) (by_ t : Int) (w : World) (A : Option Addr) (c : Nat) (hA : Row 2 encP w A l) :
    Calls Try.prog 10 #[.agg #[.string s, .int .i64 x, .int .i64 er, .slice A l.length c], .int .i64 by_, .int .i64 t] w
      fun e w' => e = .returned (.bool true) ∧ Ext w w' := by
  have HS := Lib.hid (fun w => short_c s x er l w A c)
  cases hsh : shortB s l
  · rw [hsh] at HS
    clear hsh
    go_enter Try.func10, Try.ntmps10
    go_wp2_with (first | (go_at_call 15; with_reducible refine Calls.mono (awake_c _) ?_; rintro e w1 ⟨rfl, hb⟩; have hc := hb.ccell; have hf := hb.frz; have hs := hb.sz; (try simp at hs); (try have hs0 := hs w.heap.size (by omega)); (try have hs1 := hs (w.heap.size + 1) (by omega)); (try have hs2 := hs (w.heap.size + 1 + 1) (by omega)); (try have hs3 := hs (w.heap.size + 1 + 1 + 1) (by omega))) | (go_at_call 16; with_reducible refine Calls.mono (HS.out _) ?_; rintro e w1 ⟨rfl, hb⟩; have hc := hb.ccell; have hf := hb.frz; have hs := hb.sz; (try simp at hs); (try have hs0 := hs w.heap.size (by omega)); (try have hs1 := hs (w.heap.size + 1) (by omega)); (try have hs2 := hs (w.heap.size + 1 + 1) (by omega)); (try have hs3 := hs (w.heap.size + 1 + 1 + 1) (by omega))))
    go_ret
    exact ⟨rfl, by (repeat (first | with_reducible exact Ext.rfl' _ | with_reducible assumption | with_reducible refine Ext.al ?_ _ | with_reducible refine Ext.dr ?_ | with_reducible refine Ext.st ?_ (by simp) _ | with_reducible refine Ext.tr ?_ (by assumption)))⟩
  rw [hsh] at HS
  have hl : l.length ≤ 1000 := by
    unfold shortB at hsh
    simp at hsh
    omega
  clear hsh
  have HSM := Lib.hid (fun (s : ByteArray) (x er : Int) (l : List Pt) (A B : Option Addr) (c c' : Nat) (w : World) (hl : l.length ≤ 1000) (hA : Row 2 encP w A l) (hB : Row 2 encP w B l) => same_c s x er l A B c c' w hl hA hB)
  by_cases h0 : shE s x er l by_ = 0
  case neg =>
    have H1 := Lib.hid (fun w' (hw : Ext w w') => shift_no (c := c) hl (hA.ext hw) h0)
    have H2 := Lib.hid (fun w' (hw : Ext w w') => rshift_no (c := c) hl (hA.ext hw) h0)
    have HSN : Hid (∀ w, Calls Try.prog 48 #[.agg #[.string ⟨#[]⟩, .int .i64 0, .int .i64 0, .slice none 0 0], .agg #[.string ⟨#[]⟩, .int .i64 0, .int .i64 0, .slice none 0 0]] w fun e w' => e = .returned (.bool true) ∧ Ext w w') :=
      fun w => same_c ⟨#[]⟩ 0 0 [] none none 0 0 w (by simp) (.inl rfl) (.inl rfl)
    generalize shE s x er l by_ = r at *
    have h' : (r == 0) = false := by simp [h0]
    go_enter Try.func10, Try.ntmps10
    go_wp2_with (first | (go_at_call 15; with_reducible refine Calls.mono (awake_c _) ?_; rintro e w1 ⟨rfl, hb⟩; have hc := hb.ccell; have hf := hb.frz; have hs := hb.sz; (try simp at hs); (try have hs0 := hs w.heap.size (by omega)); (try have hs1 := hs (w.heap.size + 1) (by omega)); (try have hs2 := hs (w.heap.size + 1 + 1) (by omega)); (try have hs3 := hs (w.heap.size + 1 + 1 + 1) (by omega))) | (go_at_call 16; with_reducible refine Calls.mono (HS.out _) ?_; rintro e w1 ⟨rfl, hb⟩; have hc := hb.ccell; have hf := hb.frz; have hs := hb.sz; (try simp at hs); (try have hs0 := hs w.heap.size (by omega)); (try have hs1 := hs (w.heap.size + 1) (by omega)); (try have hs2 := hs (w.heap.size + 1 + 1) (by omega)); (try have hs3 := hs (w.heap.size + 1 + 1 + 1) (by omega))) | (go_at_call 46; with_reducible refine Calls.mono (H1.out _ (by (repeat (first | with_reducible exact Ext.rfl' _ | with_reducible assumption | with_reducible refine Ext.al ?_ _ | with_reducible refine Ext.dr ?_ | with_reducible refine Ext.st ?_ (by simp) _ | with_reducible refine Ext.tr ?_ (by assumption))))) ?_; rintro e wS ⟨rfl, hb⟩; have hc := hb.ccell; have hf := hb.frz; have hs := hb.sz; (try simp at hs); (try have t0 := hs (w.heap.size) (by first | assumption | omega)); (try have t1 := hs (w.heap.size) (by first | assumption | omega)); (try have t2 := hs (w.heap.size) (by first | assumption | omega)); (try have t3 := hs (w.heap.size) (by first | assumption | omega)); (try have t4 := hs (w.heap.size) (by first | assumption | omega)); (try have t5 := hs (w.heap.size) (by first | assumption | omega))) | (go_at_call 47; with_reducible refine Calls.mono (H2.out _ (by (repeat (first | with_reducible exact Ext.rfl' _ | with_reducible assumption | with_reducible refine Ext.al ?_ _ | with_reducible refine Ext.dr ?_ | with_reducible refine Ext.st ?_ (by simp) _ | with_reducible refine Ext.tr ?_ (by assumption))))) ?_; rintro e wR ⟨rfl, hb⟩; have hc := hb.ccell; have hf := hb.frz; have hs := hb.sz; (try simp at hs); (try have t0 := hs (w.heap.size) (by first | assumption | omega)); (try have t1 := hs (wS.heap.size) (by first | assumption | omega)); (try have t2 := hs (w.heap.size) (by first | assumption | omega)); (try have t3 := hs (w.heap.size) (by first | assumption | omega)); (try have t4 := hs (w.heap.size) (by first | assumption | omega)); (try have t5 := hs (w.heap.size) (by first | assumption | omega))) | (go_at_call 48; with_reducible refine Calls.mono (HSN.out _) ?_; rintro e w1 ⟨rfl, hb⟩; have hc := hb.ccell; have hf := hb.frz; have hs := hb.sz; (try simp at hs); (try have hs0 := hs w.heap.size (by omega)); (try have hs1 := hs (w.heap.size + 1) (by omega)); (try have hs2 := hs (w.heap.size + 1 + 1) (by omega)); (try have hs3 := hs (w.heap.size + 1 + 1 + 1) (by omega))))
    go_ret
    exact ⟨rfl, by (repeat (first | with_reducible exact Ext.rfl' _ | with_reducible assumption | with_reducible refine Ext.al ?_ _ | with_reducible refine Ext.dr ?_ | with_reducible refine Ext.st ?_ (by simp) _ | with_reducible refine Ext.tr ?_ (by assumption)))⟩
  obtain ⟨hg0, ⟨y1, y2⟩, hbad⟩ := shE_zero h0
  obtain ⟨_, _, he, hG⟩ := gaugeE_zero hg0
  have hG2 := good_shift hG hbad
  have hg2 := gaugeE_mk hg0 hG2
  have hln := shiftL_len by_ l
  have hl2 : (shiftL by_ l).length ≤ 1000 := by rw [hln]; exact hl
  have h1 : ∀ w', Ext w w' → Calls Try.prog 46 #[.agg #[.string s, .int .i64 x, .int .i64 er, .slice A l.length c], .int .i64 by_] w' fun e w'' => ∃ A' c', e = .returned (.tuple #[.agg #[.string s, .int .i64 x, .int .i64 er, .slice A' l.length c'], .int .i64 0]) ∧ Row 2 encP w'' A' (shiftL by_ l) ∧ Ext w' w'' :=
    fun w' hw => shift_ok (c := c) hl (hA.ext hw) h0
  have h2 : ∀ w', Ext w w' → Calls Try.prog 47 #[.agg #[.string s, .int .i64 x, .int .i64 er, .slice A l.length c], .int .i64 by_] w' fun e w'' => ∃ A' c', e = .returned (.tuple #[.agg #[.string s, .int .i64 x, .int .i64 er, .slice A' l.length c'], .int .i64 0]) ∧ Row 2 encP w'' A' (shiftL by_ l) ∧ Ext w' w'' :=
    fun w' hw => rshift_ok (c := c) hl (hA.ext hw) h0
  have h3 : ∀ A1 c1 w', Row 2 encP w' A1 (shiftL by_ l) → Calls Try.prog 46 #[.agg #[.string s, .int .i64 x, .int .i64 er, .slice A1 l.length c1], .int .i64 (-by_)] w' fun e w'' => ∃ A' c', e = .returned (.tuple #[.agg #[.string s, .int .i64 x, .int .i64 er, .slice A' l.length c'], .int .i64 0]) ∧ Row 2 encP w'' A' l ∧ Ext w' w'' := by
    intro A1 c1 w' hr
    have h := shift_ok (s := s) (x := x) (er := er) (by_ := -by_) (c := c1) hl2 hr (shE_back h0)
    rw [shift_back, hln] at h
    exact h
  have h4 : ∀ A1 c1 A2 c2 w', Row 2 encP w' A1 (shiftL by_ l) → Row 2 encP w' A2 (shiftL by_ l) → Calls Try.prog 48 #[.agg #[.string s, .int .i64 x, .int .i64 er, .slice A1 l.length c1], .agg #[.string s, .int .i64 x, .int .i64 er, .slice A2 l.length c2]] w' fun e w'' => e = .returned (.bool true) ∧ Ext w' w'' := by
    intro A1 c1 A2 c2 w' hr hr2
    have h := same_c s x er (shiftL by_ l) A1 A2 c1 c2 w' hl2 hr hr2
    rw [hln] at h
    exact h
  have h5 : ∀ A3 c3 w', Ext w w' → Row 2 encP w' A3 l → Calls Try.prog 48 #[.agg #[.string s, .int .i64 x, .int .i64 er, .slice A3 l.length c3], .agg #[.string s, .int .i64 x, .int .i64 er, .slice A l.length c]] w' fun e w'' => e = .returned (.bool true) ∧ Ext w' w'' :=
    fun A3 c3 w' hw hr => same_c s x er l A3 A c3 c w' hl hr (hA.ext hw)
  clear HSM
  have H1 := Lib.hid h1
  have H2 := Lib.hid h2
  have H3 := Lib.hid h3
  have H4 := Lib.hid h4
  have H5 := Lib.hid h5
  clear h1 h2 h3 h4 h5
  cases ht : withinB t 0 1000000
  · have HA1 := Lib.hid (fun w' (hw : Ext w w') => at_out_c s x er l t w' A c hl (hA.ext hw) hg0 ht)
    have ha2 : ∀ A1 c1 w', Row 2 encP w' A1 (shiftL by_ l) → Calls Try.prog 17 #[.agg #[.string s, .int .i64 x, .int .i64 er, .slice A1 l.length c1], .int .i64 t] w' fun e w'' => e = .returned (.tuple #[.agg #[.int .i64 0, .int .i64 0], .int .i64 2]) ∧ Ext w' w'' := by
      intro A1 c1 w' hr
      have h := at_out_c s x er (shiftL by_ l) t w' A1 c1 hl2 hr hg2 ht
      rw [hln] at h
      exact h
    have HA2 := Lib.hid ha2
    clear ha2 ht hg0 hg2 hG hG2 hbad he hl2 h0
    go_enter Try.func10, Try.ntmps10
    go_wp2_with (first | (go_at_call 15; with_reducible refine Calls.mono (awake_c _) ?_; rintro e w1 ⟨rfl, hb⟩; have hc := hb.ccell; have hf := hb.frz; have hs := hb.sz; (try simp at hs); (try have hs0 := hs w.heap.size (by omega)); (try have hs1 := hs (w.heap.size + 1) (by omega)); (try have hs2 := hs (w.heap.size + 1 + 1) (by omega)); (try have hs3 := hs (w.heap.size + 1 + 1 + 1) (by omega))) | (go_at_call 16; with_reducible refine Calls.mono (HS.out _) ?_; rintro e w1 ⟨rfl, hb⟩; have hc := hb.ccell; have hf := hb.frz; have hs := hb.sz; (try simp at hs); (try have hs0 := hs w.heap.size (by omega)); (try have hs1 := hs (w.heap.size + 1) (by omega)); (try have hs2 := hs (w.heap.size + 1 + 1) (by omega)); (try have hs3 := hs (w.heap.size + 1 + 1 + 1) (by omega))) | (go_at_call 46; with_reducible refine Calls.mono (H1.out _ (by (repeat (first | with_reducible exact Ext.rfl' _ | with_reducible assumption | with_reducible refine Ext.al ?_ _ | with_reducible refine Ext.dr ?_ | with_reducible refine Ext.st ?_ (by simp) _ | with_reducible refine Ext.tr ?_ (by assumption))))) ?_; rintro e wS ⟨A1, c1, rfl, hr1, hb⟩; have hc := hb.ccell; have hf := hb.frz; have hs := hb.sz; (try simp at hs); (try have t0 := hs (w.heap.size) (by first | assumption | omega)); (try have t1 := hs (wS.heap.size) (by first | assumption | omega)); (try have t2 := hs (wR.heap.size) (by first | assumption | omega)); (try have t3 := hs (wB.heap.size) (by first | assumption | omega)); (try have t4 := hs (wA.heap.size) (by first | assumption | omega)); (try have t5 := hs (wC.heap.size) (by first | assumption | omega))) | (go_at_call 47; with_reducible refine Calls.mono (H2.out _ (by (repeat (first | with_reducible exact Ext.rfl' _ | with_reducible assumption | with_reducible refine Ext.al ?_ _ | with_reducible refine Ext.dr ?_ | with_reducible refine Ext.st ?_ (by simp) _ | with_reducible refine Ext.tr ?_ (by assumption))))) ?_; rintro e wR ⟨A2, c2, rfl, hr2, hb⟩; have hc := hb.ccell; have hf := hb.frz; have hs := hb.sz; (try simp at hs); (try have t0 := hs (w.heap.size) (by first | assumption | omega)); (try have t1 := hs (wS.heap.size) (by first | assumption | omega)); (try have t2 := hs (wR.heap.size) (by first | assumption | omega)); (try have t3 := hs (wB.heap.size) (by first | assumption | omega)); (try have t4 := hs (wA.heap.size) (by first | assumption | omega)); (try have t5 := hs (wC.heap.size) (by first | assumption | omega))) | (go_at_call 48; with_reducible refine Calls.mono (H4.out _ _ _ _ _ (hr1.ext (by (repeat (first | with_reducible exact Ext.rfl' _ | with_reducible assumption | with_reducible refine Ext.al ?_ _ | with_reducible refine Ext.dr ?_ | with_reducible refine Ext.st ?_ (by simp) _ | with_reducible refine Ext.tr ?_ (by assumption))))) (hr2.ext (by (repeat (first | with_reducible exact Ext.rfl' _ | with_reducible assumption | with_reducible refine Ext.al ?_ _ | with_reducible refine Ext.dr ?_ | with_reducible refine Ext.st ?_ (by simp) _ | with_reducible refine Ext.tr ?_ (by assumption)))))) ?_; rintro e wQ ⟨rfl, hb⟩; have hc := hb.ccell; have hf := hb.frz; have hs := hb.sz; (try simp at hs); (try have t0 := hs (w.heap.size) (by first | assumption | omega)); (try have t1 := hs (wS.heap.size) (by first | assumption | omega)); (try have t2 := hs (wR.heap.size) (by first | assumption | omega)); (try have t3 := hs (wB.heap.size) (by first | assumption | omega)); (try have t4 := hs (wA.heap.size) (by first | assumption | omega)); (try have t5 := hs (wC.heap.size) (by first | assumption | omega))) | (go_at_call 46; with_reducible refine Calls.mono (H3.out _ _ _ (hr1.ext (by (repeat (first | with_reducible exact Ext.rfl' _ | with_reducible assumption | with_reducible refine Ext.al ?_ _ | with_reducible refine Ext.dr ?_ | with_reducible refine Ext.st ?_ (by simp) _ | with_reducible refine Ext.tr ?_ (by assumption)))))) ?_; rintro e wB ⟨A3, c3, rfl, hr3, hb⟩; have hc := hb.ccell; have hf := hb.frz; have hs := hb.sz; (try simp at hs); (try have t0 := hs (w.heap.size) (by first | assumption | omega)); (try have t1 := hs (wS.heap.size) (by first | assumption | omega)); (try have t2 := hs (wR.heap.size) (by first | assumption | omega)); (try have t3 := hs (wB.heap.size) (by first | assumption | omega)); (try have t4 := hs (wA.heap.size) (by first | assumption | omega)); (try have t5 := hs (wC.heap.size) (by first | assumption | omega))) | (go_at_call 17; with_reducible refine Calls.mono (HA1.out _ (by (repeat (first | with_reducible exact Ext.rfl' _ | with_reducible assumption | with_reducible refine Ext.al ?_ _ | with_reducible refine Ext.dr ?_ | with_reducible refine Ext.st ?_ (by simp) _ | with_reducible refine Ext.tr ?_ (by assumption))))) ?_; rintro e wA ⟨rfl, hb⟩; have hc := hb.ccell; have hf := hb.frz; have hs := hb.sz; (try simp at hs); (try have t0 := hs (w.heap.size) (by first | assumption | omega)); (try have t1 := hs (wS.heap.size) (by first | assumption | omega)); (try have t2 := hs (wR.heap.size) (by first | assumption | omega)); (try have t3 := hs (wB.heap.size) (by first | assumption | omega)); (try have t4 := hs (wA.heap.size) (by first | assumption | omega)); (try have t5 := hs (wC.heap.size) (by first | assumption | omega))) | (go_at_call 17; with_reducible refine Calls.mono (HA2.out _ _ _ (hr1.ext (by (repeat (first | with_reducible exact Ext.rfl' _ | with_reducible assumption | with_reducible refine Ext.al ?_ _ | with_reducible refine Ext.dr ?_ | with_reducible refine Ext.st ?_ (by simp) _ | with_reducible refine Ext.tr ?_ (by assumption)))))) ?_; rintro e wC ⟨rfl, hb⟩; have hc := hb.ccell; have hf := hb.frz; have hs := hb.sz; (try simp at hs); (try have t0 := hs (w.heap.size) (by first | assumption | omega)); (try have t1 := hs (wS.heap.size) (by first | assumption | omega)); (try have t2 := hs (wR.heap.size) (by first | assumption | omega)); (try have t3 := hs (wB.heap.size) (by first | assumption | omega)); (try have t4 := hs (wA.heap.size) (by first | assumption | omega)); (try have t5 := hs (wC.heap.size) (by first | assumption | omega))) | (go_at_call 48; with_reducible refine Calls.mono (H5.out _ _ _ (by (repeat (first | with_reducible exact Ext.rfl' _ | with_reducible assumption | with_reducible refine Ext.al ?_ _ | with_reducible refine Ext.dr ?_ | with_reducible refine Ext.st ?_ (by simp) _ | with_reducible refine Ext.tr ?_ (by assumption)))) (hr3.ext (by (repeat (first | with_reducible exact Ext.rfl' _ | with_reducible assumption | with_reducible refine Ext.al ?_ _ | with_reducible refine Ext.dr ?_ | with_reducible refine Ext.st ?_ (by simp) _ | with_reducible refine Ext.tr ?_ (by assumption)))))) ?_; rintro e wQ ⟨rfl, hb⟩; have hc := hb.ccell; have hf := hb.frz; have hs := hb.sz; (try simp at hs); (try have t0 := hs (w.heap.size) (by first | assumption | omega)); (try have t1 := hs (wS.heap.size) (by first | assumption | omega)); (try have t2 := hs (wR.heap.size) (by first | assumption | omega)); (try have t3 := hs (wB.heap.size) (by first | assumption | omega)); (try have t4 := hs (wA.heap.size) (by first | assumption | omega)); (try have t5 := hs (wC.heap.size) (by first | assumption | omega))))
    go_ret
    exact ⟨by first | rfl | (simp; done) | (simp; omega), by (repeat (first | with_reducible exact Ext.rfl' _ | with_reducible assumption | with_reducible refine Ext.al ?_ _ | with_reducible refine Ext.dr ?_ | with_reducible refine Ext.st ?_ (by simp) _ | with_reducible refine Ext.tr ?_ (by assumption)))⟩
  · have ht' : 0 ≤ t ∧ t ≤ 1000000 := by unfold withinB at ht; simpa using ht
    obtain ⟨i, hp⟩ := pos_some hG t
    have HA1 := Lib.hid (fun w' (hw : Ext w w') => at_ok_c s x er l t i w' A c (hA.ext hw) hg0 ht hp)
    obtain ⟨lv1, lv2⟩ := lev_shift (er := er) (by_ := by_) hG hp
    obtain ⟨⟨b1, b2⟩, b3, b4⟩ := lo_hi_small hG he hp
    have ha2 : ∀ A1 c1 w', Row 2 encP w' A1 (shiftL by_ l) → Calls Try.prog 17 #[.agg #[.string s, .int .i64 x, .int .i64 er, .slice A1 l.length c1], .int .i64 t] w' fun e w'' => e = .returned (.tuple #[.agg #[.int .i64 (gLo er (shiftL by_ l) t i), .int .i64 (gHi er (shiftL by_ l) t i)], .int .i64 (if mOk l t i then 0 else 11)]) ∧ Ext w' w'' := by
      intro A1 c1 w' hr
      have h := at_ok_c s x er (shiftL by_ l) t i w' A1 c1 hr hg2 ht (pos_shift hp)
      rw [hln, lv1] at h
      exact h
    have HA2 := Lib.hid ha2
    clear ha2 ht hg0 hg2 hG hG2 hbad he hl2 h0 lv1 hp
    cases ho : mOk l t i
    · rw [ho, if_neg (by decide)] at HA1 HA2
      clear lv2 ho
      generalize gLo er (shiftL by_ l) t i = lo' at *
      generalize gHi er (shiftL by_ l) t i = hi' at *
      generalize gLo er l t i = lo at *
      generalize gHi er l t i = hi at *
      go_enter Try.func10, Try.ntmps10
      go_wp2_with (first | (go_at_call 15; with_reducible refine Calls.mono (awake_c _) ?_; rintro e w1 ⟨rfl, hb⟩; have hc := hb.ccell; have hf := hb.frz; have hs := hb.sz; (try simp at hs); (try have hs0 := hs w.heap.size (by omega)); (try have hs1 := hs (w.heap.size + 1) (by omega)); (try have hs2 := hs (w.heap.size + 1 + 1) (by omega)); (try have hs3 := hs (w.heap.size + 1 + 1 + 1) (by omega))) | (go_at_call 16; with_reducible refine Calls.mono (HS.out _) ?_; rintro e w1 ⟨rfl, hb⟩; have hc := hb.ccell; have hf := hb.frz; have hs := hb.sz; (try simp at hs); (try have hs0 := hs w.heap.size (by omega)); (try have hs1 := hs (w.heap.size + 1) (by omega)); (try have hs2 := hs (w.heap.size + 1 + 1) (by omega)); (try have hs3 := hs (w.heap.size + 1 + 1 + 1) (by omega))) | (go_at_call 46; with_reducible refine Calls.mono (H1.out _ (by (repeat (first | with_reducible exact Ext.rfl' _ | with_reducible assumption | with_reducible refine Ext.al ?_ _ | with_reducible refine Ext.dr ?_ | with_reducible refine Ext.st ?_ (by simp) _ | with_reducible refine Ext.tr ?_ (by assumption))))) ?_; rintro e wS ⟨A1, c1, rfl, hr1, hb⟩; have hc := hb.ccell; have hf := hb.frz; have hs := hb.sz; (try simp at hs); (try have t0 := hs (w.heap.size) (by first | assumption | omega)); (try have t1 := hs (wS.heap.size) (by first | assumption | omega)); (try have t2 := hs (wR.heap.size) (by first | assumption | omega)); (try have t3 := hs (wB.heap.size) (by first | assumption | omega)); (try have t4 := hs (wA.heap.size) (by first | assumption | omega)); (try have t5 := hs (wC.heap.size) (by first | assumption | omega))) | (go_at_call 47; with_reducible refine Calls.mono (H2.out _ (by (repeat (first | with_reducible exact Ext.rfl' _ | with_reducible assumption | with_reducible refine Ext.al ?_ _ | with_reducible refine Ext.dr ?_ | with_reducible refine Ext.st ?_ (by simp) _ | with_reducible refine Ext.tr ?_ (by assumption))))) ?_; rintro e wR ⟨A2, c2, rfl, hr2, hb⟩; have hc := hb.ccell; have hf := hb.frz; have hs := hb.sz; (try simp at hs); (try have t0 := hs (w.heap.size) (by first | assumption | omega)); (try have t1 := hs (wS.heap.size) (by first | assumption | omega)); (try have t2 := hs (wR.heap.size) (by first | assumption | omega)); (try have t3 := hs (wB.heap.size) (by first | assumption | omega)); (try have t4 := hs (wA.heap.size) (by first | assumption | omega)); (try have t5 := hs (wC.heap.size) (by first | assumption | omega))) | (go_at_call 48; with_reducible refine Calls.mono (H4.out _ _ _ _ _ (hr1.ext (by (repeat (first | with_reducible exact Ext.rfl' _ | with_reducible assumption | with_reducible refine Ext.al ?_ _ | with_reducible refine Ext.dr ?_ | with_reducible refine Ext.st ?_ (by simp) _ | with_reducible refine Ext.tr ?_ (by assumption))))) (hr2.ext (by (repeat (first | with_reducible exact Ext.rfl' _ | with_reducible assumption | with_reducible refine Ext.al ?_ _ | with_reducible refine Ext.dr ?_ | with_reducible refine Ext.st ?_ (by simp) _ | with_reducible refine Ext.tr ?_ (by assumption)))))) ?_; rintro e wQ ⟨rfl, hb⟩; have hc := hb.ccell; have hf := hb.frz; have hs := hb.sz; (try simp at hs); (try have t0 := hs (w.heap.size) (by first | assumption | omega)); (try have t1 := hs (wS.heap.size) (by first | assumption | omega)); (try have t2 := hs (wR.heap.size) (by first | assumption | omega)); (try have t3 := hs (wB.heap.size) (by first | assumption | omega)); (try have t4 := hs (wA.heap.size) (by first | assumption | omega)); (try have t5 := hs (wC.heap.size) (by first | assumption | omega))) | (go_at_call 46; with_reducible refine Calls.mono (H3.out _ _ _ (hr1.ext (by (repeat (first | with_reducible exact Ext.rfl' _ | with_reducible assumption | with_reducible refine Ext.al ?_ _ | with_reducible refine Ext.dr ?_ | with_reducible refine Ext.st ?_ (by simp) _ | with_reducible refine Ext.tr ?_ (by assumption)))))) ?_; rintro e wB ⟨A3, c3, rfl, hr3, hb⟩; have hc := hb.ccell; have hf := hb.frz; have hs := hb.sz; (try simp at hs); (try have t0 := hs (w.heap.size) (by first | assumption | omega)); (try have t1 := hs (wS.heap.size) (by first | assumption | omega)); (try have t2 := hs (wR.heap.size) (by first | assumption | omega)); (try have t3 := hs (wB.heap.size) (by first | assumption | omega)); (try have t4 := hs (wA.heap.size) (by first | assumption | omega)); (try have t5 := hs (wC.heap.size) (by first | assumption | omega))) | (go_at_call 17; with_reducible refine Calls.mono (HA1.out _ (by (repeat (first | with_reducible exact Ext.rfl' _ | with_reducible assumption | with_reducible refine Ext.al ?_ _ | with_reducible refine Ext.dr ?_ | with_reducible refine Ext.st ?_ (by simp) _ | with_reducible refine Ext.tr ?_ (by assumption))))) ?_; rintro e wA ⟨rfl, hb⟩; have hc := hb.ccell; have hf := hb.frz; have hs := hb.sz; (try simp at hs); (try have t0 := hs (w.heap.size) (by first | assumption | omega)); (try have t1 := hs (wS.heap.size) (by first | assumption | omega)); (try have t2 := hs (wR.heap.size) (by first | assumption | omega)); (try have t3 := hs (wB.heap.size) (by first | assumption | omega)); (try have t4 := hs (wA.heap.size) (by first | assumption | omega)); (try have t5 := hs (wC.heap.size) (by first | assumption | omega))) | (go_at_call 17; with_reducible refine Calls.mono (HA2.out _ _ _ (hr1.ext (by (repeat (first | with_reducible exact Ext.rfl' _ | with_reducible assumption | with_reducible refine Ext.al ?_ _ | with_reducible refine Ext.dr ?_ | with_reducible refine Ext.st ?_ (by simp) _ | with_reducible refine Ext.tr ?_ (by assumption)))))) ?_; rintro e wC ⟨rfl, hb⟩; have hc := hb.ccell; have hf := hb.frz; have hs := hb.sz; (try simp at hs); (try have t0 := hs (w.heap.size) (by first | assumption | omega)); (try have t1 := hs (wS.heap.size) (by first | assumption | omega)); (try have t2 := hs (wR.heap.size) (by first | assumption | omega)); (try have t3 := hs (wB.heap.size) (by first | assumption | omega)); (try have t4 := hs (wA.heap.size) (by first | assumption | omega)); (try have t5 := hs (wC.heap.size) (by first | assumption | omega))) | (go_at_call 48; with_reducible refine Calls.mono (H5.out _ _ _ (by (repeat (first | with_reducible exact Ext.rfl' _ | with_reducible assumption | with_reducible refine Ext.al ?_ _ | with_reducible refine Ext.dr ?_ | with_reducible refine Ext.st ?_ (by simp) _ | with_reducible refine Ext.tr ?_ (by assumption)))) (hr3.ext (by (repeat (first | with_reducible exact Ext.rfl' _ | with_reducible assumption | with_reducible refine Ext.al ?_ _ | with_reducible refine Ext.dr ?_ | with_reducible refine Ext.st ?_ (by simp) _ | with_reducible refine Ext.tr ?_ (by assumption)))))) ?_; rintro e wQ ⟨rfl, hb⟩; have hc := hb.ccell; have hf := hb.frz; have hs := hb.sz; (try simp at hs); (try have t0 := hs (w.heap.size) (by first | assumption | omega)); (try have t1 := hs (wS.heap.size) (by first | assumption | omega)); (try have t2 := hs (wR.heap.size) (by first | assumption | omega)); (try have t3 := hs (wB.heap.size) (by first | assumption | omega)); (try have t4 := hs (wA.heap.size) (by first | assumption | omega)); (try have t5 := hs (wC.heap.size) (by first | assumption | omega))))
      go_ret
      exact ⟨by first | rfl | (simp; done) | (simp; omega), by (repeat (first | with_reducible exact Ext.rfl' _ | with_reducible assumption | with_reducible refine Ext.al ?_ _ | with_reducible refine Ext.dr ?_ | with_reducible refine Ext.st ?_ (by simp) _ | with_reducible refine Ext.tr ?_ (by assumption)))⟩
    · rw [ho, if_pos rfl] at HA1 HA2
      obtain ⟨e1, e2⟩ := lv2 ho
      rw [e1, e2] at HA2
      clear lv2 ho e1 e2
      generalize gLo er l t i = lo at *
      generalize gHi er l t i = hi at *
      go_enter Try.func10, Try.ntmps10
      go_wp2_with (first | (go_at_call 15; with_reducible refine Calls.mono (awake_c _) ?_; rintro e w1 ⟨rfl, hb⟩; have hc := hb.ccell; have hf := hb.frz; have hs := hb.sz; (try simp at hs); (try have hs0 := hs w.heap.size (by omega)); (try have hs1 := hs (w.heap.size + 1) (by omega)); (try have hs2 := hs (w.heap.size + 1 + 1) (by omega)); (try have hs3 := hs (w.heap.size + 1 + 1 + 1) (by omega))) | (go_at_call 16; with_reducible refine Calls.mono (HS.out _) ?_; rintro e w1 ⟨rfl, hb⟩; have hc := hb.ccell; have hf := hb.frz; have hs := hb.sz; (try simp at hs); (try have hs0 := hs w.heap.size (by omega)); (try have hs1 := hs (w.heap.size + 1) (by omega)); (try have hs2 := hs (w.heap.size + 1 + 1) (by omega)); (try have hs3 := hs (w.heap.size + 1 + 1 + 1) (by omega))) | (go_at_call 46; with_reducible refine Calls.mono (H1.out _ (by (repeat (first | with_reducible exact Ext.rfl' _ | with_reducible assumption | with_reducible refine Ext.al ?_ _ | with_reducible refine Ext.dr ?_ | with_reducible refine Ext.st ?_ (by simp) _ | with_reducible refine Ext.tr ?_ (by assumption))))) ?_; rintro e wS ⟨A1, c1, rfl, hr1, hb⟩; have hc := hb.ccell; have hf := hb.frz; have hs := hb.sz; (try simp at hs); (try have t0 := hs (w.heap.size) (by first | assumption | omega)); (try have t1 := hs (wS.heap.size) (by first | assumption | omega)); (try have t2 := hs (wR.heap.size) (by first | assumption | omega)); (try have t3 := hs (wB.heap.size) (by first | assumption | omega)); (try have t4 := hs (wA.heap.size) (by first | assumption | omega)); (try have t5 := hs (wC.heap.size) (by first | assumption | omega))) | (go_at_call 47; with_reducible refine Calls.mono (H2.out _ (by (repeat (first | with_reducible exact Ext.rfl' _ | with_reducible assumption | with_reducible refine Ext.al ?_ _ | with_reducible refine Ext.dr ?_ | with_reducible refine Ext.st ?_ (by simp) _ | with_reducible refine Ext.tr ?_ (by assumption))))) ?_; rintro e wR ⟨A2, c2, rfl, hr2, hb⟩; have hc := hb.ccell; have hf := hb.frz; have hs := hb.sz; (try simp at hs); (try have t0 := hs (w.heap.size) (by first | assumption | omega)); (try have t1 := hs (wS.heap.size) (by first | assumption | omega)); (try have t2 := hs (wR.heap.size) (by first | assumption | omega)); (try have t3 := hs (wB.heap.size) (by first | assumption | omega)); (try have t4 := hs (wA.heap.size) (by first | assumption | omega)); (try have t5 := hs (wC.heap.size) (by first | assumption | omega))) | (go_at_call 48; with_reducible refine Calls.mono (H4.out _ _ _ _ _ (hr1.ext (by (repeat (first | with_reducible exact Ext.rfl' _ | with_reducible assumption | with_reducible refine Ext.al ?_ _ | with_reducible refine Ext.dr ?_ | with_reducible refine Ext.st ?_ (by simp) _ | with_reducible refine Ext.tr ?_ (by assumption))))) (hr2.ext (by (repeat (first | with_reducible exact Ext.rfl' _ | with_reducible assumption | with_reducible refine Ext.al ?_ _ | with_reducible refine Ext.dr ?_ | with_reducible refine Ext.st ?_ (by simp) _ | with_reducible refine Ext.tr ?_ (by assumption)))))) ?_; rintro e wQ ⟨rfl, hb⟩; have hc := hb.ccell; have hf := hb.frz; have hs := hb.sz; (try simp at hs); (try have t0 := hs (w.heap.size) (by first | assumption | omega)); (try have t1 := hs (wS.heap.size) (by first | assumption | omega)); (try have t2 := hs (wR.heap.size) (by first | assumption | omega)); (try have t3 := hs (wB.heap.size) (by first | assumption | omega)); (try have t4 := hs (wA.heap.size) (by first | assumption | omega)); (try have t5 := hs (wC.heap.size) (by first | assumption | omega))) | (go_at_call 46; with_reducible refine Calls.mono (H3.out _ _ _ (hr1.ext (by (repeat (first | with_reducible exact Ext.rfl' _ | with_reducible assumption | with_reducible refine Ext.al ?_ _ | with_reducible refine Ext.dr ?_ | with_reducible refine Ext.st ?_ (by simp) _ | with_reducible refine Ext.tr ?_ (by assumption)))))) ?_; rintro e wB ⟨A3, c3, rfl, hr3, hb⟩; have hc := hb.ccell; have hf := hb.frz; have hs := hb.sz; (try simp at hs); (try have t0 := hs (w.heap.size) (by first | assumption | omega)); (try have t1 := hs (wS.heap.size) (by first | assumption | omega)); (try have t2 := hs (wR.heap.size) (by first | assumption | omega)); (try have t3 := hs (wB.heap.size) (by first | assumption | omega)); (try have t4 := hs (wA.heap.size) (by first | assumption | omega)); (try have t5 := hs (wC.heap.size) (by first | assumption | omega))) | (go_at_call 17; with_reducible refine Calls.mono (HA1.out _ (by (repeat (first | with_reducible exact Ext.rfl' _ | with_reducible assumption | with_reducible refine Ext.al ?_ _ | with_reducible refine Ext.dr ?_ | with_reducible refine Ext.st ?_ (by simp) _ | with_reducible refine Ext.tr ?_ (by assumption))))) ?_; rintro e wA ⟨rfl, hb⟩; have hc := hb.ccell; have hf := hb.frz; have hs := hb.sz; (try simp at hs); (try have t0 := hs (w.heap.size) (by first | assumption | omega)); (try have t1 := hs (wS.heap.size) (by first | assumption | omega)); (try have t2 := hs (wR.heap.size) (by first | assumption | omega)); (try have t3 := hs (wB.heap.size) (by first | assumption | omega)); (try have t4 := hs (wA.heap.size) (by first | assumption | omega)); (try have t5 := hs (wC.heap.size) (by first | assumption | omega))) | (go_at_call 17; with_reducible refine Calls.mono (HA2.out _ _ _ (hr1.ext (by (repeat (first | with_reducible exact Ext.rfl' _ | with_reducible assumption | with_reducible refine Ext.al ?_ _ | with_reducible refine Ext.dr ?_ | with_reducible refine Ext.st ?_ (by simp) _ | with_reducible refine Ext.tr ?_ (by assumption)))))) ?_; rintro e wC ⟨rfl, hb⟩; have hc := hb.ccell; have hf := hb.frz; have hs := hb.sz; (try simp at hs); (try have t0 := hs (w.heap.size) (by first | assumption | omega)); (try have t1 := hs (wS.heap.size) (by first | assumption | omega)); (try have t2 := hs (wR.heap.size) (by first | assumption | omega)); (try have t3 := hs (wB.heap.size) (by first | assumption | omega)); (try have t4 := hs (wA.heap.size) (by first | assumption | omega)); (try have t5 := hs (wC.heap.size) (by first | assumption | omega))) | (go_at_call 48; with_reducible refine Calls.mono (H5.out _ _ _ (by (repeat (first | with_reducible exact Ext.rfl' _ | with_reducible assumption | with_reducible refine Ext.al ?_ _ | with_reducible refine Ext.dr ?_ | with_reducible refine Ext.st ?_ (by simp) _ | with_reducible refine Ext.tr ?_ (by assumption)))) (hr3.ext (by (repeat (first | with_reducible exact Ext.rfl' _ | with_reducible assumption | with_reducible refine Ext.al ?_ _ | with_reducible refine Ext.dr ?_ | with_reducible refine Ext.st ?_ (by simp) _ | with_reducible refine Ext.tr ?_ (by assumption)))))) ?_; rintro e wQ ⟨rfl, hb⟩; have hc := hb.ccell; have hf := hb.frz; have hs := hb.sz; (try simp at hs); (try have t0 := hs (w.heap.size) (by first | assumption | omega)); (try have t1 := hs (wS.heap.size) (by first | assumption | omega)); (try have t2 := hs (wR.heap.size) (by first | assumption | omega)); (try have t3 := hs (wB.heap.size) (by first | assumption | omega)); (try have t4 := hs (wA.heap.size) (by first | assumption | omega)); (try have t5 := hs (wC.heap.size) (by first | assumption | omega))))
      go_ret
      exact ⟨by first | rfl | (simp; done) | (simp; omega), by (repeat (first | with_reducible exact Ext.rfl' _ | with_reducible assumption | with_reducible refine Ext.al ?_ _ | with_reducible refine Ext.dr ?_ | with_reducible refine Ext.st ?_ (by simp) _ | with_reducible refine Ext.tr ?_ (by assumption)))⟩
end Go.Proofs.Ytblmljcgjibfgaa

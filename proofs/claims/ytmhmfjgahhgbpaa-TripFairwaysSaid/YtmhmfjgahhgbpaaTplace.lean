/- Contracts of the binary search in gauges that ascend, of placeLevel and of levelBetween. -/
import Derived.Test.YtmhmfjgahhgbpaaTall
import Derived.Test.YtmhmfjgahhgbpaaTtail
namespace Go.Proofs.Ytmhmfjgahhgbpaa
open Go Go.RowKit Go.IntWalk

theorem placeCmp_c (s : ByteArray) (y er : Int) (v : Value) (x : Int) (w : World) :
    Calls Try.prog 73 #[.agg #[.string s, .int .i64 y, .int .i64 er, v], .int .i64 x] w fun e w' => e = .returned (.int .i64 (cmpI y x)) ∧ Ext w w' := by
  go_enter Try.func73, Try.ntmps73
  go_wp2_with (first | (go_at_call 74; refine Calls.mono (cmp_c _ _ _) ?_; rintro e w' ⟨rfl, rfl⟩))
  go_ret
  exact ⟨rfl, by (repeat (first | with_reducible exact Ext.rfl' _ | with_reducible assumption | with_reducible refine Ext.al ?_ _ | with_reducible refine Ext.dr ?_ | with_reducible refine Ext.st ?_ (by simp) _ | with_reducible refine Ext.tr ?_ (by assumption)))⟩
def gg (gs : List Ga) (i : Nat) : Ga := gs.getD i default
theorem gg_lt (gs : List Ga) (i : Nat) (h : i < gs.length) : gg gs i = gs[i] := by simp [gg, List.getD, h]
/-- The place at which x stands in the gauges' places, or would stand. -/
def PosG (gs : List Ga) (x : Int) (i : Nat) : Prop := i ≤ gs.length ∧ (∀ a, a < i → (gg gs a).x < x) ∧ (∀ a, i ≤ a → a < gs.length → x ≤ (gg gs a).x)
def foundG (gs : List Ga) (x : Int) (i : Nat) : Bool := decide (i < gs.length) && decide ((gg gs i).x = x)
set_option maxHeartbeats 2000000 in
theorem searchG_c (gs : List Ga) (x : Int) (i : Nat) (w : World) (A : Option Addr) (c : Nat) (hl : gs.length ≤ 1000) (hA : Row 4 encG w A gs) (hp : PosG gs x i) :
    Calls Try.prog 72 #[.slice A gs.length c, .int .i64 x, .func (.func 73) #[] #[]] w
      fun e w' => e = .returned (.tuple #[.int .i64 i, .bool (foundG gs x i)]) ∧ Ext w w' := by
  have HP := Lib.hid hp
  have hi := hp.1
  clear hp
  obtain ⟨F, hF0⟩ : ∃ F, foundG gs x i = F := ⟨_, rfl⟩
  rw [hF0]
  have HT := Lib.hid hF0
  clear hF0
  go_enter Try.func72, Try.ntmps72
  go_wp2
  go_loopw [9, 10, 11] (fun a b _ wr => Ext w wr ∧ ∃ lo hi' : Nat, lo ≤ i ∧ i ≤ hi' ∧ hi' ≤ gs.length ∧ a = .int .i64 lo ∧ b = .int .i64 hi') (fun a b _ _ => (intOf b).toNat - (intOf a).toNat)
  case atStart => exact ⟨Ext.rfl' _, 0, gs.length, Nat.zero_le _, hi, Nat.le_refl _, rfl, rfl⟩
  case round =>
    obtain ⟨hE, lo, hi', h1, h2, h3, rfl, rfl⟩ := hrel
    by_cases hlt : lo < hi'
    · have hm : (lo + hi') / 2 < gs.length := by omega
      obtain ⟨b, off, rfl, hb0, hcell⟩ := hA.p4 hm
      have c := hcell _ hE
      clear hcell
      have hz := hE.sz _ hb0
      have HC := Lib.hid (fun w => placeCmp_c gs[(lo + hi') / 2].s gs[(lo + hi') / 2].x gs[(lo + hi') / 2].er (.slice gs[(lo + hi') / 2].A gs[(lo + hi') / 2].l.length gs[(lo + hi') / 2].c) x w)
      have hgm := gg_lt gs ((lo + hi') / 2) hm
      by_cases hxt : gs[(lo + hi') / 2].x < x
      · have hlo : (lo + hi') / 2 < i := by
          rcases Nat.lt_or_ge ((lo + hi') / 2) i with h | h
          · exact h
          · have := HP.out.2.2 _ h hm; rw [hgm] at this; omega
        have hz1 : cmpI gs[(lo + hi') / 2].x x = -1 := by unfold cmpI; rw [if_pos hxt]
        rw [hz1] at HC
        have HL := Lib.hid hlo
        clear hz1 hxt hgm hlo
        go_wp2_with (first | (go_at_call 73; with_reducible refine Calls.mono (HC.out _) ?_; rintro e w1 ⟨rfl, hb⟩; have hc := hb.ccell; have hf := hb.frz; have hs := hb.sz; (try simp at hs); (try have hs0 := hs w.heap.size (by omega)); (try have hs1 := hs (w.heap.size + 1) (by omega)); (try have hs2 := hs (w.heap.size + 1 + 1) (by omega)); (try have hs3 := hs (w.heap.size + 1 + 1 + 1) (by omega))))
        have hlo := HL.out
        exact ⟨⟨by (repeat (first | with_reducible exact Ext.rfl' _ | with_reducible assumption | with_reducible refine Ext.al ?_ _ | with_reducible refine Ext.dr ?_ | with_reducible refine Ext.st ?_ (by simp) _ | with_reducible refine Ext.tr ?_ (by assumption))), (lo + hi') / 2 + 1, hi', by omega, h2, h3, by go_num, rfl⟩, by simp [intOf]; omega⟩
      · have hlo : i ≤ (lo + hi') / 2 := by
          rcases Nat.lt_or_ge ((lo + hi') / 2) i with h | h
          · have := HP.out.2.1 _ h; rw [hgm] at this; omega
          · exact h
        have hz1 : ¬ cmpI gs[(lo + hi') / 2].x x < 0 := by unfold cmpI; rw [if_neg hxt]; split <;> omega
        generalize cmpI gs[(lo + hi') / 2].x x = z at HC hz1
        have HL := Lib.hid hlo
        clear hxt hgm hlo
        go_wp2_with (first | (go_at_call 73; with_reducible refine Calls.mono (HC.out _) ?_; rintro e w1 ⟨rfl, hb⟩; have hc := hb.ccell; have hf := hb.frz; have hs := hb.sz; (try simp at hs); (try have hs0 := hs w.heap.size (by omega)); (try have hs1 := hs (w.heap.size + 1) (by omega)); (try have hs2 := hs (w.heap.size + 1 + 1) (by omega)); (try have hs3 := hs (w.heap.size + 1 + 1 + 1) (by omega))))
        have hlo := HL.out
        exact ⟨⟨by (repeat (first | with_reducible exact Ext.rfl' _ | with_reducible assumption | with_reducible refine Ext.al ?_ _ | with_reducible refine Ext.dr ?_ | with_reducible refine Ext.st ?_ (by simp) _ | with_reducible refine Ext.tr ?_ (by assumption))), lo, (lo + hi') / 2, h1, by omega, by omega, rfl, by go_num⟩, by simp [intOf]; omega⟩
    · have e1 : lo = i := by omega
      have e2 : hi' = i := by omega
      subst e1 e2
      clear h1 h2
      by_cases hin : hi' < gs.length
      · obtain ⟨b, off, rfl, hb0, hcell⟩ := hA.p4 hin
        have c := hcell _ hE
        clear hcell
        have hz := hE.sz _ hb0
        have HC := Lib.hid (fun w => placeCmp_c gs[hi'].s gs[hi'].x gs[hi'].er (.slice gs[hi'].A gs[hi'].l.length gs[hi'].c) x w)
        have hf : foundG gs x hi' = (cmpI gs[hi'].x x == 0) := by
          unfold foundG
          rw [gg_lt gs hi' hin, decide_eq_true hin, Bool.true_and, Bool.eq_iff_iff, decide_eq_true_eq, beq_iff_eq]
          unfold cmpI
          split
          · omega
          · split <;> omega
        have HF := Lib.hid hf
        clear hf
        generalize cmpI gs[hi'].x x = z at HC HF
        go_wp2_with (first | (go_at_call 73; with_reducible refine Calls.mono (HC.out _) ?_; rintro e w1 ⟨rfl, hb⟩; have hc := hb.ccell; have hf := hb.frz; have hs := hb.sz; (try simp at hs); (try have hs0 := hs w.heap.size (by omega)); (try have hs1 := hs (w.heap.size + 1) (by omega)); (try have hs2 := hs (w.heap.size + 1 + 1) (by omega)); (try have hs3 := hs (w.heap.size + 1 + 1 + 1) (by omega))))
        go_ret2
        exact ⟨by rw [← HT.out, HF.out]; rfl, by (repeat (first | with_reducible exact Ext.rfl' _ | with_reducible assumption | with_reducible refine Ext.al ?_ _ | with_reducible refine Ext.dr ?_ | with_reducible refine Ext.st ?_ (by simp) _ | with_reducible refine Ext.tr ?_ (by assumption)))⟩
      · have hf : foundG gs x hi' = false := by unfold foundG; rw [decide_eq_false hin]; rfl
        have HF := Lib.hid hf
        clear hf
        go_wp2
        go_ret2
        exact ⟨by rw [← HT.out, HF.out]; rfl, by (repeat (first | with_reducible exact Ext.rfl' _ | with_reducible assumption | with_reducible refine Ext.al ?_ _ | with_reducible refine Ext.dr ?_ | with_reducible refine Ext.st ?_ (by simp) _ | with_reducible refine Ext.tr ?_ (by assumption)))⟩

/-! ### The level between two gauges -/
/-- A gauge that is valid but for its name. -/
structure GoodR (g : Ga) : Prop where
  x : -1000000 ≤ g.x ∧ g.x ≤ 1000000
  er : 0 ≤ g.er ∧ g.er ≤ 1000
  m : Good g.l
theorem m_small {l : List Pt} {t : Int} {i : Nat} (hG : Good l) (hp : PosAt l t i) (ho : mOk l t i = true) :
    0 < mD l t i ∧ -(20000 * mD l t i) ≤ mN l t i ∧ mN l t i ≤ 20000 * mD l t i := by
  unfold mN mD
  unfold mOk at ho
  cases hf : foundB l t i
  · rw [hf, Bool.false_or, Bool.and_eq_true, decide_eq_true_eq, decide_eq_true_eq] at ho
    obtain ⟨h0, h1⟩ := ho
    obtain ⟨j, hj⟩ : ∃ j, i = j + 1 := ⟨i - 1, by omega⟩
    subst hj
    have oi := (okM_iff _).1 (hG.ok (j + 1) h1)
    have oj := (okM_iff _).1 (hG.ok j (by omega))
    have p1 := hp.2.1 j (by omega)
    have p2 := hp.2.2 (j + 1) (Nat.le_refl _) h1
    simp only [Bool.false_eq_true, if_false, Nat.add_sub_cancel]
    generalize gt l (j + 1) = b at *
    generalize gt l j = a at *
    unfold sumZ
    have e1 := Int.mul_le_mul_of_nonneg_right oj.2.1 (show 0 ≤ b.x - t by omega)
    have e2 := Int.mul_le_mul_of_nonneg_right oj.2.2 (show 0 ≤ b.x - t by omega)
    have e3 := Int.mul_le_mul_of_nonneg_right oi.2.1 (show 0 ≤ t - a.x by omega)
    have e4 := Int.mul_le_mul_of_nonneg_right oi.2.2 (show 0 ≤ t - a.x by omega)
    omega
  · have hil : i < l.length := by
      unfold foundB at hf
      rw [Bool.and_eq_true] at hf
      exact of_decide_eq_true hf.1
    have oi := (okM_iff _).1 (hG.ok i hil)
    simp only [if_true]
    omega
theorem lo_hi_small {er : Int} {l : List Pt} {t : Int} {i : Nat} (hG : Good l) (he : 0 ≤ er ∧ er ≤ 1000) (hp : PosAt l t i) :
    (-21000 ≤ gLo er l t i ∧ gLo er l t i ≤ 20000) ∧ (-20000 ≤ gHi er l t i ∧ gHi er l t i ≤ 21000) := by
  unfold gLo gHi
  cases ho : mOk l t i
  · simp
  · obtain ⟨h0, h1, h2⟩ := m_small hG hp ho
    unfold mLo mHi
    rw [ho]
    simp only [if_true]
    have a1 : -20000 ≤ mN l t i / mD l t i := Int.le_ediv_of_mul_le h0 (by omega)
    have a2 : mN l t i / mD l t i < 20001 := Int.ediv_lt_of_lt_mul h0 (by omega)
    have a3 : -20000 ≤ (-mN l t i) / mD l t i := Int.le_ediv_of_mul_le h0 (by omega)
    have a4 : (-mN l t i) / mD l t i < 20001 := Int.ediv_lt_of_lt_mul h0 (by omega)
    omega
def btOk (a b : Ga) (t : Int) (i j : Nat) : Bool := mOk a.l t i && mOk b.l t j
def btLo (a b : Ga) (x t : Int) (i j : Nat) : Int := if btOk a b t i j then sumZ a.x (gLo a.er a.l t i) b.x (gLo b.er b.l t j) x / (b.x - a.x) else 0
def btHi (a b : Ga) (x t : Int) (i j : Nat) : Int := if btOk a b t i j then -((-sumZ a.x (gHi a.er a.l t i) b.x (gHi b.er b.l t j) x) / (b.x - a.x)) else 0
theorem prod_bd {v d : Int} (h1 : -100000 ≤ v ∧ v ≤ 100000) (h2 : -4000000 ≤ d ∧ d ≤ 4000000) : -1000000000000 ≤ v * d ∧ v * d ≤ 1000000000000 := by
  have := mul_bound (x := v) (y := d) (M := 100000) (N := 4000000) (by omega) (by omega) (by omega) (by omega)
  omega
set_option maxHeartbeats 4000000 in
theorem between_c (a b : Ga) (x t : Int) (i j : Nat) (w : World) (ha : GoodR a) (hb : GoodR b) (hx : -1000000 ≤ x ∧ x ≤ 1000000) (hab : a.x < b.x) (ht : 0 ≤ t ∧ t ≤ 1000000) (hA : Row 2 encP w a.A a.l) (hB : Row 2 encP w b.A b.l) (hp : PosAt a.l t i) (hq : PosAt b.l t j) :
    Calls Try.prog 76 #[.agg #[.string a.s, .int .i64 a.x, .int .i64 a.er, .slice a.A a.l.length a.c], .agg #[.string b.s, .int .i64 b.x, .int .i64 b.er, .slice b.A b.l.length b.c], .int .i64 x, .int .i64 t] w
      fun e w' => e = .returned (.tuple #[.agg #[.int .i64 (btLo a b x t i j), .int .i64 (btHi a b x t i j)], .bool (btOk a b t i j)]) ∧ Ext w w' := by
  have HGA := Lib.hid (fun w' (hw : Ext w w') => gaugeLevel_c a.s a.x a.er a.l t i w' a.A a.c ha.m ha.er ht (hA.ext hw) hp)
  have HGB := Lib.hid (fun w' (hw : Ext w w') => gaugeLevel_c b.s b.x b.er b.l t j w' b.A b.c hb.m hb.er ht (hB.ext hw) hq)
  have sa := lo_hi_small ha.m ha.er hp
  have sb := lo_hi_small hb.m hb.er hq
  have hd := ha.x
  have he := hb.x
  have HL := Lib.hid (fun w => onLine_c a.x (gLo a.er a.l t i) b.x (gLo b.er b.l t j) x w (by omega) (by omega) (by omega) hab (prod_bd (by omega) (by omega)) (prod_bd (by omega) (by omega)))
  have HH := Lib.hid (fun w => onLine_c a.x (gHi a.er a.l t i) b.x (gHi b.er b.l t j) x w (by omega) (by omega) (by omega) hab (prod_bd (by omega) (by omega)) (prod_bd (by omega) (by omega)))
  unfold btLo btHi btOk
  generalize sumZ a.x (gLo a.er a.l t i) b.x (gLo b.er b.l t j) x / (b.x - a.x) = r0 at *
  generalize -((-sumZ a.x (gLo a.er a.l t i) b.x (gLo b.er b.l t j) x) / (b.x - a.x)) = r1 at *
  generalize sumZ a.x (gHi a.er a.l t i) b.x (gHi b.er b.l t j) x / (b.x - a.x) = r2 at *
  generalize -((-sumZ a.x (gHi a.er a.l t i) b.x (gHi b.er b.l t j) x) / (b.x - a.x)) = r3 at *
  generalize gLo a.er a.l t i = alo at *
  generalize gHi a.er a.l t i = ahi at *
  generalize gLo b.er b.l t j = blo at *
  generalize gHi b.er b.l t j = bhi at *
  clear sa sb hd he ha hb
  cases hoa : mOk a.l t i
  · rw [hoa] at HGA
    simp only [Bool.false_and, Bool.false_eq_true, if_false]
    clear hoa
    go_enter Try.func76, Try.ntmps76
    go_wp2_with (first | (go_at_call 75; with_reducible refine Calls.mono (HGA.out _ (by (repeat (first | with_reducible exact Ext.rfl' _ | with_reducible assumption | with_reducible refine Ext.al ?_ _ | with_reducible refine Ext.dr ?_ | with_reducible refine Ext.st ?_ (by simp) _ | with_reducible refine Ext.tr ?_ (by assumption))))) ?_; rintro e w1 ⟨rfl, hb⟩; have hc := hb.ccell; have hf := hb.frz; have hs := hb.sz; (try simp at hs); (try have hs0 := hs w.heap.size (by omega)); (try have hs1 := hs (w.heap.size + 1) (by omega)); (try have hs2 := hs (w.heap.size + 1 + 1) (by omega)); (try have hs3 := hs (w.heap.size + 1 + 1 + 1) (by omega))))
    have hE : Ext w w1 := by (repeat (first | with_reducible exact Ext.rfl' _ | with_reducible assumption | with_reducible refine Ext.al ?_ _ | with_reducible refine Ext.dr ?_ | with_reducible refine Ext.st ?_ (by simp) _ | with_reducible refine Ext.tr ?_ (by assumption)))
    have kz : Two w1 (w.heap.size + 1 + 1) 0 0 := by refine ⟨?_, ?_⟩ <;> simp [*, go_sem]
    have zb : w.heap.size + 1 + 1 < w1.heap.size := hb.sz _ (by simp)
    have hS2 := Two.alloc (Two.store (w := w1) (b := w.heap.size + 1 + 1) kz (0) (0)) (by rw [st2_size]; exact zb) (.cells #[.int .i64 alo, .int .i64 ahi] 48)
    have hX2 := Ext.al (Ext.store2 (b := w.heap.size + 1 + 1) hE (by omega) (0) (0)) (.cells #[.int .i64 alo, .int .i64 ahi] 48)
    show bodyPost _ _ _ _ _ ((st2 w1 (w.heap.size + 1 + 1) (0) (0)).alloc (.cells #[.int .i64 alo, .int .i64 ahi] 48))
    generalize (st2 w1 (w.heap.size + 1 + 1) (0) (0)).alloc (.cells #[.int .i64 alo, .int .i64 ahi] 48) = W6 at hS2 hX2 ⊢
    obtain ⟨s0, s1⟩ := hS2
    refine bodyPost_ret (v := .tuple #[.agg #[.int .i64 0, .int .i64 0], .bool false]) (by simp [results, Try.results76, go_sem, s0, s1]) rfl ⟨rfl, hX2⟩
  rw [hoa] at HGA
  clear hoa
  cases hob : mOk b.l t j
  · rw [hob] at HGB
    simp only [Bool.and_false, Bool.false_eq_true, if_false]
    clear hob
    go_enter Try.func76, Try.ntmps76
    go_wp2_with (first | (go_at_call 75; with_reducible refine Calls.mono (HGA.out _ (by (repeat (first | with_reducible exact Ext.rfl' _ | with_reducible assumption | with_reducible refine Ext.al ?_ _ | with_reducible refine Ext.dr ?_ | with_reducible refine Ext.st ?_ (by simp) _ | with_reducible refine Ext.tr ?_ (by assumption))))) ?_; rintro e w1 ⟨rfl, hb⟩; have hc := hb.ccell; have hf := hb.frz; have hs := hb.sz; (try simp at hs); (try have t0 := hs (w.heap.size) (by first | assumption | omega)); (try have t1 := hs (w.heap.size + 1) (by first | assumption | omega))) | (go_at_call 75; with_reducible refine Calls.mono (HGB.out _ (by (repeat (first | with_reducible exact Ext.rfl' _ | with_reducible assumption | with_reducible refine Ext.al ?_ _ | with_reducible refine Ext.dr ?_ | with_reducible refine Ext.st ?_ (by simp) _ | with_reducible refine Ext.tr ?_ (by assumption))))) ?_; rintro e w2 ⟨rfl, hb⟩; have hc := hb.ccell; have hf := hb.frz; have hs := hb.sz; (try simp at hs); (try have t0 := hs (w.heap.size) (by first | assumption | omega)); (try have t1 := hs (w.heap.size + 1) (by first | assumption | omega))))
    have hE : Ext w w2 := by (repeat (first | with_reducible exact Ext.rfl' _ | with_reducible assumption | with_reducible refine Ext.al ?_ _ | with_reducible refine Ext.dr ?_ | with_reducible refine Ext.st ?_ (by simp) _ | with_reducible refine Ext.tr ?_ (by assumption)))
    have kz : Two w2 (w.heap.size + 1 + 1) 0 0 := by refine ⟨?_, ?_⟩ <;> simp [*, go_sem]
    have zb : w.heap.size + 1 + 1 < w2.heap.size := hb.sz _ (by simp; omega)
    have hS2 := Two.alloc (Two.store (w := w2) (b := w.heap.size + 1 + 1) kz (0) (0)) (by rw [st2_size]; exact zb) (.cells #[.int .i64 blo, .int .i64 bhi] 48)
    have hX2 := Ext.al (Ext.store2 (b := w.heap.size + 1 + 1) hE (by omega) (0) (0)) (.cells #[.int .i64 blo, .int .i64 bhi] 48)
    show bodyPost _ _ _ _ _ ((st2 w2 (w.heap.size + 1 + 1) (0) (0)).alloc (.cells #[.int .i64 blo, .int .i64 bhi] 48))
    generalize (st2 w2 (w.heap.size + 1 + 1) (0) (0)).alloc (.cells #[.int .i64 blo, .int .i64 bhi] 48) = W6 at hS2 hX2 ⊢
    obtain ⟨s0, s1⟩ := hS2
    refine bodyPost_ret (v := .tuple #[.agg #[.int .i64 0, .int .i64 0], .bool false]) (by simp [results, Try.results76, go_sem, s0, s1]) rfl ⟨rfl, hX2⟩
  · rw [hob] at HGB
    simp only [Bool.and_self, if_true]
    clear hob
    go_enter Try.func76, Try.ntmps76
    go_wp2_with (first | (go_at_call 75; with_reducible refine Calls.mono (HGA.out _ (by (repeat (first | with_reducible exact Ext.rfl' _ | with_reducible assumption | with_reducible refine Ext.al ?_ _ | with_reducible refine Ext.dr ?_ | with_reducible refine Ext.st ?_ (by simp) _ | with_reducible refine Ext.tr ?_ (by assumption))))) ?_; rintro e w1 ⟨rfl, hb⟩; have hc := hb.ccell; have hf := hb.frz; have hs := hb.sz; (try simp at hs); (try have t0 := hs (w.heap.size) (by first | assumption | omega)); (try have t1 := hs (w.heap.size + 1) (by first | assumption | omega)); (try have t2 := hs (w.heap.size + 1 + 1) (by first | assumption | omega)); (try have t3 := hs (w1.heap.size) (by first | assumption | omega)); (try have t4 := hs (w2.heap.size) (by first | assumption | omega)); (try have t5 := hs (w3.heap.size) (by first | assumption | omega))) | (go_at_call 75; with_reducible refine Calls.mono (HGB.out _ (by (repeat (first | with_reducible exact Ext.rfl' _ | with_reducible assumption | with_reducible refine Ext.al ?_ _ | with_reducible refine Ext.dr ?_ | with_reducible refine Ext.st ?_ (by simp) _ | with_reducible refine Ext.tr ?_ (by assumption))))) ?_; rintro e w2 ⟨rfl, hb⟩; have hc := hb.ccell; have hf := hb.frz; have hs := hb.sz; (try simp at hs); (try have t0 := hs (w.heap.size) (by first | assumption | omega)); (try have t1 := hs (w.heap.size + 1) (by first | assumption | omega)); (try have t2 := hs (w.heap.size + 1 + 1) (by first | assumption | omega)); (try have t3 := hs (w1.heap.size) (by first | assumption | omega)); (try have t4 := hs (w2.heap.size) (by first | assumption | omega)); (try have t5 := hs (w3.heap.size) (by first | assumption | omega))) | (go_at_call 88; with_reducible refine Calls.mono (HL.out _) ?_; rintro e w3 ⟨rfl, hb⟩; have hc := hb.ccell; have hf := hb.frz; have hs := hb.sz; (try simp at hs); (try have t0 := hs (w.heap.size) (by first | assumption | omega)); (try have t1 := hs (w.heap.size + 1) (by first | assumption | omega)); (try have t2 := hs (w.heap.size + 1 + 1) (by first | assumption | omega)); (try have t3 := hs (w1.heap.size) (by first | assumption | omega)); (try have t4 := hs (w2.heap.size) (by first | assumption | omega)); (try have t5 := hs (w3.heap.size) (by first | assumption | omega))) | (go_at_call 88; with_reducible refine Calls.mono (HH.out _) ?_; rintro e w4 ⟨rfl, hb⟩; have hc := hb.ccell; have hf := hb.frz; have hs := hb.sz; (try simp at hs); (try have t0 := hs (w.heap.size) (by first | assumption | omega)); (try have t1 := hs (w.heap.size + 1) (by first | assumption | omega)); (try have t2 := hs (w.heap.size + 1 + 1) (by first | assumption | omega)); (try have t3 := hs (w1.heap.size) (by first | assumption | omega)); (try have t4 := hs (w2.heap.size) (by first | assumption | omega)); (try have t5 := hs (w3.heap.size) (by first | assumption | omega))))
    have hE : Ext w w4 := by (repeat (first | with_reducible exact Ext.rfl' _ | with_reducible assumption | with_reducible refine Ext.al ?_ _ | with_reducible refine Ext.dr ?_ | with_reducible refine Ext.st ?_ (by simp) _ | with_reducible refine Ext.tr ?_ (by assumption)))
    have kz : Two w4 (w.heap.size + 1 + 1) 0 0 := by refine ⟨?_, ?_⟩ <;> simp [*, go_sem]
    have zb : w.heap.size + 1 + 1 < w4.heap.size := by omega
    have hS2 := Two.alloc (Two.store (w := w4) (b := w.heap.size + 1 + 1) kz (r0) (r3)) (by rw [st2_size]; exact zb) (.cells #[.int .i64 r2, .int .i64 r3] 48)
    have hX2 := Ext.al (Ext.store2 (b := w.heap.size + 1 + 1) hE (by omega) (r0) (r3)) (.cells #[.int .i64 r2, .int .i64 r3] 48)
    show bodyPost _ _ _ _ _ ((st2 w4 (w.heap.size + 1 + 1) (r0) (r3)).alloc (.cells #[.int .i64 r2, .int .i64 r3] 48))
    generalize (st2 w4 (w.heap.size + 1 + 1) (r0) (r3)).alloc (.cells #[.int .i64 r2, .int .i64 r3] 48) = W6 at hS2 hX2 ⊢
    obtain ⟨s0, s1⟩ := hS2
    refine bodyPost_ret (v := .tuple #[.agg #[.int .i64 r0, .int .i64 r3], .bool true]) (by simp [results, Try.results76, go_sem, s0, s1]) rfl ⟨rfl, hX2⟩

/-! ### The level at a place -/
def oneV (g : Ga) (t : Int) (p : Nat) : Int × Int × Bool := (gLo g.er g.l t p, gHi g.er g.l t p, mOk g.l t p)
def twoV (a b : Ga) (x t : Int) (p q : Nat) : Int × Int × Bool := (btLo a b x t p q, btHi a b x t p q, btOk a b t p q)
def plV (gs : List Ga) (x t : Int) (P : Nat → Nat) (i : Nat) : Int × Int × Bool :=
  if gs.length = 0 then (0, 0, false) else if foundG gs x i || decide (i = 0) then oneV (gg gs i) t (P i) else if i = gs.length then oneV (gg gs (i - 1)) t (P (i - 1)) else twoV (gg gs (i - 1)) (gg gs i) x t (P (i - 1)) (P i)
def gVals (g : Ga) : Value := .agg #[.string g.s, .int .i64 g.x, .int .i64 g.er, .slice g.A g.l.length g.c]
/-- Gauges that are valid but for their names. -/
structure GoodL (gs : List Ga) : Prop where
  len : gs.length ≤ 6
  ok : ∀ k, k < gs.length → GoodR (gg gs k)
  asc : ∀ k, k + 1 < gs.length → (gg gs k).x < (gg gs (k + 1)).x
theorem one_c (gs : List Ga) (t : Int) (k p : Nat) (hk : k < gs.length) (w : World) (hG : GoodR (gg gs k)) (ht : 0 ≤ t ∧ t ≤ 1000000) (hM : Marks w gs) (hp : PosAt (gg gs k).l t p) :
    Calls Try.prog 75 #[.agg #[.string gs[k].s, .int .i64 gs[k].x, .int .i64 gs[k].er, .slice gs[k].A gs[k].l.length gs[k].c], .int .i64 t] w
      fun e w' => e = .returned (.tuple #[.agg #[.int .i64 (oneV (gg gs k) t p).1, .int .i64 (oneV (gg gs k) t p).2.1], .bool (oneV (gg gs k) t p).2.2]) ∧ Ext w w' := by
  have hA := (hM k hk).2
  rw [← gg_lt gs k hk] at hA ⊢
  exact gaugeLevel_c _ _ _ _ t p w _ _ hG.m hG.er ht hA hp
theorem two_c (gs : List Ga) (x t : Int) (k i p q : Nat) (hk : k < gs.length) (hi : i < gs.length) (w : World) (hG : GoodR (gg gs k)) (hG2 : GoodR (gg gs i)) (hx : -1000000 ≤ x ∧ x ≤ 1000000) (hab : (gg gs k).x < (gg gs i).x) (ht : 0 ≤ t ∧ t ≤ 1000000) (hM : Marks w gs) (hp : PosAt (gg gs k).l t p) (hq : PosAt (gg gs i).l t q) :
    Calls Try.prog 76 #[.agg #[.string gs[k].s, .int .i64 gs[k].x, .int .i64 gs[k].er, .slice gs[k].A gs[k].l.length gs[k].c], .agg #[.string gs[i].s, .int .i64 gs[i].x, .int .i64 gs[i].er, .slice gs[i].A gs[i].l.length gs[i].c], .int .i64 x, .int .i64 t] w
      fun e w' => e = .returned (.tuple #[.agg #[.int .i64 (twoV (gg gs k) (gg gs i) x t p q).1, .int .i64 (twoV (gg gs k) (gg gs i) x t p q).2.1], .bool (twoV (gg gs k) (gg gs i) x t p q).2.2]) ∧ Ext w w' := by
  have hA := (hM k hk).2
  have hB := (hM i hi).2
  rw [← gg_lt gs k hk] at hA ⊢
  rw [← gg_lt gs i hi] at hB ⊢
  exact between_c _ _ x t p q w hG hG2 hx hab ht hA hB hp hq
set_option maxHeartbeats 4000000 in
theorem placeLevel_c (gs : List Ga) (x t : Int) (P : Nat → Nat) (i : Nat) (w : World) (A : Option Addr) (c : Nat) (hG : GoodL gs) (hx : -1000000 ≤ x ∧ x ≤ 1000000) (ht : 0 ≤ t ∧ t ≤ 1000000)
    (hA : Row 4 encG w A gs) (hM : Marks w gs) (hp : PosG gs x i) (hP : ∀ k, k < gs.length → PosAt (gg gs k).l t (P k)) :
    Calls Try.prog 60 #[.slice A gs.length c, .int .i64 x, .int .i64 t] w
      fun e w' => e = .returned (.tuple #[.agg #[.int .i64 (plV gs x t P i).1, .int .i64 (plV gs x t P i).2.1], .bool (plV gs x t P i).2.2]) ∧ Ext w w' := by
  have hl : gs.length ≤ 1000 := by have := hG.len; omega
  have HS := Lib.hid (fun w' (hw : Ext w w') => searchG_c gs x i w' A c hl (hA.ext hw) hp)
  have hi := hp.1
  by_cases h0 : gs.length = 0
  · have e1 : plV gs x t P i = (0, 0, false) := by unfold plV; rw [if_pos h0]
    have hi0 : i = 0 := by omega
    rw [e1]
    subst hi0
    rw [h0] at HS ⊢
    generalize foundG gs x 0 = f at *
    clear e1 hG hp hP
    go_enter Try.func60, Try.ntmps60
    go_wp2_with (first | (go_at_call 72; with_reducible refine Calls.mono (HS.out _ (by (repeat (first | with_reducible exact Ext.rfl' _ | with_reducible assumption | with_reducible refine Ext.al ?_ _ | with_reducible refine Ext.dr ?_ | with_reducible refine Ext.st ?_ (by simp) _ | with_reducible refine Ext.tr ?_ (by assumption))))) ?_; rintro e w1 ⟨rfl, hb⟩; have hc := hb.ccell; have hf := hb.frz; have hs := hb.sz; (try simp at hs); (try have hs0 := hs w.heap.size (by omega)); (try have hs1 := hs (w.heap.size + 1) (by omega)); (try have hs2 := hs (w.heap.size + 1 + 1) (by omega)); (try have hs3 := hs (w.heap.size + 1 + 1 + 1) (by omega))))
    have hE : Ext w w1 := by (repeat (first | with_reducible exact Ext.rfl' _ | with_reducible assumption | with_reducible refine Ext.al ?_ _ | with_reducible refine Ext.dr ?_ | with_reducible refine Ext.st ?_ (by simp) _ | with_reducible refine Ext.tr ?_ (by assumption)))
    have kz : Two w1 w.heap.size 0 0 := by refine ⟨?_, ?_⟩ <;> simp [*, go_sem]
    have hS2 := Two.store (w := w1) (b := w.heap.size) kz (0) (0)
    have hX2 := Ext.store2 (b := w.heap.size) hE (by omega) (0) (0)
    show bodyPost _ _ _ _ _ (st2 w1 (w.heap.size) (0) (0))
    generalize st2 w1 (w.heap.size) (0) (0) = W6 at hS2 hX2 ⊢
    obtain ⟨s0, s1⟩ := hS2
    refine bodyPost_ret (v := .tuple #[.agg #[.int .i64 0, .int .i64 0], .bool false]) (by simp [results, Try.results60, go_sem, s0, s1]) rfl ⟨rfl, hX2⟩
  by_cases h1 : (foundG gs x i || decide (i = 0)) = true
  · have hil : i < gs.length := by
      rw [Bool.or_eq_true, decide_eq_true_eq] at h1
      rcases h1 with h | h
      · unfold foundG at h
        rw [Bool.and_eq_true] at h
        exact of_decide_eq_true h.1
      · omega
    have e1 : plV gs x t P i = oneV (gg gs i) t (P i) := by unfold plV; rw [if_neg h0, if_pos h1]
    rw [e1]
    have HO := Lib.hid (fun w' (hw : Ext w w') => one_c gs t i (P i) hil w' (hG.ok i hil) ht (hM.ext hw) (hP i hil))
    generalize oneV (gg gs i) t (P i) = r at *
    obtain ⟨r0, r1, r2⟩ := r
    dsimp only at HO ⊢
    obtain ⟨b, off, rfl, hb0, hcell⟩ := hA.p4 hil
    have cc := hcell _ (Ext.rfl' w)
    have h0' : ((gs.length : Int) == 0) = false := by rw [beq_eq_false_iff_ne]; omega
    clear e1 hG hp hP hcell
    cases hf : foundG gs x i
    · have hi0 : ((i : Int) == 0) = true := by rw [hf] at h1; simp at h1; simp [h1]
      rw [hf] at HS
      clear hf h1
      go_enter Try.func60, Try.ntmps60
      go_wp2_with (first | (go_at_call 72; with_reducible refine Calls.mono (HS.out _ (by (repeat (first | with_reducible exact Ext.rfl' _ | with_reducible assumption | with_reducible refine Ext.al ?_ _ | with_reducible refine Ext.dr ?_ | with_reducible refine Ext.st ?_ (by simp) _ | with_reducible refine Ext.tr ?_ (by assumption))))) ?_; rintro e w1 ⟨rfl, hb⟩; have hc := hb.ccell; have hf := hb.frz; have hs := hb.sz; (try simp at hs); (try have t0 := hs (w.heap.size) (by first | assumption | omega)); (try have t1 := hs (b) (by first | assumption | omega)); (try have t2 := hs (b) (by first | assumption | omega)); (try have t3 := hs (b) (by first | assumption | omega)); (try have t4 := hs (b) (by first | assumption | omega)); (try have t5 := hs (b) (by first | assumption | omega))) | (go_at_call 75; with_reducible refine Calls.mono (HO.out _ (by (repeat (first | with_reducible exact Ext.rfl' _ | with_reducible assumption | with_reducible refine Ext.al ?_ _ | with_reducible refine Ext.dr ?_ | with_reducible refine Ext.st ?_ (by simp) _ | with_reducible refine Ext.tr ?_ (by assumption))))) ?_; rintro e w2 ⟨rfl, hb⟩; have hc := hb.ccell; have hf := hb.frz; have hs := hb.sz; (try simp at hs); (try have t0 := hs (w.heap.size) (by first | assumption | omega)); (try have t1 := hs (b) (by first | assumption | omega)); (try have t2 := hs (b) (by first | assumption | omega)); (try have t3 := hs (b) (by first | assumption | omega)); (try have t4 := hs (b) (by first | assumption | omega)); (try have t5 := hs (b) (by first | assumption | omega))))
      have hE : Ext w w2 := by (repeat (first | with_reducible exact Ext.rfl' _ | with_reducible assumption | with_reducible refine Ext.al ?_ _ | with_reducible refine Ext.dr ?_ | with_reducible refine Ext.st ?_ (by simp) _ | with_reducible refine Ext.tr ?_ (by assumption)))
      have kz : Two w2 w.heap.size 0 0 := by refine ⟨?_, ?_⟩ <;> simp [*, go_sem]
      have hS2 := Two.store (w := w2) (b := w.heap.size) kz (r0) (r1)
      have hX2 := Ext.store2 (b := w.heap.size) hE (by omega) (r0) (r1)
      show bodyPost _ _ _ _ _ (st2 w2 (w.heap.size) (r0) (r1))
      generalize st2 w2 (w.heap.size) (r0) (r1) = W6 at hS2 hX2 ⊢
      obtain ⟨s0, s1⟩ := hS2
      refine bodyPost_ret (v := .tuple #[.agg #[.int .i64 r0, .int .i64 r1], .bool r2]) (by simp [results, Try.results60, go_sem, s0, s1]) rfl ⟨rfl, hX2⟩

    · rw [hf] at HS
      clear hf h1
      go_enter Try.func60, Try.ntmps60
      go_wp2_with (first | (go_at_call 72; with_reducible refine Calls.mono (HS.out _ (by (repeat (first | with_reducible exact Ext.rfl' _ | with_reducible assumption | with_reducible refine Ext.al ?_ _ | with_reducible refine Ext.dr ?_ | with_reducible refine Ext.st ?_ (by simp) _ | with_reducible refine Ext.tr ?_ (by assumption))))) ?_; rintro e w1 ⟨rfl, hb⟩; have hc := hb.ccell; have hf := hb.frz; have hs := hb.sz; (try simp at hs); (try have t0 := hs (w.heap.size) (by first | assumption | omega)); (try have t1 := hs (b) (by first | assumption | omega)); (try have t2 := hs (b) (by first | assumption | omega)); (try have t3 := hs (b) (by first | assumption | omega)); (try have t4 := hs (b) (by first | assumption | omega)); (try have t5 := hs (b) (by first | assumption | omega))) | (go_at_call 75; with_reducible refine Calls.mono (HO.out _ (by (repeat (first | with_reducible exact Ext.rfl' _ | with_reducible assumption | with_reducible refine Ext.al ?_ _ | with_reducible refine Ext.dr ?_ | with_reducible refine Ext.st ?_ (by simp) _ | with_reducible refine Ext.tr ?_ (by assumption))))) ?_; rintro e w2 ⟨rfl, hb⟩; have hc := hb.ccell; have hf := hb.frz; have hs := hb.sz; (try simp at hs); (try have t0 := hs (w.heap.size) (by first | assumption | omega)); (try have t1 := hs (b) (by first | assumption | omega)); (try have t2 := hs (b) (by first | assumption | omega)); (try have t3 := hs (b) (by first | assumption | omega)); (try have t4 := hs (b) (by first | assumption | omega)); (try have t5 := hs (b) (by first | assumption | omega))))
      have hE : Ext w w2 := by (repeat (first | with_reducible exact Ext.rfl' _ | with_reducible assumption | with_reducible refine Ext.al ?_ _ | with_reducible refine Ext.dr ?_ | with_reducible refine Ext.st ?_ (by simp) _ | with_reducible refine Ext.tr ?_ (by assumption)))
      have kz : Two w2 w.heap.size 0 0 := by refine ⟨?_, ?_⟩ <;> simp [*, go_sem]
      have hS2 := Two.store (w := w2) (b := w.heap.size) kz (r0) (r1)
      have hX2 := Ext.store2 (b := w.heap.size) hE (by omega) (r0) (r1)
      show bodyPost _ _ _ _ _ (st2 w2 (w.heap.size) (r0) (r1))
      generalize st2 w2 (w.heap.size) (r0) (r1) = W6 at hS2 hX2 ⊢
      obtain ⟨s0, s1⟩ := hS2
      refine bodyPost_ret (v := .tuple #[.agg #[.int .i64 r0, .int .i64 r1], .bool r2]) (by simp [results, Try.results60, go_sem, s0, s1]) rfl ⟨rfl, hX2⟩

  have hf : foundG gs x i = false := by cases h : foundG gs x i; rfl; rw [h] at h1; exact absurd rfl h1
  have hi0 : i ≠ 0 := by intro h; rw [hf, decide_eq_true h] at h1; exact h1 rfl
  rw [hf] at HS
  obtain ⟨k, hk⟩ : ∃ k, i = k + 1 := ⟨i - 1, by omega⟩
  have hkl : k < gs.length := by omega
  have h0' : ((gs.length : Int) == 0) = false := by rw [beq_eq_false_iff_ne]; omega
  have hi0' : ((i : Int) == 0) = false := by rw [beq_eq_false_iff_ne]; omega
  have hiz : (i : Int) - 1 = (k : Int) := by omega
  by_cases hn : i = gs.length
  · have e1 : plV gs x t P i = oneV (gg gs k) t (P k) := by unfold plV; rw [if_neg h0, if_neg h1, if_pos hn, show i - 1 = k by omega]
    rw [e1]
    have HO := Lib.hid (fun w' (hw : Ext w w') => one_c gs t k (P k) hkl w' (hG.ok k hkl) ht (hM.ext hw) (hP k hkl))
    generalize oneV (gg gs k) t (P k) = r at *
    obtain ⟨r0, r1, r2⟩ := r
    dsimp only at HO ⊢
    obtain ⟨b, off, rfl, hb0, hcell⟩ := hA.p4 hkl
    have cc := hcell _ (Ext.rfl' w)
    have hin : ((i : Int) == (gs.length : Int)) = true := by rw [beq_iff_eq]; omega
    have HK := Lib.hid hk
    clear e1 hG hp hP hcell h1 hf hn hk
    go_enter Try.func60, Try.ntmps60
    go_wp2_with (first | (go_at_call 72; with_reducible refine Calls.mono (HS.out _ (by (repeat (first | with_reducible exact Ext.rfl' _ | with_reducible assumption | with_reducible refine Ext.al ?_ _ | with_reducible refine Ext.dr ?_ | with_reducible refine Ext.st ?_ (by simp) _ | with_reducible refine Ext.tr ?_ (by assumption))))) ?_; rintro e w1 ⟨rfl, hb⟩; have hc := hb.ccell; have hf := hb.frz; have hs := hb.sz; (try simp at hs); (try have t0 := hs (w.heap.size) (by first | assumption | omega)); (try have t1 := hs (b) (by first | assumption | omega)); (try have t2 := hs (b) (by first | assumption | omega)); (try have t3 := hs (b) (by first | assumption | omega)); (try have t4 := hs (b) (by first | assumption | omega)); (try have t5 := hs (b) (by first | assumption | omega))) | (go_at_call 75; with_reducible refine Calls.mono (HO.out _ (by (repeat (first | with_reducible exact Ext.rfl' _ | with_reducible assumption | with_reducible refine Ext.al ?_ _ | with_reducible refine Ext.dr ?_ | with_reducible refine Ext.st ?_ (by simp) _ | with_reducible refine Ext.tr ?_ (by assumption))))) ?_; rintro e w2 ⟨rfl, hb⟩; have hc := hb.ccell; have hf := hb.frz; have hs := hb.sz; (try simp at hs); (try have t0 := hs (w.heap.size) (by first | assumption | omega)); (try have t1 := hs (b) (by first | assumption | omega)); (try have t2 := hs (b) (by first | assumption | omega)); (try have t3 := hs (b) (by first | assumption | omega)); (try have t4 := hs (b) (by first | assumption | omega)); (try have t5 := hs (b) (by first | assumption | omega))))
    have hE : Ext w w2 := by (repeat (first | with_reducible exact Ext.rfl' _ | with_reducible assumption | with_reducible refine Ext.al ?_ _ | with_reducible refine Ext.dr ?_ | with_reducible refine Ext.st ?_ (by simp) _ | with_reducible refine Ext.tr ?_ (by assumption)))
    have kz : Two w2 w.heap.size 0 0 := by refine ⟨?_, ?_⟩ <;> simp [*, go_sem]
    have hS2 := Two.store (w := w2) (b := w.heap.size) kz (r0) (r1)
    have hX2 := Ext.store2 (b := w.heap.size) hE (by omega) (r0) (r1)
    show bodyPost _ _ _ _ _ (st2 w2 (w.heap.size) (r0) (r1))
    generalize st2 w2 (w.heap.size) (r0) (r1) = W6 at hS2 hX2 ⊢
    obtain ⟨s0, s1⟩ := hS2
    refine bodyPost_ret (v := .tuple #[.agg #[.int .i64 r0, .int .i64 r1], .bool r2]) (by simp [results, Try.results60, go_sem, s0, s1]) rfl ⟨rfl, hX2⟩

  · have hil : i < gs.length := by omega
    have e1 : plV gs x t P i = twoV (gg gs k) (gg gs i) x t (P k) (P i) := by unfold plV; rw [if_neg h0, if_neg h1, if_neg hn, show i - 1 = k by omega]
    rw [e1]
    have hasc := hG.asc k (by omega)
    rw [← hk] at hasc
    have HO := Lib.hid (fun w' (hw : Ext w w') => two_c gs x t k i (P k) (P i) hkl hil w' (hG.ok k hkl) (hG.ok i hil) hx hasc ht (hM.ext hw) (hP k hkl) (hP i hil))
    generalize twoV (gg gs k) (gg gs i) x t (P k) (P i) = r at *
    obtain ⟨r0, r1, r2⟩ := r
    dsimp only at HO ⊢
    obtain ⟨b, off, rfl, hb0, hcell⟩ := hA.p4 hkl
    have cc := hcell _ (Ext.rfl' w)
    have ci := hA.r4 hil _ (Ext.rfl' w)
    have hin : ((i : Int) == (gs.length : Int)) = false := by rw [beq_eq_false_iff_ne]; omega
    have HK := Lib.hid hk
    clear e1 hG hp hP hcell h1 hf hn hk hasc
    go_enter Try.func60, Try.ntmps60
    go_upto_region 8 with (first | (go_at_call 72; with_reducible refine Calls.mono (HS.out _ (by (repeat (first | with_reducible exact Ext.rfl' _ | with_reducible assumption | with_reducible refine Ext.al ?_ _ | with_reducible refine Ext.dr ?_ | with_reducible refine Ext.st ?_ (by simp) _ | with_reducible refine Ext.tr ?_ (by assumption))))) ?_; rintro e w1 ⟨rfl, hb⟩; have hc := hb.ccell; have hf := hb.frz; have hs := hb.sz; (try simp at hs); (try have t0 := hs (w.heap.size) (by first | assumption | omega)); (try have t1 := hs (b) (by first | assumption | omega)); (try have t2 := hs (b) (by first | assumption | omega)); (try have t3 := hs (b) (by first | assumption | omega)); (try have t4 := hs (b) (by first | assumption | omega)); (try have t5 := hs (b) (by first | assumption | omega))))
    have hE : Ext w w1 := by (repeat (first | with_reducible exact Ext.rfl' _ | with_reducible assumption | with_reducible refine Ext.al ?_ _ | with_reducible refine Ext.dr ?_ | with_reducible refine Ext.st ?_ (by simp) _ | with_reducible refine Ext.tr ?_ (by assumption)))
    have kz : Two w1 w.heap.size 0 0 := by refine ⟨?_, ?_⟩ <;> simp [*, go_sem]
    have fz : ∀ o, w1.frozen? ⟨w.heap.size, o, none⟩ = false := by intro o; simp [*, go_sem]
    have HX := Lib.hid (And.intro hE (And.intro kz fz))
    clear kz fz
    refine region_grow_tail 14 (by kernel_rfl) (by kernel_rfl) ?_
    simp only [List.take_succ_cons, List.take_zero, List.drop_succ_cons, List.drop_zero]
    repeat (first | go_big_quiet_step (first | (go_at_call 76; with_reducible exact callsGrow (HO.out _ (hE.tr (Grow.ok _)))) | fail) | quiet_step (first | (go_at_call 76; with_reducible exact callsGrow (HO.out _ (hE.tr (Grow.ok _)))) | fail))
    refine wpQuiet_nil ?_
    intro w1 hb
    have hc := hb.ccell
    have hf := hb.frz
    have hs := hb.sz
    (try simp at hs); (try have hs0 := hs w.heap.size (by omega)); (try have hs1 := hs (w.heap.size + 1) (by omega)); (try have hs2 := hs (w.heap.size + 1 + 1) (by omega)); (try have hs3 := hs (w.heap.size + 1 + 1 + 1) (by omega))
    have hz := World.block_lt_of_cell? _ _ HX.out.2.1.1
    have kz : Two w1 w.heap.size 0 0 := ⟨(hb.ccell _ 0 hz).trans HX.out.2.1.1, (hb.ccell _ 1 hz).trans HX.out.2.1.2⟩
    have fz := fun o => (hb.frz _ o hz).trans (HX.out.2.2 o)
    have hE := HX.out.1.tr hb
    have KZ := Lib.hid kz
    obtain ⟨y0, y1⟩ := kz
    go_wp2
    have hS2 := Two.store (w := w1) (b := w.heap.size) KZ.out (r0) (r1)
    have hX2 := Ext.store2 (b := w.heap.size) hE (by omega) (r0) (r1)
    show bodyPost _ _ _ _ _ (st2 w1 (w.heap.size) (r0) (r1))
    generalize st2 w1 (w.heap.size) (r0) (r1) = W6 at hS2 hX2 ⊢
    obtain ⟨s0, s1⟩ := hS2
    refine bodyPost_ret (v := .tuple #[.agg #[.int .i64 r0, .int .i64 r1], .bool r2]) (by simp [results, Try.results60, go_sem, s0, s1]) rfl ⟨rfl, hX2⟩
end Go.Proofs.Ytmhmfjgahhgbpaa

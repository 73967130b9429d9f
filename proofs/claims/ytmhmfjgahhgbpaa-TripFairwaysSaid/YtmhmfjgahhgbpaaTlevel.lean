/- Contracts of tide.Level. -/
import Derived.Test.YtmhmfjgahhgbpaaTplace
namespace Go.Proofs.Ytmhmfjgahhgbpaa
open Go Go.RowKit Go.IntWalk

theorem gaus_good {gs : List Ga} (h : gausE gs = 0) : GoodL gs := by
  unfold gausE at h
  by_cases h1 : 6 < gs.length
  · rw [if_pos h1] at h; omega
  rw [if_neg h1] at h
  have hz := firstE_zero h
  have key : ∀ k (hk : k < gs.length), GoodR gs[k] ∧ (decide (gs.take k = []) || decide ((gs.take k).getLast?.elim gs[k].x (·.x) < gs[k].x)) = true := by
    intro k hk
    have h2 := hz k hk
    rw [errG_lt hk] at h2
    unfold nextE at h2
    cases hn : nameB gs[k].s
    · rw [if_pos hn] at h2; omega
    rw [if_neg (by rw [hn]; decide)] at h2
    cases hh : hasB (gs.take k) gs[k].s
    case true => rw [if_pos hh] at h2; omega
    rw [if_neg (by rw [hh]; decide)] at h2
    cases hw : (withinB gs[k].x (-1000000) 1000000 && withinB gs[k].er 0 1000)
    · rw [if_pos hw] at h2; omega
    rw [if_neg (by rw [hw]; decide)] at h2
    rw [Bool.and_eq_true] at hw
    unfold withinB at hw
    simp only [Bool.and_eq_true, decide_eq_true_eq] at hw
    by_cases hm : marksE gs[k].l = 0
    · rw [if_pos hm] at h2
      refine ⟨⟨hw.1, hw.2, marks_good hm⟩, ?_⟩
      cases hc : (decide (gs.take k = []) || decide ((gs.take k).getLast?.elim gs[k].x (·.x) < gs[k].x))
      · rw [hc] at h2; simp at h2
      · rfl
    · rw [if_neg hm] at h2; exact absurd h2 hm
  refine ⟨by omega, fun k hk => by rw [gg_lt gs k hk]; exact (key k hk).1, fun k hk => ?_⟩
  have h2 := (key (k + 1) hk).2
  have hl : (gs.take (k + 1)).getLast? = some gs[k] := by
    rw [List.getLast?_eq_getElem?, List.length_take, Nat.min_eq_left (by omega), Nat.add_sub_cancel, List.getElem?_take_of_lt (by omega), List.getElem?_eq_getElem (by omega)]
  have hne : decide (gs.take (k + 1) = []) = false := by
    refine decide_eq_false fun h => ?_
    rw [h] at hl; cases hl
  rw [hne, hl, Bool.false_or] at h2
  rw [gg_lt gs k (by omega), gg_lt gs (k + 1) hk]
  exact of_decide_eq_true h2
theorem GoodL.lt {gs : List Ga} (h : GoodL gs) : ∀ (d a : Nat), a + d + 1 < gs.length → (gg gs a).x < (gg gs (a + d + 1)).x
  | 0, a, hd => h.asc a hd
  | d + 1, a, hd => by
    have h1 := h.lt d a (by omega)
    have h2 := h.asc (a + d + 1) (by omega)
    rw [show a + (d + 1) + 1 = a + d + 1 + 1 by omega]
    omega
theorem GoodL.sorted {gs : List Ga} (h : GoodL gs) {a b : Nat} (hab : a < b) (hb : b < gs.length) : (gg gs a).x < (gg gs b).x := by
  have := h.lt (b - a - 1) a (by omega)
  rwa [show a + (b - a - 1) + 1 = b by omega] at this
theorem posG_some {gs : List Ga} (h : GoodL gs) (x : Int) : ∃ i, PosG gs x i := by
  have : ∀ k, k ≤ gs.length → ∃ i, i ≤ k ∧ (∀ a, a < i → (gg gs a).x < x) ∧ (∀ a, i ≤ a → a < k → x ≤ (gg gs a).x) := by
    intro k
    induction k with
    | zero => intro _; exact ⟨0, Nat.le_refl _, fun a ha => by omega, fun a _ ha => by omega⟩
    | succ k ih =>
      intro hk
      obtain ⟨i, h1, h2, h3⟩ := ih (by omega)
      by_cases hc : x ≤ (gg gs k).x
      · refine ⟨i, by omega, h2, fun a ha hak => ?_⟩
        by_cases hak2 : a = k
        · subst hak2; exact hc
        · exact h3 a ha (by omega)
      · refine ⟨k + 1, Nat.le_refl _, fun a ha => ?_, fun a ha hak => by omega⟩
        by_cases hak2 : a = k
        · subst hak2; omega
        · have := h.sorted (show a < k by omega) (show k < gs.length by omega); omega
  obtain ⟨i, h1, h2, h3⟩ := this gs.length (Nat.le_refl _)
  exact ⟨i, h1, h2, h3⟩
theorem pos_all {gs : List Ga} (h : GoodL gs) (t : Int) : ∃ P : Nat → Nat, ∀ k, k < gs.length → PosAt (gg gs k).l t (P k) := by
  have : ∀ k, ∃ p, k < gs.length → PosAt (gg gs k).l t p := by
    intro k
    by_cases hk : k < gs.length
    · obtain ⟨p, hp⟩ := pos_some (h.ok k hk).m t
      exact ⟨p, fun _ => hp⟩
    · exact ⟨0, fun h => absurd h hk⟩
  exact ⟨fun k => Classical.choose (this k), fun k hk => Classical.choose_spec (this k) hk⟩
theorem plV_no {gs : List Ga} {x t : Int} {P : Nat → Nat} {i : Nat} (h : (plV gs x t P i).2.2 = false) : plV gs x t P i = (0, 0, false) := by
  have one : ∀ g p, (oneV g t p).2.2 = false → oneV g t p = (0, 0, false) := by
    intro g p h
    unfold oneV gLo gHi at *
    dsimp only at h
    rw [h]; rfl
  have two : ∀ a b p q, (twoV a b x t p q).2.2 = false → twoV a b x t p q = (0, 0, false) := by
    intro a b p q h
    unfold twoV btLo btHi at *
    dsimp only at h
    rw [h]; rfl
  unfold plV at *
  by_cases h0 : gs.length = 0
  · rw [if_pos h0]
  rw [if_neg h0] at h ⊢
  by_cases h1 : (foundG gs x i || decide (i = 0)) = true
  · rw [if_pos h1] at h ⊢; exact one _ _ h
  rw [if_neg h1] at h ⊢
  by_cases h2 : i = gs.length
  · rw [if_pos h2] at h ⊢; exact one _ _ h
  · rw [if_neg h2] at h ⊢; exact two _ _ _ _ h
set_option maxHeartbeats 2000000 in
theorem level_bad_c (gs : List Ga) (x t : Int) (w : World) (A : Option Addr) (c : Nat) (hl : gs.length ≤ 1000) (hc : gs.length ≤ c) (hA : Row 4 encG w A gs) (hM : Marks w gs) (h0 : gausE gs ≠ 0) :
    Calls Try.prog 39 #[.slice A gs.length c, .int .i64 x, .int .i64 t] w
      fun e w' => e = .returned (.tuple #[.agg #[.int .i64 0, .int .i64 0], .int .i64 (gausE gs)]) ∧ Ext w w' := by
  have HC := Lib.hid (fun w' (hw : Ext w w') => checkAll_c gs w' A c hl hc (hA.ext hw) (hM.ext hw))
  generalize gausE gs = r at *
  have h' : (r == 0) = false := by simp [h0]
  go_enter Try.func39, Try.ntmps39
  go_wp2_with (first | (go_at_call 42; with_reducible refine Calls.mono (HC.out _ (by (repeat (first | with_reducible exact Ext.rfl' _ | with_reducible assumption | with_reducible refine Ext.al ?_ _ | with_reducible refine Ext.dr ?_ | with_reducible refine Ext.st ?_ (by simp) _ | with_reducible refine Ext.tr ?_ (by assumption))))) ?_; rintro e w1 ⟨rfl, hb⟩; have hc := hb.ccell; have hf := hb.frz; have hs := hb.sz; (try simp at hs); (try have hs0 := hs w.heap.size (by omega)); (try have hs1 := hs (w.heap.size + 1) (by omega)); (try have hs2 := hs (w.heap.size + 1 + 1) (by omega)); (try have hs3 := hs (w.heap.size + 1 + 1 + 1) (by omega))))
  have hE : Ext w w1 := by (repeat (first | with_reducible exact Ext.rfl' _ | with_reducible assumption | with_reducible refine Ext.al ?_ _ | with_reducible refine Ext.dr ?_ | with_reducible refine Ext.st ?_ (by simp) _ | with_reducible refine Ext.tr ?_ (by assumption)))
  have kz : Two w1 w.heap.size 0 0 := by refine ⟨?_, ?_⟩ <;> simp [*, go_sem]
  have hS2 := Two.store (w := w1) (b := w.heap.size) kz (0) (0)
  have hX2 := Ext.store2 (b := w.heap.size) hE (by omega) (0) (0)
  show bodyPost _ _ _ _ _ (st2 w1 (w.heap.size) (0) (0))
  generalize st2 w1 (w.heap.size) (0) (0) = W6 at hS2 hX2 ⊢
  obtain ⟨s0, s1⟩ := hS2
  refine bodyPost_ret (v := .tuple #[.agg #[.int .i64 0, .int .i64 0], .int .i64 r]) (by simp [results, Try.results39, go_sem, s0, s1]) rfl ⟨rfl, hX2⟩
set_option maxHeartbeats 2000000 in
theorem level_out_c (gs : List Ga) (x t : Int) (w : World) (A : Option Addr) (c : Nat) (hl : gs.length ≤ 1000) (hc : gs.length ≤ c) (hA : Row 4 encG w A gs) (hM : Marks w gs) (h0 : gausE gs = 0)
    (hx : (withinB x (-1000000) 1000000 && withinB t 0 1000000) = false) :
    Calls Try.prog 39 #[.slice A gs.length c, .int .i64 x, .int .i64 t] w
      fun e w' => e = .returned (.tuple #[.agg #[.int .i64 0, .int .i64 0], .int .i64 2]) ∧ Ext w w' := by
  have HC := Lib.hid (fun w' (hw : Ext w w') => checkAll_c gs w' A c hl hc (hA.ext hw) (hM.ext hw))
  rw [h0] at HC
  have HP := Lib.hid (fun w => isPlace_c x w)
  have HT := Lib.hid (fun w => isMinute_c t w)
  clear h0
  cases hp : withinB x (-1000000) 1000000
  · rw [hp] at HP
    clear hx hp
    go_enter Try.func39, Try.ntmps39
    go_wp2_with (first | (go_at_call 42; with_reducible refine Calls.mono (HC.out _ (by (repeat (first | with_reducible exact Ext.rfl' _ | with_reducible assumption | with_reducible refine Ext.al ?_ _ | with_reducible refine Ext.dr ?_ | with_reducible refine Ext.st ?_ (by simp) _ | with_reducible refine Ext.tr ?_ (by assumption))))) ?_; rintro e w1 ⟨rfl, hb⟩; have hc := hb.ccell; have hf := hb.frz; have hs := hb.sz; (try simp at hs); (try have hs0 := hs w.heap.size (by omega)); (try have hs1 := hs (w.heap.size + 1) (by omega)); (try have hs2 := hs (w.heap.size + 1 + 1) (by omega)); (try have hs3 := hs (w.heap.size + 1 + 1 + 1) (by omega))) | (go_at_call 58; with_reducible refine Calls.mono (HP.out _) ?_; rintro e w' ⟨rfl, rfl⟩))
    have hE : Ext w w1 := by (repeat (first | with_reducible exact Ext.rfl' _ | with_reducible assumption | with_reducible refine Ext.al ?_ _ | with_reducible refine Ext.dr ?_ | with_reducible refine Ext.st ?_ (by simp) _ | with_reducible refine Ext.tr ?_ (by assumption)))
    have kz : Two w1 w.heap.size 0 0 := by refine ⟨?_, ?_⟩ <;> simp [*, go_sem]
    have hS2 := Two.store (w := w1) (b := w.heap.size) kz (0) (0)
    have hX2 := Ext.store2 (b := w.heap.size) hE (by omega) (0) (0)
    show bodyPost _ _ _ _ _ (st2 w1 (w.heap.size) (0) (0))
    generalize st2 w1 (w.heap.size) (0) (0) = W6 at hS2 hX2 ⊢
    obtain ⟨s0, s1⟩ := hS2
    refine bodyPost_ret (v := .tuple #[.agg #[.int .i64 0, .int .i64 0], .int .i64 2]) (by simp [results, Try.results39, go_sem, s0, s1]) rfl ⟨rfl, hX2⟩
  · rw [hp, Bool.true_and] at hx
    rw [hp] at HP
    rw [hx] at HT
    clear hx hp
    go_enter Try.func39, Try.ntmps39
    go_wp2_with (first | (go_at_call 42; with_reducible refine Calls.mono (HC.out _ (by (repeat (first | with_reducible exact Ext.rfl' _ | with_reducible assumption | with_reducible refine Ext.al ?_ _ | with_reducible refine Ext.dr ?_ | with_reducible refine Ext.st ?_ (by simp) _ | with_reducible refine Ext.tr ?_ (by assumption))))) ?_; rintro e w1 ⟨rfl, hb⟩; have hc := hb.ccell; have hf := hb.frz; have hs := hb.sz; (try simp at hs); (try have hs0 := hs w.heap.size (by omega)); (try have hs1 := hs (w.heap.size + 1) (by omega)); (try have hs2 := hs (w.heap.size + 1 + 1) (by omega)); (try have hs3 := hs (w.heap.size + 1 + 1 + 1) (by omega))) | (go_at_call 58; with_reducible refine Calls.mono (HP.out _) ?_; rintro e w' ⟨rfl, rfl⟩) | (go_at_call 59; with_reducible refine Calls.mono (HT.out _) ?_; rintro e w' ⟨rfl, rfl⟩))
    have hE : Ext w w1 := by (repeat (first | with_reducible exact Ext.rfl' _ | with_reducible assumption | with_reducible refine Ext.al ?_ _ | with_reducible refine Ext.dr ?_ | with_reducible refine Ext.st ?_ (by simp) _ | with_reducible refine Ext.tr ?_ (by assumption)))
    have kz : Two w1 w.heap.size 0 0 := by refine ⟨?_, ?_⟩ <;> simp [*, go_sem]
    have hS2 := Two.store (w := w1) (b := w.heap.size) kz (0) (0)
    have hX2 := Ext.store2 (b := w.heap.size) hE (by omega) (0) (0)
    show bodyPost _ _ _ _ _ (st2 w1 (w.heap.size) (0) (0))
    generalize st2 w1 (w.heap.size) (0) (0) = W6 at hS2 hX2 ⊢
    obtain ⟨s0, s1⟩ := hS2
    refine bodyPost_ret (v := .tuple #[.agg #[.int .i64 0, .int .i64 0], .int .i64 2]) (by simp [results, Try.results39, go_sem, s0, s1]) rfl ⟨rfl, hX2⟩
set_option maxHeartbeats 4000000 in
theorem level_ok_c (gs : List Ga) (x t : Int) (P : Nat → Nat) (i : Nat) (w : World) (A : Option Addr) (c : Nat) (hc : gs.length ≤ c) (hA : Row 4 encG w A gs) (hM : Marks w gs) (h0 : gausE gs = 0)
    (hx : withinB x (-1000000) 1000000 = true) (ht : withinB t 0 1000000 = true) (hp : PosG gs x i) (hP : ∀ k, k < gs.length → PosAt (gg gs k).l t (P k)) :
    Calls Try.prog 39 #[.slice A gs.length c, .int .i64 x, .int .i64 t] w
      fun e w' => e = .returned (.tuple #[.agg #[.int .i64 (plV gs x t P i).1, .int .i64 (plV gs x t P i).2.1], .int .i64 (if (plV gs x t P i).2.2 then 0 else 11)]) ∧ Ext w w' := by
  have hG := gaus_good h0
  have hl : gs.length ≤ 1000 := by have := hG.len; omega
  have HC := Lib.hid (fun w' (hw : Ext w w') => checkAll_c gs w' A c hl hc (hA.ext hw) (hM.ext hw))
  rw [h0] at HC
  have HP := Lib.hid (fun w => isPlace_c x w)
  have HT := Lib.hid (fun w => isMinute_c t w)
  rw [hx] at HP
  rw [ht] at HT
  unfold withinB at hx ht
  simp only [Bool.and_eq_true, decide_eq_true_eq] at hx ht
  have HL := Lib.hid (fun w' (hw : Ext w w') => placeLevel_c gs x t P i w' A c hG hx ht (hA.ext hw) (hM.ext hw) hp hP)
  have hno := plV_no (gs := gs) (x := x) (t := t) (P := P) (i := i)
  generalize plV gs x t P i = r at *
  obtain ⟨r0, r1, r2⟩ := r
  dsimp only at HL hno ⊢
  clear hp hP hG h0
  cases r2
  · have h2 := hno rfl
    injection h2 with h2 h3
    injection h3 with h3 h4
    subst h2 h3
    clear hno h4
    go_enter Try.func39, Try.ntmps39
    go_wp2_with (first | (go_at_call 42; with_reducible refine Calls.mono (HC.out _ (by (repeat (first | with_reducible exact Ext.rfl' _ | with_reducible assumption | with_reducible refine Ext.al ?_ _ | with_reducible refine Ext.dr ?_ | with_reducible refine Ext.st ?_ (by simp) _ | with_reducible refine Ext.tr ?_ (by assumption))))) ?_; rintro e w1 ⟨rfl, hb⟩; have hc := hb.ccell; have hf := hb.frz; have hs := hb.sz; (try simp at hs); (try have t0 := hs (w.heap.size) (by first | assumption | omega)); (try have t1 := hs (w.heap.size) (by first | assumption | omega)); (try have t2 := hs (w.heap.size) (by first | assumption | omega)); (try have t3 := hs (w.heap.size) (by first | assumption | omega)); (try have t4 := hs (w.heap.size) (by first | assumption | omega)); (try have t5 := hs (w.heap.size) (by first | assumption | omega))) | (go_at_call 58; with_reducible refine Calls.mono (HP.out _) ?_; rintro e w' ⟨rfl, rfl⟩) | (go_at_call 59; with_reducible refine Calls.mono (HT.out _) ?_; rintro e w' ⟨rfl, rfl⟩) | (go_at_call 60; with_reducible refine Calls.mono (HL.out _ (by (repeat (first | with_reducible exact Ext.rfl' _ | with_reducible assumption | with_reducible refine Ext.al ?_ _ | with_reducible refine Ext.dr ?_ | with_reducible refine Ext.st ?_ (by simp) _ | with_reducible refine Ext.tr ?_ (by assumption))))) ?_; rintro e w2 ⟨rfl, hb⟩; have hc := hb.ccell; have hf := hb.frz; have hs := hb.sz; (try simp at hs); (try have t0 := hs (w.heap.size) (by first | assumption | omega)); (try have t1 := hs (w.heap.size) (by first | assumption | omega)); (try have t2 := hs (w.heap.size) (by first | assumption | omega)); (try have t3 := hs (w.heap.size) (by first | assumption | omega)); (try have t4 := hs (w.heap.size) (by first | assumption | omega)); (try have t5 := hs (w.heap.size) (by first | assumption | omega))))
    have hE : Ext w w2 := by (repeat (first | with_reducible exact Ext.rfl' _ | with_reducible assumption | with_reducible refine Ext.al ?_ _ | with_reducible refine Ext.dr ?_ | with_reducible refine Ext.st ?_ (by simp) _ | with_reducible refine Ext.tr ?_ (by assumption)))
    have kz : Two w2 w.heap.size 0 0 := by refine ⟨?_, ?_⟩ <;> simp [*, go_sem]
    have zb : w.heap.size < w2.heap.size := t0
    have hS2 := Two.alloc (Two.store (w := w2) (b := w.heap.size) kz (0) (0)) (by rw [st2_size]; exact zb) (.cells #[.int .i64 0, .int .i64 0] 48)
    have hX2 := Ext.al (Ext.store2 (b := w.heap.size) hE (by omega) (0) (0)) (.cells #[.int .i64 0, .int .i64 0] 48)
    show bodyPost _ _ _ _ _ ((st2 w2 (w.heap.size) (0) (0)).alloc (.cells #[.int .i64 0, .int .i64 0] 48))
    generalize (st2 w2 (w.heap.size) (0) (0)).alloc (.cells #[.int .i64 0, .int .i64 0] 48) = W6 at hS2 hX2 ⊢
    obtain ⟨s0, s1⟩ := hS2
    refine bodyPost_ret (v := .tuple #[.agg #[.int .i64 0, .int .i64 0], .int .i64 11]) (by simp [results, Try.results39, go_sem, s0, s1]) rfl ⟨rfl, hX2⟩
  · clear hno
    go_enter Try.func39, Try.ntmps39
    go_wp2_with (first | (go_at_call 42; with_reducible refine Calls.mono (HC.out _ (by (repeat (first | with_reducible exact Ext.rfl' _ | with_reducible assumption | with_reducible refine Ext.al ?_ _ | with_reducible refine Ext.dr ?_ | with_reducible refine Ext.st ?_ (by simp) _ | with_reducible refine Ext.tr ?_ (by assumption))))) ?_; rintro e w1 ⟨rfl, hb⟩; have hc := hb.ccell; have hf := hb.frz; have hs := hb.sz; (try simp at hs); (try have t0 := hs (w.heap.size) (by first | assumption | omega)); (try have t1 := hs (w.heap.size) (by first | assumption | omega)); (try have t2 := hs (w.heap.size) (by first | assumption | omega)); (try have t3 := hs (w.heap.size) (by first | assumption | omega)); (try have t4 := hs (w.heap.size) (by first | assumption | omega)); (try have t5 := hs (w.heap.size) (by first | assumption | omega))) | (go_at_call 58; with_reducible refine Calls.mono (HP.out _) ?_; rintro e w' ⟨rfl, rfl⟩) | (go_at_call 59; with_reducible refine Calls.mono (HT.out _) ?_; rintro e w' ⟨rfl, rfl⟩) | (go_at_call 60; with_reducible refine Calls.mono (HL.out _ (by (repeat (first | with_reducible exact Ext.rfl' _ | with_reducible assumption | with_reducible refine Ext.al ?_ _ | with_reducible refine Ext.dr ?_ | with_reducible refine Ext.st ?_ (by simp) _ | with_reducible refine Ext.tr ?_ (by assumption))))) ?_; rintro e w2 ⟨rfl, hb⟩; have hc := hb.ccell; have hf := hb.frz; have hs := hb.sz; (try simp at hs); (try have t0 := hs (w.heap.size) (by first | assumption | omega)); (try have t1 := hs (w.heap.size) (by first | assumption | omega)); (try have t2 := hs (w.heap.size) (by first | assumption | omega)); (try have t3 := hs (w.heap.size) (by first | assumption | omega)); (try have t4 := hs (w.heap.size) (by first | assumption | omega)); (try have t5 := hs (w.heap.size) (by first | assumption | omega))))
    have hE : Ext w w2 := by (repeat (first | with_reducible exact Ext.rfl' _ | with_reducible assumption | with_reducible refine Ext.al ?_ _ | with_reducible refine Ext.dr ?_ | with_reducible refine Ext.st ?_ (by simp) _ | with_reducible refine Ext.tr ?_ (by assumption)))
    have kz : Two w2 w.heap.size 0 0 := by refine ⟨?_, ?_⟩ <;> simp [*, go_sem]
    have zb : w.heap.size < w2.heap.size := t0
    have hS2 := Two.alloc (Two.store (w := w2) (b := w.heap.size) kz (r0) (r1)) (by rw [st2_size]; exact zb) (.cells #[.int .i64 r0, .int .i64 r1] 48)
    have hX2 := Ext.al (Ext.store2 (b := w.heap.size) hE (by omega) (r0) (r1)) (.cells #[.int .i64 r0, .int .i64 r1] 48)
    show bodyPost _ _ _ _ _ ((st2 w2 (w.heap.size) (r0) (r1)).alloc (.cells #[.int .i64 r0, .int .i64 r1] 48))
    generalize (st2 w2 (w.heap.size) (r0) (r1)).alloc (.cells #[.int .i64 r0, .int .i64 r1] 48) = W6 at hS2 hX2 ⊢
    obtain ⟨s0, s1⟩ := hS2
    refine bodyPost_ret (v := .tuple #[.agg #[.int .i64 r0, .int .i64 r1], .int .i64 0]) (by simp [results, Try.results39, go_sem, s0, s1]) rfl ⟨rfl, hX2⟩
end Go.Proofs.Ytmhmfjgahhgbpaa

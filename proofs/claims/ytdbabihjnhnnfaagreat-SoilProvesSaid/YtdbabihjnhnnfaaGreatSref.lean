/- The contracts of the reference's SoilOf, CheckNumbers, CheckSoils. -/
import Derived.Test.YtdbabihjnhnnfaaGreatSlayer
namespace Go.Proofs.YtdbabihjnhnnfaaGreat
open Go Go.RowKit Go.IntWalk

/-- The first number below n with f, or -1. -/
def firstI (f : Nat → Bool) : Nat → Int
  | 0 => -1
  | k + 1 => if 0 ≤ firstI f k then firstI f k else if f k = true then (k : Int) else -1
theorem firstI_no (f : Nat → Bool) : ∀ {n : Nat}, (∀ j, j < n → f j = false) → firstI f n = -1
  | 0, _ => rfl
  | n + 1, h => by rw [firstI, firstI_no f fun j hj => h j (by omega), if_neg (by omega), h n (by omega), if_neg (by simp)]
theorem firstI_at (f : Nat → Bool) {k : Nat} (h0 : ∀ j, j < k → f j = false) (h : f k = true) : ∀ {n : Nat}, k < n → firstI f n = (k : Int)
  | 0, hk => absurd hk (Nat.not_lt_zero _)
  | n + 1, hk => by
    rw [firstI]
    by_cases hn : k = n
    · subst hn; rw [firstI_no f h0, if_neg (by omega), if_pos h]
    · have := firstI_at f h0 h (n := n) (by omega)
      rw [this, if_pos (by omega)]
theorem least_of (f : Nat → Bool) : ∀ (m : Nat), (∃ k, k < m ∧ f k = true) → ∃ k, k < m ∧ f k = true ∧ ∀ j, j < k → f j = false
  | 0, ⟨k, hk, _⟩ => absurd hk (Nat.not_lt_zero _)
  | m + 1, ⟨k, hk, hf⟩ => by
    by_cases hm : ∃ k, k < m ∧ f k = true
    · obtain ⟨q, h1, h2⟩ := least_of f m hm
      exact ⟨q, by omega, h2⟩
    · have hno : ∀ j, j < m → f j = false := by
        intro j hj
        cases hq : f j
        · rfl
        · exact absurd ⟨j, hj, hq⟩ hm
      have hkm : k = m := by
        rcases Nat.lt_or_ge k m with h | h
        · rw [hno k h] at hf; cases hf
        · omega
      subst hkm
      exact ⟨k, by omega, hf, hno⟩
theorem firstI_yes (f : Nat → Bool) {n : Nat} (h : 0 ≤ firstI f n) : ∃ k : Nat, k < n ∧ firstI f n = (k : Int) ∧ f k = true ∧ ∀ j, j < k → f j = false := by
  by_cases h1 : ∃ k, k < n ∧ f k = true
  · obtain ⟨k, hk, hf, hno⟩ := least_of f n h1
    exact ⟨k, hk, firstI_at f hno hf hk, hf, hno⟩
  · rw [firstI_no f (fun j hj => by
      cases hq : f j
      · rfl
      · exact absurd ⟨j, hj, hq⟩ h1)] at h
    omega
theorem firstI_dup (nm : Nat → ByteArray) {n k : Nat} (hk : k < n) : (firstI (fun j => sameS (nm j) (nm k)) n = (k : Int)) ↔ dupAt nm k = false := by
  unfold dupAt
  rw [anyN_no]
  constructor
  · intro h
    obtain ⟨q, _, hq, _, hno⟩ := firstI_yes (fun j => sameS (nm j) (nm k)) (n := n) (by omega)
    have : q = k := by omega
    subst this
    exact hno
  · intro h
    exact firstI_at _ h (sameS_self _) hk
/-- The number of a soil by its name. -/
def sofI (l : List So) (s : ByteArray) : Int := firstI (fun j => sameS (el l j).s s) l.length
theorem sofI_has (l : List So) (s : ByteArray) : decide (0 ≤ sofI l s) = hasSoil l s := by
  unfold sofI hasSoil
  rw [Bool.eq_iff_iff, decide_eq_true_eq]
  constructor
  · intro h
    obtain ⟨k, hk, _, hf, _⟩ := firstI_yes _ h
    exact anyN_at _ hk hf
  · intro h
    obtain ⟨i, hi, hf⟩ := (anyN_iff _ _).1 h
    obtain ⟨k, hk, hf, hno⟩ := least_of (fun j => sameS (el l j).s s) _ ⟨i, hi, hf⟩
    rw [firstI_at _ hno hf hk]
    omega
set_option maxHeartbeats 4000000 in
theorem soilOf_c (l : List So) (s : ByteArray) (w : World) (A : Option Addr) (c : Nat) (hl : l.length ≤ 1000) (hA : Row 5 encSo w A l) :
    Calls Tryz.prog 48 #[.slice A l.length c, .string s] w fun e w' => e = .returned (.int .i64 (sofI l s)) ∧ Ext w w' := by
  obtain ⟨N, hN⟩ : ∃ N, sofI l s = N := ⟨_, rfl⟩
  rw [hN]
  have HN := Lib.hid hN
  clear hN
  go_enter Tryz.func48, Tryz.ntmps48
  go_wp2
  go_loopw [5] (fun i wr => Ext w wr ∧ ∃ k : Nat, k ≤ l.length ∧ i = .int .i64 k ∧ Hid (∀ j, j < k → sameS (el l j).s s = false)) (fun i _ => l.length - (intOf i).toNat)
  case atStart => exact ⟨Ext.rfl' _, 0, Nat.zero_le _, rfl, Lib.hid fun j hj => absurd hj (Nat.not_lt_zero _)⟩
  case round =>
    obtain ⟨hE, k, hk, rfl, hF⟩ := hrel
    by_cases hlt : k < l.length
    · obtain ⟨b, off, rfl, hb0, hcell⟩ := hA.so hlt
      obtain ⟨c0, _⟩ := hcell _ hE
      have hz := hE.sz _ hb0
      obtain ⟨x, hx⟩ : ∃ x, (el l k).s = x := ⟨_, rfl⟩
      rw [hx] at c0
      have HX := Lib.hid hx
      clear hcell hx
      cases hb : sameS x s
      · have hq : (x.toList == s.toList) = false := hb
        have HB := Lib.hid hb
        clear hb
        go_wp2
        exact ⟨⟨by (repeat (first | with_reducible exact Ext.rfl' _ | with_reducible assumption | with_reducible refine Ext.al ?_ _ | with_reducible refine Ext.dr ?_ | with_reducible refine Ext.st ?_ (by simp) _ | with_reducible refine Ext.tr ?_ (by assumption))), k + 1, by omega, by go_num, Lib.hid (fun j hj => by
          rcases Nat.lt_succ_iff_lt_or_eq.1 hj with h | h
          · exact hF.out j h
          · subst h; rw [HX.out]; exact HB.out)⟩, by simp [intOf]; omega⟩
      · have hq : (x.toList == s.toList) = true := hb
        have HT : Hid ((k : Int) = N) := Lib.hid (by rw [← HN.out]; exact (firstI_at _ hF.out (by rw [HX.out]; exact hb) hlt).symm)
        clear hb
        go_wp2
        go_ret
        exact ⟨ret_int HT.out, by (repeat (first | with_reducible exact Ext.rfl' _ | with_reducible assumption | with_reducible refine Ext.al ?_ _ | with_reducible refine Ext.dr ?_ | with_reducible refine Ext.st ?_ (by simp) _ | with_reducible refine Ext.tr ?_ (by assumption)))⟩
    · have hks : k = l.length := by omega
      have HT : Hid ((-1 : Int) = N) := Lib.hid (by rw [← HN.out]; unfold sofI; rw [← hks]; exact (firstI_no _ hF.out).symm)
      go_wp2
      go_ret
      exact ⟨ret_int HT.out, hE⟩
set_option maxHeartbeats 4000000 in
theorem checkNum_c (x : So) (w : World) :
    Calls Tryz.prog 49 #[.agg #[.string x.s, .int .i64 x.run, .int .i64 x.den, .int .i64 x.num, .int .i64 x.dn]] w fun e w' => e = .returned (.int .i64 (numE x)) ∧ Ext w w' := by
  have HR := Lib.hid (fun w => within_c x.run 1 1000 w)
  have HD := Lib.hid (fun w => within_c x.den 1 5000 w)
  have HN := Lib.hid (fun w => within_c x.num 1 1000 w)
  have HM := Lib.hid (fun w => within_c x.dn 1 1000 w)
  unfold numE numB
  cases q1 : withinB x.run 1 1000
  · rw [q1] at HR
    clear q1
    go_enter Tryz.func49, Tryz.ntmps49
    go_wp2_with (first | (go_at_call 26; with_reducible refine Calls.mono (HR.out _) ?_; rintro e w' ⟨rfl, rfl⟩))
    go_ret
    exact ⟨rfl, by (repeat (first | with_reducible exact Ext.rfl' _ | with_reducible assumption | with_reducible refine Ext.al ?_ _ | with_reducible refine Ext.dr ?_ | with_reducible refine Ext.st ?_ (by simp) _ | with_reducible refine Ext.tr ?_ (by assumption)))⟩
  rw [q1] at HR
  cases q2 : withinB x.den 1 5000
  · rw [q2] at HD
    clear q1 q2
    go_enter Tryz.func49, Tryz.ntmps49
    go_wp2_with (first | (go_at_call 26; with_reducible refine Calls.mono (HR.out _) ?_; rintro e w' ⟨rfl, rfl⟩) | (go_at_call 26; with_reducible refine Calls.mono (HD.out _) ?_; rintro e w' ⟨rfl, rfl⟩))
    go_ret
    exact ⟨rfl, by (repeat (first | with_reducible exact Ext.rfl' _ | with_reducible assumption | with_reducible refine Ext.al ?_ _ | with_reducible refine Ext.dr ?_ | with_reducible refine Ext.st ?_ (by simp) _ | with_reducible refine Ext.tr ?_ (by assumption)))⟩
  rw [q2] at HD
  cases q3 : withinB x.num 1 1000
  · rw [q3] at HN
    clear q1 q2 q3
    go_enter Tryz.func49, Tryz.ntmps49
    go_wp2_with (first | (go_at_call 26; with_reducible refine Calls.mono (HR.out _) ?_; rintro e w' ⟨rfl, rfl⟩) | (go_at_call 26; with_reducible refine Calls.mono (HD.out _) ?_; rintro e w' ⟨rfl, rfl⟩) | (go_at_call 26; with_reducible refine Calls.mono (HN.out _) ?_; rintro e w' ⟨rfl, rfl⟩))
    go_ret
    exact ⟨rfl, by (repeat (first | with_reducible exact Ext.rfl' _ | with_reducible assumption | with_reducible refine Ext.al ?_ _ | with_reducible refine Ext.dr ?_ | with_reducible refine Ext.st ?_ (by simp) _ | with_reducible refine Ext.tr ?_ (by assumption)))⟩
  rw [q3] at HN
  cases q4 : withinB x.dn 1 1000
  · rw [q4] at HM
    clear q1 q2 q3 q4
    go_enter Tryz.func49, Tryz.ntmps49
    go_wp2_with (first | (go_at_call 26; with_reducible refine Calls.mono (HR.out _) ?_; rintro e w' ⟨rfl, rfl⟩) | (go_at_call 26; with_reducible refine Calls.mono (HD.out _) ?_; rintro e w' ⟨rfl, rfl⟩) | (go_at_call 26; with_reducible refine Calls.mono (HN.out _) ?_; rintro e w' ⟨rfl, rfl⟩) | (go_at_call 26; with_reducible refine Calls.mono (HM.out _) ?_; rintro e w' ⟨rfl, rfl⟩))
    go_ret
    exact ⟨rfl, by (repeat (first | with_reducible exact Ext.rfl' _ | with_reducible assumption | with_reducible refine Ext.al ?_ _ | with_reducible refine Ext.dr ?_ | with_reducible refine Ext.st ?_ (by simp) _ | with_reducible refine Ext.tr ?_ (by assumption)))⟩
  rw [q4] at HM
  clear q1 q2 q3 q4
  cases q5 : decide (x.dn ≤ x.num)
  · have q6 : x.num < x.dn := by have := of_decide_eq_false q5; omega
    go_enter Tryz.func49, Tryz.ntmps49
    go_wp2_with (first | (go_at_call 26; with_reducible refine Calls.mono (HR.out _) ?_; rintro e w' ⟨rfl, rfl⟩) | (go_at_call 26; with_reducible refine Calls.mono (HD.out _) ?_; rintro e w' ⟨rfl, rfl⟩) | (go_at_call 26; with_reducible refine Calls.mono (HN.out _) ?_; rintro e w' ⟨rfl, rfl⟩) | (go_at_call 26; with_reducible refine Calls.mono (HM.out _) ?_; rintro e w' ⟨rfl, rfl⟩))
    go_ret
    exact ⟨rfl, by (repeat (first | with_reducible exact Ext.rfl' _ | with_reducible assumption | with_reducible refine Ext.al ?_ _ | with_reducible refine Ext.dr ?_ | with_reducible refine Ext.st ?_ (by simp) _ | with_reducible refine Ext.tr ?_ (by assumption)))⟩
  · have q6 : ¬ x.num < x.dn := by have := of_decide_eq_true q5; omega
    go_enter Tryz.func49, Tryz.ntmps49
    go_wp2_with (first | (go_at_call 26; with_reducible refine Calls.mono (HR.out _) ?_; rintro e w' ⟨rfl, rfl⟩) | (go_at_call 26; with_reducible refine Calls.mono (HD.out _) ?_; rintro e w' ⟨rfl, rfl⟩) | (go_at_call 26; with_reducible refine Calls.mono (HN.out _) ?_; rintro e w' ⟨rfl, rfl⟩) | (go_at_call 26; with_reducible refine Calls.mono (HM.out _) ?_; rintro e w' ⟨rfl, rfl⟩))
    go_ret
    exact ⟨rfl, by (repeat (first | with_reducible exact Ext.rfl' _ | with_reducible assumption | with_reducible refine Ext.al ?_ _ | with_reducible refine Ext.dr ?_ | with_reducible refine Ext.st ?_ (by simp) _ | with_reducible refine Ext.tr ?_ (by assumption)))⟩
set_option maxHeartbeats 8000000 in
theorem rcheckSoils_c (l : List So) (w : World) (A : Option Addr) (c : Nat) (hl : l.length ≤ 1000) (hA : Row 5 encSo w A l) :
    Calls Tryz.prog 23 #[.slice A l.length c] w fun e w' => e = .returned (.int .i64 (chkSoils l)) ∧ Ext w w' := by
  have HSO := Lib.hid (fun s w' (hw : Ext w w') => soilOf_c l s w' A c hl (hA.ext hw))
  unfold chkSoils cntE
  by_cases h0 : l.length = 0
  · rw [if_pos h0, if_pos (by omega)]
    have h0' : ((l.length : Int) == 0) = true := by simp [h0]
    go_enter Tryz.func23, Tryz.ntmps23
    go_wp2
    go_ret
    exact ⟨rfl, by (repeat (first | with_reducible exact Ext.rfl' _ | with_reducible assumption | with_reducible refine Ext.al ?_ _ | with_reducible refine Ext.dr ?_ | with_reducible refine Ext.st ?_ (by simp) _ | with_reducible refine Ext.tr ?_ (by assumption)))⟩
  rw [if_neg h0]
  have h0' : ((l.length : Int) == 0) = false := by rw [beq_eq_false_iff_ne]; omega
  by_cases h8 : (8 : Int) < (l.length : Int)
  · rw [if_pos h8, if_pos (by omega)]
    clear h0
    go_enter Tryz.func23, Tryz.ntmps23
    go_wp2
    go_ret
    exact ⟨rfl, by (repeat (first | with_reducible exact Ext.rfl' _ | with_reducible assumption | with_reducible refine Ext.al ?_ _ | with_reducible refine Ext.dr ?_ | with_reducible refine Ext.st ?_ (by simp) _ | with_reducible refine Ext.tr ?_ (by assumption)))⟩
  rw [if_neg h8, if_neg (by omega)]
  obtain ⟨E, hE0⟩ : ∃ E, firstE (soE l) l.length = E := ⟨_, rfl⟩
  rw [hE0]
  have HE := Lib.hid hE0
  clear hE0
  go_enter Tryz.func23, Tryz.ntmps23
  go_wp2
  go_loopw [3] (fun i wr => Ext w wr ∧ ∃ k : Nat, k ≤ l.length ∧ i = .int .i64 k ∧ Hid (firstE (soE l) k = 0)) (fun i _ => l.length - (intOf i).toNat)
  case atStart => exact ⟨Ext.rfl' _, 0, Nat.zero_le _, rfl, rfl⟩
  case round =>
    obtain ⟨hE, k, hk, rfl, hF⟩ := hrel
    by_cases hlt : k < l.length
    · obtain ⟨b, off, rfl, hb0, hcell⟩ := hA.so hlt
      have c1 := hcell _ hE
      have hz := hE.sz _ hb0
      have HSE : Hid (soE l k = if (!nameB (el l k).s) = true then 4 else if dupAt (fun k => (el l k).s) k = true then 5 else numE (el l k)) := rfl
      have HDU : Hid ((sofI l (el l k).s = (k : Int)) ↔ dupAt (fun k => (el l k).s) k = false) := Lib.hid (firstI_dup (fun k => (el l k).s) hlt)
      have HSK := Lib.hid (fun w' (hw : Ext wr w') => HSO.out (el l k).s w' (hE.tr hw))
      clear hcell
      generalize dupAt (fun k => (el l k).s) k = du at *
      generalize sofI l (el l k).s = si at *
      generalize el l k = x at *
      have HIN := Lib.hid (fun w => rIsName_c x.s w)
      rw [name_same] at HIN
      have HNU := Lib.hid (fun w' => checkNum_c x w')
      cases hb : nameB x.s
      · rw [hb] at HIN HSE
        have HT : Hid ((4 : Int) = E) := Lib.hid (by rw [← HE.out, firstE_at (soE l) hF.out (by rw [HSE.out]; simp) hlt, HSE.out]; rfl)
        clear hb
        go_wp2_with (first | (go_at_call 24; with_reducible refine Calls.mono (HIN.out _) ?_; rintro e w' ⟨rfl, rfl⟩))
        go_ret
        exact ⟨ret_int HT.out, by (repeat (first | with_reducible exact Ext.rfl' _ | with_reducible assumption | with_reducible refine Ext.al ?_ _ | with_reducible refine Ext.dr ?_ | with_reducible refine Ext.st ?_ (by simp) _ | with_reducible refine Ext.tr ?_ (by assumption)))⟩
      rw [hb] at HIN HSE
      clear hb
      cases hdu : du
      case true =>
        rw [hdu] at HSE HDU
        have HT : Hid ((5 : Int) = E) := Lib.hid (by rw [← HE.out, firstE_at (soE l) hF.out (by rw [HSE.out]; simp) hlt, HSE.out]; rfl)
        have hsi : (si != (k : Int)) = true := by rw [bne_iff_ne]; intro h; have := HDU.out.1 h; cases this
        clear hdu
        go_wp2_with (first | (go_at_call 24; with_reducible refine Calls.mono (HIN.out _) ?_; rintro e w' ⟨rfl, rfl⟩) | (go_at_call 48; with_reducible refine Calls.mono (HSK.out _ (by (repeat (first | with_reducible exact Ext.rfl' _ | with_reducible assumption | with_reducible refine Ext.al ?_ _ | with_reducible refine Ext.dr ?_ | with_reducible refine Ext.st ?_ (by simp) _ | with_reducible refine Ext.tr ?_ (by assumption))))) ?_; rintro e w2 ⟨rfl, hb⟩; have hc := hb.ccell; have hf := hb.frz; have hs := hb.sz; (try simp at hs); (try have t0 := hs (b) (by first | assumption | omega)); (try have t1 := hs (b) (by first | assumption | omega)); (try have t2 := hs (b) (by first | assumption | omega)); (try have t3 := hs (b) (by first | assumption | omega)); (try have t4 := hs (b) (by first | assumption | omega)); (try have t5 := hs (b) (by first | assumption | omega))))
        go_ret
        exact ⟨ret_int HT.out, by (repeat (first | with_reducible exact Ext.rfl' _ | with_reducible assumption | with_reducible refine Ext.al ?_ _ | with_reducible refine Ext.dr ?_ | with_reducible refine Ext.st ?_ (by simp) _ | with_reducible refine Ext.tr ?_ (by assumption)))⟩
      rw [hdu] at HSE HDU
      have hsi : si = (k : Int) := HDU.out.2 rfl
      subst hsi
      have HSE2 : Hid (soE l k = numE x) := Lib.hid (by rw [HSE.out]; rfl)
      clear hdu HSE HDU
      by_cases hn : numE x = 0
      · rw [hn] at HNU HSE2
        clear hn
        go_wp2_with (first | (go_at_call 24; with_reducible refine Calls.mono (HIN.out _) ?_; rintro e w' ⟨rfl, rfl⟩) | (go_at_call 48; with_reducible refine Calls.mono (HSK.out _ (by (repeat (first | with_reducible exact Ext.rfl' _ | with_reducible assumption | with_reducible refine Ext.al ?_ _ | with_reducible refine Ext.dr ?_ | with_reducible refine Ext.st ?_ (by simp) _ | with_reducible refine Ext.tr ?_ (by assumption))))) ?_; rintro e w2 ⟨rfl, hb⟩; have hc := hb.ccell; have hf := hb.frz; have hs := hb.sz; (try simp at hs); (try have t0 := hs (b) (by first | assumption | omega)); (try have t1 := hs (b) (by first | assumption | omega)); (try have t2 := hs (b) (by first | assumption | omega)); (try have t3 := hs (b) (by first | assumption | omega)); (try have t4 := hs (b) (by first | assumption | omega)); (try have t5 := hs (b) (by first | assumption | omega))) | (go_at_call 49; with_reducible refine Calls.mono (HNU.out _) ?_; rintro e w3 ⟨rfl, hb⟩; have hc := hb.ccell; have hf := hb.frz; have hs := hb.sz; (try simp at hs); (try have t0 := hs (b) (by first | assumption | omega)); (try have t1 := hs (b) (by first | assumption | omega)); (try have t2 := hs (b) (by first | assumption | omega)); (try have t3 := hs (b) (by first | assumption | omega)); (try have t4 := hs (b) (by first | assumption | omega)); (try have t5 := hs (b) (by first | assumption | omega))))
        exact ⟨⟨by (repeat (first | with_reducible exact Ext.rfl' _ | with_reducible assumption | with_reducible refine Ext.al ?_ _ | with_reducible refine Ext.dr ?_ | with_reducible refine Ext.st ?_ (by simp) _ | with_reducible refine Ext.tr ?_ (by assumption))), k + 1, by omega, by go_num, firstE_step _ hF.out HSE2.out⟩, by simp [intOf]; omega⟩
      · have hn' : (numE x != 0) = true := by simp [hn]
        have HT : Hid (numE x = E) := Lib.hid (by rw [← HE.out, firstE_at (soE l) hF.out (by rw [HSE2.out]; exact hn) hlt, HSE2.out])
        clear hn HSE2
        generalize numE x = q at *
        go_wp2_with (first | (go_at_call 24; with_reducible refine Calls.mono (HIN.out _) ?_; rintro e w' ⟨rfl, rfl⟩) | (go_at_call 48; with_reducible refine Calls.mono (HSK.out _ (by (repeat (first | with_reducible exact Ext.rfl' _ | with_reducible assumption | with_reducible refine Ext.al ?_ _ | with_reducible refine Ext.dr ?_ | with_reducible refine Ext.st ?_ (by simp) _ | with_reducible refine Ext.tr ?_ (by assumption))))) ?_; rintro e w2 ⟨rfl, hb⟩; have hc := hb.ccell; have hf := hb.frz; have hs := hb.sz; (try simp at hs); (try have t0 := hs (b) (by first | assumption | omega)); (try have t1 := hs (b) (by first | assumption | omega)); (try have t2 := hs (b) (by first | assumption | omega)); (try have t3 := hs (b) (by first | assumption | omega)); (try have t4 := hs (b) (by first | assumption | omega)); (try have t5 := hs (b) (by first | assumption | omega))) | (go_at_call 49; with_reducible refine Calls.mono (HNU.out _) ?_; rintro e w3 ⟨rfl, hb⟩; have hc := hb.ccell; have hf := hb.frz; have hs := hb.sz; (try simp at hs); (try have t0 := hs (b) (by first | assumption | omega)); (try have t1 := hs (b) (by first | assumption | omega)); (try have t2 := hs (b) (by first | assumption | omega)); (try have t3 := hs (b) (by first | assumption | omega)); (try have t4 := hs (b) (by first | assumption | omega)); (try have t5 := hs (b) (by first | assumption | omega))))
        go_ret
        exact ⟨ret_int HT.out, by (repeat (first | with_reducible exact Ext.rfl' _ | with_reducible assumption | with_reducible refine Ext.al ?_ _ | with_reducible refine Ext.dr ?_ | with_reducible refine Ext.st ?_ (by simp) _ | with_reducible refine Ext.tr ?_ (by assumption)))⟩
    · have hks : k = l.length := by omega
      have HT : Hid ((0 : Int) = E) := Lib.hid (by rw [← HE.out, ← hks, hF.out])
      go_wp2
      go_ret
      exact ⟨ret_int HT.out, hE⟩
end Go.Proofs.YtdbabihjnhnnfaaGreat

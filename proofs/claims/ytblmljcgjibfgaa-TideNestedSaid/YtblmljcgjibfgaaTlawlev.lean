/- The level of a gauge is as specified: the law returns true for every input. Conditions: none. -/
import Derived.Test.YtblmljcgjibfgaaTawake
namespace Go.Proofs.Ytblmljcgjibfgaa
open Go Go.RowKit Go.IntWalk

theorem div_le {n d : Int} (hd : 0 < d) : n / d * d ≤ n ∧ n - d < n / d * d := by
  have h1 := Int.emod_nonneg n (show d ≠ 0 by omega)
  have h2 := Int.emod_lt_of_pos n hd
  have h3 := Int.mul_ediv_add_emod n d
  have h4 : d * (n / d) = n / d * d := Int.mul_comm _ _
  omega
/-- What the law asks of a level. -/
theorem level_fits {er : Int} {l : List Pt} {t : Int} {i : Nat} (hG : Good l) (he : 0 ≤ er ∧ er ≤ 1000) (ht : 0 ≤ t ∧ t ≤ 1000000) (hp : PosAt l t i) (ho : mOk l t i = true) :
    (-200000000000 ≤ gLo er l t i * mD l t i ∧ gLo er l t i * mD l t i ≤ mN l t i) ∧ (mN l t i ≤ gHi er l t i * mD l t i ∧ gHi er l t i * mD l t i ≤ 200000000000) ∧ gHi er l t i - gLo er l t i ≤ 2 * er + 1 := by
  obtain ⟨m1, m2⟩ := m_bound hG ht hp
  obtain ⟨d0, d1⟩ := m2 ho
  have q1 : mLo l t i = mN l t i / mD l t i := by unfold mLo; rw [ho]; rfl
  have q2 : mHi l t i = -((-mN l t i) / mD l t i) := by unfold mHi; rw [ho]; rfl
  have g1 : gLo er l t i = mLo l t i - er := by unfold gLo; rw [ho]; rfl
  have g2 : gHi er l t i = mHi l t i + er := by unfold gHi; rw [ho]; rfl
  rw [g1, g2, q1, q2]
  generalize mN l t i = n at *
  generalize mD l t i = d at *
  obtain ⟨a1, a2⟩ := div_le (n := n) d0
  obtain ⟨a3, a4⟩ := div_le (n := -n) d0
  have b := mul_bound (x := er) (y := d) (M := 1000) (N := 1000000) (by omega) (by omega) (by omega) (by omega)
  have b0 := Int.mul_nonneg he.1 (show 0 ≤ d by omega)
  have e1 : (n / d - er) * d = n / d * d - er * d := by grind
  have e2 : (-((-n) / d) + er) * d = -((-n) / d * d) + er * d := by grind
  have hc : -((-n) / d) - n / d ≤ 1 := by
    rcases Int.lt_or_le 1 (-((-n) / d) - n / d) with h | h
    · exfalso
      have h5 : 2 * d ≤ (-((-n) / d) - n / d) * d := Int.mul_le_mul_of_nonneg_right (by omega) (by omega)
      have e3 : (-((-n) / d) - n / d) * d = -((-n) / d * d) - n / d * d := by grind
      omega
    · exact h
  omega

set_option maxHeartbeats 4000000 in
theorem lev_walk (s : ByteArray) (x er : Int) (l : List Pt) (t : Int) (w : World) (A : Option Addr) (c : Nat) (hl : l.length ≤ maxLen) (hA : Row 2 encP w A l) :
    Calls Try.prog 3 #[.agg #[.string s, .int .i64 x, .int .i64 er, .slice A l.length c], .int .i64 t] w
      fun e w' => e = .returned (.bool true) ∧ Ext w w' := by
  have HS := Lib.hid (fun w => short_c s x er l w A c)
  cases hsh : shortB s l
  · rw [hsh] at HS
    clear hsh hl
    go_enter Try.func3, Try.ntmps3
    go_wp2_with (first | (go_at_call 15; with_reducible refine Calls.mono (awake_c _) ?_; rintro e w1 ⟨rfl, hb⟩; have hc := hb.ccell; have hf := hb.frz; have hs := hb.sz; (try simp at hs); (try have hs0 := hs w.heap.size (by omega)); (try have hs1 := hs (w.heap.size + 1) (by omega)); (try have hs2 := hs (w.heap.size + 1 + 1) (by omega)); (try have hs3 := hs (w.heap.size + 1 + 1 + 1) (by omega))) | (go_at_call 16; with_reducible refine Calls.mono (HS.out _) ?_; rintro e w1 ⟨rfl, hb⟩; have hc := hb.ccell; have hf := hb.frz; have hs := hb.sz; (try simp at hs); (try have hs0 := hs w.heap.size (by omega)); (try have hs1 := hs (w.heap.size + 1) (by omega)); (try have hs2 := hs (w.heap.size + 1 + 1) (by omega)); (try have hs3 := hs (w.heap.size + 1 + 1 + 1) (by omega))))
    go_ret
    exact ⟨rfl, by (repeat (first | with_reducible exact Ext.rfl' _ | with_reducible assumption | with_reducible refine Ext.al ?_ _ | with_reducible refine Ext.dr ?_ | with_reducible refine Ext.st ?_ (by simp) _ | with_reducible refine Ext.tr ?_ (by assumption)))⟩
  rw [hsh] at HS
  have hl' : l.length ≤ 1000 := by
    unfold shortB at hsh
    simp at hsh
    omega
  clear hl hsh
  have HC := Lib.hid (fun w' (hw : Ext w w') => rcheckGauge_c s x er l w' A c hl' (hA.ext hw))
  by_cases h0 : gaugeE s x er l = 0
  case neg =>
    have HA := Lib.hid (fun w' (hw : Ext w w') => at_bad_c s x er l t w' A c hl' (hA.ext hw) h0)
    generalize gaugeE s x er l = r at *
    have h' : (r == 0) = false := by simp [h0]
    go_enter Try.func3, Try.ntmps3
    go_wp2_with (first | (go_at_call 15; with_reducible refine Calls.mono (awake_c _) ?_; rintro e w1 ⟨rfl, hb⟩; have hc := hb.ccell; have hf := hb.frz; have hs := hb.sz; (try simp at hs); (try have hs0 := hs w.heap.size (by omega)); (try have hs1 := hs (w.heap.size + 1) (by omega)); (try have hs2 := hs (w.heap.size + 1 + 1) (by omega)); (try have hs3 := hs (w.heap.size + 1 + 1 + 1) (by omega))) | (go_at_call 16; with_reducible refine Calls.mono (HS.out _) ?_; rintro e w1 ⟨rfl, hb⟩; have hc := hb.ccell; have hf := hb.frz; have hs := hb.sz; (try simp at hs); (try have hs0 := hs w.heap.size (by omega)); (try have hs1 := hs (w.heap.size + 1) (by omega)); (try have hs2 := hs (w.heap.size + 1 + 1) (by omega)); (try have hs3 := hs (w.heap.size + 1 + 1 + 1) (by omega))) | (go_at_call 17; with_reducible refine Calls.mono (HA.out _ (by (repeat (first | with_reducible exact Ext.rfl' _ | with_reducible assumption | with_reducible refine Ext.al ?_ _ | with_reducible refine Ext.dr ?_ | with_reducible refine Ext.st ?_ (by simp) _ | with_reducible refine Ext.tr ?_ (by assumption))))) ?_; rintro e w1 ⟨rfl, hb⟩; have hc := hb.ccell; have hf := hb.frz; have hs := hb.sz; (try simp at hs); (try have hs0 := hs w.heap.size (by omega)); (try have hs1 := hs (w.heap.size + 1) (by omega)); (try have hs2 := hs (w.heap.size + 1 + 1) (by omega)); (try have hs3 := hs (w.heap.size + 1 + 1 + 1) (by omega))) | (go_at_call 18; with_reducible refine Calls.mono (HC.out _ (by (repeat (first | with_reducible exact Ext.rfl' _ | with_reducible assumption | with_reducible refine Ext.al ?_ _ | with_reducible refine Ext.dr ?_ | with_reducible refine Ext.st ?_ (by simp) _ | with_reducible refine Ext.tr ?_ (by assumption))))) ?_; rintro e w1 ⟨rfl, hb⟩; have hc := hb.ccell; have hf := hb.frz; have hs := hb.sz; (try simp at hs); (try have hs0 := hs w.heap.size (by omega)); (try have hs1 := hs (w.heap.size + 1) (by omega)); (try have hs2 := hs (w.heap.size + 1 + 1) (by omega)); (try have hs3 := hs (w.heap.size + 1 + 1 + 1) (by omega))))
    go_ret
    exact ⟨by simp, by (repeat (first | with_reducible exact Ext.rfl' _ | with_reducible assumption | with_reducible refine Ext.al ?_ _ | with_reducible refine Ext.dr ?_ | with_reducible refine Ext.st ?_ (by simp) _ | with_reducible refine Ext.tr ?_ (by assumption)))⟩
  rw [h0] at HC
  cases ht : withinB t 0 1000000
  · have HA := Lib.hid (fun w' (hw : Ext w w') => at_out_c s x er l t w' A c hl' (hA.ext hw) h0 ht)
    have ht' : t < 0 ∨ (0 ≤ t ∧ 1000000 < t) := by unfold withinB at ht; simp at ht; omega
    clear ht h0
    rcases ht' with t0 | ⟨t0, t1⟩
    all_goals
      go_enter Try.func3, Try.ntmps3
      go_wp2_with (first | (go_at_call 15; with_reducible refine Calls.mono (awake_c _) ?_; rintro e w1 ⟨rfl, hb⟩; have hc := hb.ccell; have hf := hb.frz; have hs := hb.sz; (try simp at hs); (try have hs0 := hs w.heap.size (by omega)); (try have hs1 := hs (w.heap.size + 1) (by omega)); (try have hs2 := hs (w.heap.size + 1 + 1) (by omega)); (try have hs3 := hs (w.heap.size + 1 + 1 + 1) (by omega))) | (go_at_call 16; with_reducible refine Calls.mono (HS.out _) ?_; rintro e w1 ⟨rfl, hb⟩; have hc := hb.ccell; have hf := hb.frz; have hs := hb.sz; (try simp at hs); (try have hs0 := hs w.heap.size (by omega)); (try have hs1 := hs (w.heap.size + 1) (by omega)); (try have hs2 := hs (w.heap.size + 1 + 1) (by omega)); (try have hs3 := hs (w.heap.size + 1 + 1 + 1) (by omega))) | (go_at_call 17; with_reducible refine Calls.mono (HA.out _ (by (repeat (first | with_reducible exact Ext.rfl' _ | with_reducible assumption | with_reducible refine Ext.al ?_ _ | with_reducible refine Ext.dr ?_ | with_reducible refine Ext.st ?_ (by simp) _ | with_reducible refine Ext.tr ?_ (by assumption))))) ?_; rintro e w1 ⟨rfl, hb⟩; have hc := hb.ccell; have hf := hb.frz; have hs := hb.sz; (try simp at hs); (try have hs0 := hs w.heap.size (by omega)); (try have hs1 := hs (w.heap.size + 1) (by omega)); (try have hs2 := hs (w.heap.size + 1 + 1) (by omega)); (try have hs3 := hs (w.heap.size + 1 + 1 + 1) (by omega))) | (go_at_call 18; with_reducible refine Calls.mono (HC.out _ (by (repeat (first | with_reducible exact Ext.rfl' _ | with_reducible assumption | with_reducible refine Ext.al ?_ _ | with_reducible refine Ext.dr ?_ | with_reducible refine Ext.st ?_ (by simp) _ | with_reducible refine Ext.tr ?_ (by assumption))))) ?_; rintro e w1 ⟨rfl, hb⟩; have hc := hb.ccell; have hf := hb.frz; have hs := hb.sz; (try simp at hs); (try have hs0 := hs w.heap.size (by omega)); (try have hs1 := hs (w.heap.size + 1) (by omega)); (try have hs2 := hs (w.heap.size + 1 + 1) (by omega)); (try have hs3 := hs (w.heap.size + 1 + 1 + 1) (by omega))))
      go_ret
      exact ⟨by simp, by (repeat (first | with_reducible exact Ext.rfl' _ | with_reducible assumption | with_reducible refine Ext.al ?_ _ | with_reducible refine Ext.dr ?_ | with_reducible refine Ext.st ?_ (by simp) _ | with_reducible refine Ext.tr ?_ (by assumption)))⟩
  · obtain ⟨_, _, he, hG⟩ := gaugeE_zero h0
    have ht' : 0 ≤ t ∧ t ≤ 1000000 := by unfold withinB at ht; simpa using ht
    obtain ⟨i, hp⟩ := pos_some hG t
    have HA := Lib.hid (fun w' (hw : Ext w w') => at_ok_c s x er l t i w' A c (hA.ext hw) h0 ht hp)
    have HM := Lib.hid (fun w' (hw : Ext w w') => rmean_c s x er l t i w' A c hG ht' (hA.ext hw) hp)
    have HR := Lib.hid (fun w' (hw : Ext w w') => rat_c s x er l t i w' A c hG he ht' (hA.ext hw) hp)
    obtain ⟨t0, t1⟩ := ht'
    have hfit := level_fits (er := er) hG he ⟨t0, t1⟩ hp
    cases ho : mOk l t i
    · have g1 : gLo er l t i = 0 := by unfold gLo; rw [ho]; rfl
      have g2 : gHi er l t i = 0 := by unfold gHi; rw [ho]; rfl
      have g3 : rN l t i = 0 := by unfold rN; rw [ho]; rfl
      have g4 : rD l t i = 1 := by unfold rD; rw [ho]; rfl
      rw [ho, g1, g2, if_neg (by decide)] at HA
      rw [ho, g3, g4] at HM
      clear HR hfit h0 ht hp hG he g1 g2 g3 g4 ho
      go_enter Try.func3, Try.ntmps3
      go_wp2_with (first | (go_at_call 15; with_reducible refine Calls.mono (awake_c _) ?_; rintro e w1 ⟨rfl, hb⟩; have hc := hb.ccell; have hf := hb.frz; have hs := hb.sz; (try simp at hs); (try have hs0 := hs w.heap.size (by omega)); (try have hs1 := hs (w.heap.size + 1) (by omega)); (try have hs2 := hs (w.heap.size + 1 + 1) (by omega)); (try have hs3 := hs (w.heap.size + 1 + 1 + 1) (by omega))) | (go_at_call 16; with_reducible refine Calls.mono (HS.out _) ?_; rintro e w1 ⟨rfl, hb⟩; have hc := hb.ccell; have hf := hb.frz; have hs := hb.sz; (try simp at hs); (try have hs0 := hs w.heap.size (by omega)); (try have hs1 := hs (w.heap.size + 1) (by omega)); (try have hs2 := hs (w.heap.size + 1 + 1) (by omega)); (try have hs3 := hs (w.heap.size + 1 + 1 + 1) (by omega))) | (go_at_call 17; with_reducible refine Calls.mono (HA.out _ (by (repeat (first | with_reducible exact Ext.rfl' _ | with_reducible assumption | with_reducible refine Ext.al ?_ _ | with_reducible refine Ext.dr ?_ | with_reducible refine Ext.st ?_ (by simp) _ | with_reducible refine Ext.tr ?_ (by assumption))))) ?_; rintro e w1 ⟨rfl, hb⟩; have hc := hb.ccell; have hf := hb.frz; have hs := hb.sz; (try simp at hs); (try have hs0 := hs w.heap.size (by omega)); (try have hs1 := hs (w.heap.size + 1) (by omega)); (try have hs2 := hs (w.heap.size + 1 + 1) (by omega)); (try have hs3 := hs (w.heap.size + 1 + 1 + 1) (by omega))) | (go_at_call 18; with_reducible refine Calls.mono (HC.out _ (by (repeat (first | with_reducible exact Ext.rfl' _ | with_reducible assumption | with_reducible refine Ext.al ?_ _ | with_reducible refine Ext.dr ?_ | with_reducible refine Ext.st ?_ (by simp) _ | with_reducible refine Ext.tr ?_ (by assumption))))) ?_; rintro e w1 ⟨rfl, hb⟩; have hc := hb.ccell; have hf := hb.frz; have hs := hb.sz; (try simp at hs); (try have hs0 := hs w.heap.size (by omega)); (try have hs1 := hs (w.heap.size + 1) (by omega)); (try have hs2 := hs (w.heap.size + 1 + 1) (by omega)); (try have hs3 := hs (w.heap.size + 1 + 1 + 1) (by omega))) | (go_at_call 19; with_reducible refine Calls.mono (HM.out _ (by (repeat (first | with_reducible exact Ext.rfl' _ | with_reducible assumption | with_reducible refine Ext.al ?_ _ | with_reducible refine Ext.dr ?_ | with_reducible refine Ext.st ?_ (by simp) _ | with_reducible refine Ext.tr ?_ (by assumption))))) ?_; rintro e w1 ⟨rfl, hb⟩; have hc := hb.ccell; have hf := hb.frz; have hs := hb.sz; (try simp at hs); (try have hs0 := hs w.heap.size (by omega)); (try have hs1 := hs (w.heap.size + 1) (by omega)); (try have hs2 := hs (w.heap.size + 1 + 1) (by omega)); (try have hs3 := hs (w.heap.size + 1 + 1 + 1) (by omega))))
      go_ret
      exact ⟨by simp, by (repeat (first | with_reducible exact Ext.rfl' _ | with_reducible assumption | with_reducible refine Ext.al ?_ _ | with_reducible refine Ext.dr ?_ | with_reducible refine Ext.st ?_ (by simp) _ | with_reducible refine Ext.tr ?_ (by assumption)))⟩
    · obtain ⟨⟨f1, f2⟩, ⟨f3, f4⟩, f5⟩ := hfit ho
      obtain ⟨⟨b1, b2⟩, b3, b4⟩ := lohi_bound hG ⟨t0, t1⟩ hp
      have g1 : gLo er l t i = mLo l t i - er := by unfold gLo; rw [ho]; rfl
      have g2 : gHi er l t i = mHi l t i + er := by unfold gHi; rw [ho]; rfl
      obtain ⟨r1, r2⟩ := r_eq ho
      have b5 : -200000000000 ≤ gLo er l t i ∧ gLo er l t i ≤ 200000000000 := by omega
      have b6 : -200000000000 ≤ gHi er l t i ∧ gHi er l t i ≤ 200000000000 := by omega
      obtain ⟨e0, e1⟩ := he
      rw [ho, if_pos rfl] at HA
      rw [ho, r1, r2] at HM
      rw [ho] at HR
      clear h0 ht hp hG g1 g2 ho hfit r1 r2 b1 b2 b3 b4
      generalize gLo er l t i = lo at *
      generalize gHi er l t i = hi at *
      generalize mN l t i = n at *
      generalize mD l t i = d at *
      obtain ⟨b5, b5'⟩ := b5
      obtain ⟨b6, b6'⟩ := b6
      go_enter Try.func3, Try.ntmps3
      go_wp2_with (first | (go_at_call 15; with_reducible refine Calls.mono (awake_c _) ?_; rintro e w1 ⟨rfl, hb⟩; have hc := hb.ccell; have hf := hb.frz; have hs := hb.sz; (try simp at hs); (try have hs0 := hs w.heap.size (by omega)); (try have hs1 := hs (w.heap.size + 1) (by omega)); (try have hs2 := hs (w.heap.size + 1 + 1) (by omega)); (try have hs3 := hs (w.heap.size + 1 + 1 + 1) (by omega))) | (go_at_call 16; with_reducible refine Calls.mono (HS.out _) ?_; rintro e w1 ⟨rfl, hb⟩; have hc := hb.ccell; have hf := hb.frz; have hs := hb.sz; (try simp at hs); (try have hs0 := hs w.heap.size (by omega)); (try have hs1 := hs (w.heap.size + 1) (by omega)); (try have hs2 := hs (w.heap.size + 1 + 1) (by omega)); (try have hs3 := hs (w.heap.size + 1 + 1 + 1) (by omega))) | (go_at_call 17; with_reducible refine Calls.mono (HA.out _ (by (repeat (first | with_reducible exact Ext.rfl' _ | with_reducible assumption | with_reducible refine Ext.al ?_ _ | with_reducible refine Ext.dr ?_ | with_reducible refine Ext.st ?_ (by simp) _ | with_reducible refine Ext.tr ?_ (by assumption))))) ?_; rintro e wA ⟨rfl, hb⟩; have hc := hb.ccell; have hf := hb.frz; have hs := hb.sz; (try simp at hs); (try have t0 := hs (w.heap.size) (by first | assumption | omega)); (try have t1 := hs (w.heap.size) (by first | assumption | omega))) | (go_at_call 18; with_reducible refine Calls.mono (HC.out _ (by (repeat (first | with_reducible exact Ext.rfl' _ | with_reducible assumption | with_reducible refine Ext.al ?_ _ | with_reducible refine Ext.dr ?_ | with_reducible refine Ext.st ?_ (by simp) _ | with_reducible refine Ext.tr ?_ (by assumption))))) ?_; rintro e wC ⟨rfl, hb⟩; have hc := hb.ccell; have hf := hb.frz; have hs := hb.sz; (try simp at hs); (try have t0 := hs (w.heap.size) (by first | assumption | omega)); (try have t1 := hs (wA.heap.size) (by first | assumption | omega))) | (go_at_call 19; with_reducible refine Calls.mono (HM.out _ (by (repeat (first | with_reducible exact Ext.rfl' _ | with_reducible assumption | with_reducible refine Ext.al ?_ _ | with_reducible refine Ext.dr ?_ | with_reducible refine Ext.st ?_ (by simp) _ | with_reducible refine Ext.tr ?_ (by assumption))))) ?_; rintro e wM ⟨rfl, hb⟩; have hc := hb.ccell; have hf := hb.frz; have hs := hb.sz; (try simp at hs); (try have t0 := hs (w.heap.size) (by first | assumption | omega)); (try have t1 := hs (wA.heap.size) (by first | assumption | omega))) | (go_at_call 20; with_reducible refine Calls.mono (HR.out _ (by (repeat (first | with_reducible exact Ext.rfl' _ | with_reducible assumption | with_reducible refine Ext.al ?_ _ | with_reducible refine Ext.dr ?_ | with_reducible refine Ext.st ?_ (by simp) _ | with_reducible refine Ext.tr ?_ (by assumption))))) ?_; rintro e wR ⟨rfl, hb⟩; have hc := hb.ccell; have hf := hb.frz; have hs := hb.sz; (try simp at hs); (try have t0 := hs (w.heap.size) (by first | assumption | omega)); (try have t1 := hs (wA.heap.size) (by first | assumption | omega))))
      go_ret
      exact ⟨by simp, by (repeat (first | with_reducible exact Ext.rfl' _ | with_reducible assumption | with_reducible refine Ext.al ?_ _ | with_reducible refine Ext.dr ?_ | with_reducible refine Ext.st ?_ (by simp) _ | with_reducible refine Ext.tr ?_ (by assumption)))⟩
end Go.Proofs.Ytblmljcgjibfgaa

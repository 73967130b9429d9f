/- Whether a point is inside of a polygon, or near it, is as specified: the law returns true for every input. Conditions: none. -/
import Derived.Test.YtcdbekmcobghbaaRefNear
import Derived.Test.YtcdbekmcobghbaaLawOff
namespace Go.Proofs.Ytcdbekmcobghbaa
open Go Go.RowKit Go.IntWalk

theorem cmp_lt0 (z : Int) : (cmpI z 0 < 0) ↔ (z < 0) := by unfold cmpI; split <;> (try split) <;> omega
theorem rB_good {a b p : Pt} (ha : good a = true) (hb : good b = true) (hp : good p = true) : rB a b p = rightB a b p := by
  unfold rB rightB; rw [crossW_good ha hb hp]
theorem uB_good {a b p : Pt} (ha : good a = true) (hb : good b = true) (hp : good p = true) : uB a b p = upcB a b p := by
  unfold uB upcB; rw [crossW_good ha hb hp, dec_eq (cmp_lt0 _)]
theorem place_same (l : List Pt) (p : Pt) (hl : allGood l = true) (hp : good p = true) : placeR l p = placeG l p := by
  unfold placeR placeG placeV
  have e1 : anyN (onR l p) l.length = anyN (onG l p) l.length := anyN_congr _ (fun i _ => (betG_W (cor_good hl _) (cor_good hl _) hp).symm)
  rw [e1]
  cases hc : anyN (onG l p) l.length
  · have h2 : ∀ i, i < l.length → ¬ betZ (cor l i) (cor l (i + 1)) p := by
      intro i hi hb
      have := (anyN_no _ _).1 hc i hi
      rw [show onG l p i = betweenG (cor l i) (cor l (i + 1)) p from rfl, (betG_iff (cor_good hl _) (cor_good hl _) hp).2 hb] at this
      cases this
    have e2 := parity_eq l p h2
    have e3 : parN (cutR l p) l.length = parN (fun i => upcB (cor l i) (cor l (i + 1)) p) l.length := parN_congr _ (fun i _ => uB_good (cor_good hl _) (cor_good hl _) hp)
    have e4 : parN (cutG l p) l.length = parN (fun i => rightB (cor l i) (cor l (i + 1)) p) l.length := parN_congr _ (fun i _ => rB_good (cor_good hl _) (cor_good hl _) hp)
    rw [e3, e4, e2]
  · rfl
theorem dot_swap {a p : Pt} (ha : good a = true) (hp : good p = true) : dotW p a a = dotW a p p := by
  rw [dotW_good hp ha ha, dotW_good ha hp hp]; unfold dotZ; grind
theorem near_same (l : List Pt) (p : Pt) (d : Int) (hl : allGood l = true) (hp : good p = true) : nearRL l p d = nearL l p d := by
  unfold nearRL nearL
  rw [place_same l p hl hp, anyN_congr (f := sideNearR l p d) (g := sideNear l p d) _ (fun i _ => ?_)]
  unfold sideNearR sideNear nearG offR offG
  rw [dot_swap (cor_good hl _) hp, dot_swap (cor_good hl _) hp, off_same _ _ _ (cor_good hl _) (cor_good hl _) hp]

set_option maxHeartbeats 2000000 in
theorem ins_walk (l : List Pt) (px py d : Int) (w : World) (A : Option Addr) (c : Nat) (hl : l.length ≤ maxLen) (hA : Row 2 encP w A l) :
    Calls Try.prog 8 #[.slice A l.length c, .agg #[.int .i64 px, .int .i64 py], .int .i64 d] w
      fun e w' => e = .returned (.bool true) ∧ Ext w w' := by
  unfold maxLen at hl
  by_cases h1 : 50 < l.length
  · have h1' : (50 : Int) < (l.length : Int) := by omega
    go_enter Try.func8, Try.ntmps8
    go_wp2_with (first | (go_at_call 19; refine Calls.mono (awake_c _) ?_; rintro e w1 ⟨rfl, hb⟩; have hc := hb.ccell; have hf := hb.frz; have hs := hb.sz; (try simp at hs); (try have hs0 := hs w.heap.size (by omega)); (try have hs1 := hs (w.heap.size + 1) (by omega)); (try have hs2 := hs (w.heap.size + 1 + 1) (by omega)); (try have hs3 := hs (w.heap.size + 1 + 1 + 1) (by omega))))
    go_ret
    exact ⟨rfl, by (repeat (first | with_reducible exact Ext.rfl' _ | with_reducible assumption | with_reducible refine Ext.al ?_ _ | with_reducible refine Ext.dr ?_ | with_reducible refine Ext.st ?_ (by simp) _ | with_reducible refine Ext.tr ?_ (by assumption)))⟩
  have h1' : (l.length : Int) ≤ 50 := by omega
  have hl' : l.length ≤ 1000 := by omega
  have hI := fun w' (hw : Ext w w') => ginside_c l px py w' A c hl' (hA.ext hw)
  have hN := fun w' (hw : Ext w w') => gnear_c l px py d w' A c hl' (hA.ext hw)
  have hR := fun w' (hw : Ext w w') => rcheckPolygon_c l w' A c hl' (hA.ext hw)
  rw [polyE_same] at hR
  have HG := Lib.hid (fun w => rgood_c px py w)
  by_cases hp : polyE l = 0
  · rw [hp] at hR
    have HR := Lib.hid hR
    cases hg : good ⟨px, py⟩
    · have e1 : insE l ⟨px, py⟩ = 2 := by unfold insE; rw [if_neg (by rw [hp]; simp), hg]; rfl
      have e2 : insV l ⟨px, py⟩ = 0 := by unfold insV; rw [e1]; rfl
      have e3 : nearE l ⟨px, py⟩ d = 2 := by unfold nearE; rw [if_neg (by rw [hp]; simp), hg]; rfl
      have e4 : nearV l ⟨px, py⟩ d = false := by unfold nearV; rw [e3]; rfl
      rw [e1, e2] at hI
      rw [e3, e4] at hN
      rw [hg] at HG
      have HI := Lib.hid hI
      have HN := Lib.hid hN
      clear hI hN hR hp hg e1 e2 e3 e4
      go_enter Try.func8, Try.ntmps8
      go_wp2_with (first | (go_at_call 19; refine Calls.mono (awake_c _) ?_; rintro e w1 ⟨rfl, hb⟩; have hc := hb.ccell; have hf := hb.frz; have hs := hb.sz; (try simp at hs); (try have hs0 := hs w.heap.size (by omega)); (try have hs1 := hs (w.heap.size + 1) (by omega)); (try have hs2 := hs (w.heap.size + 1 + 1) (by omega)); (try have hs3 := hs (w.heap.size + 1 + 1 + 1) (by omega))) | (go_at_call 44; with_reducible refine Calls.mono (HI.out _ (by (repeat (first | with_reducible exact Ext.rfl' _ | with_reducible assumption | with_reducible refine Ext.al ?_ _ | with_reducible refine Ext.dr ?_ | with_reducible refine Ext.st ?_ (by simp) _ | with_reducible refine Ext.tr ?_ (by assumption))))) ?_; rintro e w1 ⟨rfl, hb⟩; have hc := hb.ccell; have hf := hb.frz; have hs := hb.sz; (try simp at hs); (try have hs0 := hs w.heap.size (by omega)); (try have hs1 := hs (w.heap.size + 1) (by omega)); (try have hs2 := hs (w.heap.size + 1 + 1) (by omega)); (try have hs3 := hs (w.heap.size + 1 + 1 + 1) (by omega))) | (go_at_call 45; with_reducible refine Calls.mono (HN.out _ (by (repeat (first | with_reducible exact Ext.rfl' _ | with_reducible assumption | with_reducible refine Ext.al ?_ _ | with_reducible refine Ext.dr ?_ | with_reducible refine Ext.st ?_ (by simp) _ | with_reducible refine Ext.tr ?_ (by assumption))))) ?_; rintro e w1 ⟨rfl, hb⟩; have hc := hb.ccell; have hf := hb.frz; have hs := hb.sz; (try simp at hs); (try have hs0 := hs w.heap.size (by omega)); (try have hs1 := hs (w.heap.size + 1) (by omega)); (try have hs2 := hs (w.heap.size + 1 + 1) (by omega)); (try have hs3 := hs (w.heap.size + 1 + 1 + 1) (by omega))) | (go_at_call 41; with_reducible refine Calls.mono (HR.out _ (by (repeat (first | with_reducible exact Ext.rfl' _ | with_reducible assumption | with_reducible refine Ext.al ?_ _ | with_reducible refine Ext.dr ?_ | with_reducible refine Ext.st ?_ (by simp) _ | with_reducible refine Ext.tr ?_ (by assumption))))) ?_; rintro e w1 ⟨rfl, hb⟩; have hc := hb.ccell; have hf := hb.frz; have hs := hb.sz; (try simp at hs); (try have hs0 := hs w.heap.size (by omega)); (try have hs1 := hs (w.heap.size + 1) (by omega)); (try have hs2 := hs (w.heap.size + 1 + 1) (by omega)); (try have hs3 := hs (w.heap.size + 1 + 1 + 1) (by omega))) | (go_at_call 24; with_reducible refine Calls.mono (HG.out _) ?_; rintro e w1 ⟨rfl, hb⟩; have hc := hb.ccell; have hf := hb.frz; have hs := hb.sz; (try simp at hs); (try have hs0 := hs w.heap.size (by omega)); (try have hs1 := hs (w.heap.size + 1) (by omega)); (try have hs2 := hs (w.heap.size + 1 + 1) (by omega)); (try have hs3 := hs (w.heap.size + 1 + 1 + 1) (by omega))))
      go_ret
      exact ⟨rfl, by (repeat (first | with_reducible exact Ext.rfl' _ | with_reducible assumption | with_reducible refine Ext.al ?_ _ | with_reducible refine Ext.dr ?_ | with_reducible refine Ext.st ?_ (by simp) _ | with_reducible refine Ext.tr ?_ (by assumption)))⟩
    · have e1 : insE l ⟨px, py⟩ = 0 := by unfold insE; rw [if_neg (by rw [hp]; simp), hg]; rfl
      have e2 : insV l ⟨px, py⟩ = placeG l ⟨px, py⟩ := by unfold insV; rw [e1]; rfl
      obtain ⟨g1, g2, g3, g4⟩ := polyE_zero hp
      have HRI := Lib.hid (fun w' (hw : Ext w w') => rinside_c l px py w' A c (by omega) hl' (hA.ext hw))
      rw [place_same l _ g3 hg] at HRI
      rw [e1, e2] at hI
      have HI := Lib.hid hI
      rw [hg] at HG
      by_cases hd : 0 ≤ d ∧ d ≤ 1000000
      · have HRN := Lib.hid (fun w' (hw : Ext w w') => rnear_c l px py d w' A c (by omega) hl' (hA.ext hw) hd.1 hd.2 (fun i hi => by rw [← spanG_eq _ _ (cor_good g3 _) (cor_good g3 _)]; exact span_ne (cor_good g3 _) (cor_good g3 _) (poly_diff hp i hi)))
        rw [near_same l _ d g3 hg] at HRN
        have e3 : nearE l ⟨px, py⟩ d = 0 := by unfold nearE; rw [if_neg (by rw [hp]; simp), hg, decide_eq_true hd.1, decide_eq_true hd.2]; rfl
        have e4 : nearV l ⟨px, py⟩ d = nearL l ⟨px, py⟩ d := by unfold nearV; rw [e3]; rfl
        rw [e3, e4] at hN
        have HN := Lib.hid hN
        obtain ⟨d1, d2⟩ := hd
        clear hI hN hR hp hg e1 e2 e3 e4
        generalize placeG l ⟨px, py⟩ = v at *
        generalize nearL l ⟨px, py⟩ d = u at *
        go_enter Try.func8, Try.ntmps8
        go_wp2_with (first | (go_at_call 19; refine Calls.mono (awake_c _) ?_; rintro e w1 ⟨rfl, hb⟩; have hc := hb.ccell; have hf := hb.frz; have hs := hb.sz; (try simp at hs); (try have hs0 := hs w.heap.size (by omega)); (try have hs1 := hs (w.heap.size + 1) (by omega)); (try have hs2 := hs (w.heap.size + 1 + 1) (by omega)); (try have hs3 := hs (w.heap.size + 1 + 1 + 1) (by omega))) | (go_at_call 44; with_reducible refine Calls.mono (HI.out _ (by (repeat (first | with_reducible exact Ext.rfl' _ | with_reducible assumption | with_reducible refine Ext.al ?_ _ | with_reducible refine Ext.dr ?_ | with_reducible refine Ext.st ?_ (by simp) _ | with_reducible refine Ext.tr ?_ (by assumption))))) ?_; rintro e w1 ⟨rfl, hb⟩; have hc := hb.ccell; have hf := hb.frz; have hs := hb.sz; (try simp at hs); (try have hs0 := hs w.heap.size (by omega)); (try have hs1 := hs (w.heap.size + 1) (by omega)); (try have hs2 := hs (w.heap.size + 1 + 1) (by omega)); (try have hs3 := hs (w.heap.size + 1 + 1 + 1) (by omega))) | (go_at_call 45; with_reducible refine Calls.mono (HN.out _ (by (repeat (first | with_reducible exact Ext.rfl' _ | with_reducible assumption | with_reducible refine Ext.al ?_ _ | with_reducible refine Ext.dr ?_ | with_reducible refine Ext.st ?_ (by simp) _ | with_reducible refine Ext.tr ?_ (by assumption))))) ?_; rintro e w1 ⟨rfl, hb⟩; have hc := hb.ccell; have hf := hb.frz; have hs := hb.sz; (try simp at hs); (try have hs0 := hs w.heap.size (by omega)); (try have hs1 := hs (w.heap.size + 1) (by omega)); (try have hs2 := hs (w.heap.size + 1 + 1) (by omega)); (try have hs3 := hs (w.heap.size + 1 + 1 + 1) (by omega))) | (go_at_call 41; with_reducible refine Calls.mono (HR.out _ (by (repeat (first | with_reducible exact Ext.rfl' _ | with_reducible assumption | with_reducible refine Ext.al ?_ _ | with_reducible refine Ext.dr ?_ | with_reducible refine Ext.st ?_ (by simp) _ | with_reducible refine Ext.tr ?_ (by assumption))))) ?_; rintro e w1 ⟨rfl, hb⟩; have hc := hb.ccell; have hf := hb.frz; have hs := hb.sz; (try simp at hs); (try have hs0 := hs w.heap.size (by omega)); (try have hs1 := hs (w.heap.size + 1) (by omega)); (try have hs2 := hs (w.heap.size + 1 + 1) (by omega)); (try have hs3 := hs (w.heap.size + 1 + 1 + 1) (by omega))) | (go_at_call 24; with_reducible refine Calls.mono (HG.out _) ?_; rintro e w1 ⟨rfl, hb⟩; have hc := hb.ccell; have hf := hb.frz; have hs := hb.sz; (try simp at hs); (try have hs0 := hs w.heap.size (by omega)); (try have hs1 := hs (w.heap.size + 1) (by omega)); (try have hs2 := hs (w.heap.size + 1 + 1) (by omega)); (try have hs3 := hs (w.heap.size + 1 + 1 + 1) (by omega))) | (go_at_call 46; with_reducible refine Calls.mono (HRI.out _ (by (repeat (first | with_reducible exact Ext.rfl' _ | with_reducible assumption | with_reducible refine Ext.al ?_ _ | with_reducible refine Ext.dr ?_ | with_reducible refine Ext.st ?_ (by simp) _ | with_reducible refine Ext.tr ?_ (by assumption))))) ?_; rintro e w1 ⟨rfl, hb⟩; have hc := hb.ccell; have hf := hb.frz; have hs := hb.sz; (try simp at hs); (try have hs0 := hs w.heap.size (by omega)); (try have hs1 := hs (w.heap.size + 1) (by omega)); (try have hs2 := hs (w.heap.size + 1 + 1) (by omega)); (try have hs3 := hs (w.heap.size + 1 + 1 + 1) (by omega))) | (go_at_call 47; with_reducible refine Calls.mono (HRN.out _ (by (repeat (first | with_reducible exact Ext.rfl' _ | with_reducible assumption | with_reducible refine Ext.al ?_ _ | with_reducible refine Ext.dr ?_ | with_reducible refine Ext.st ?_ (by simp) _ | with_reducible refine Ext.tr ?_ (by assumption))))) ?_; rintro e w1 ⟨rfl, hb⟩; have hc := hb.ccell; have hf := hb.frz; have hs := hb.sz; (try simp at hs); (try have hs0 := hs w.heap.size (by omega)); (try have hs1 := hs (w.heap.size + 1) (by omega)); (try have hs2 := hs (w.heap.size + 1 + 1) (by omega)); (try have hs3 := hs (w.heap.size + 1 + 1 + 1) (by omega))))
        go_ret
        exact ⟨by simp, by (repeat (first | with_reducible exact Ext.rfl' _ | with_reducible assumption | with_reducible refine Ext.al ?_ _ | with_reducible refine Ext.dr ?_ | with_reducible refine Ext.st ?_ (by simp) _ | with_reducible refine Ext.tr ?_ (by assumption)))⟩
      · have e3 : nearE l ⟨px, py⟩ d = 2 := by
          unfold nearE; rw [if_neg (by rw [hp]; simp), hg]
          by_cases hd0 : 0 ≤ d
          · rw [decide_eq_true hd0, decide_eq_false (show ¬ d ≤ 1000000 by omega)]; rfl
          · rw [decide_eq_false hd0]; rfl
        have e4 : nearV l ⟨px, py⟩ d = false := by unfold nearV; rw [e3]; rfl
        rw [e3, e4] at hN
        have HN := Lib.hid hN
        have hd' : d < 0 ∨ (0 ≤ d ∧ 1000000 < d) := by omega
        clear hI hN hR hp hg e1 e2 e3 e4 hd
        generalize placeG l ⟨px, py⟩ = v at *
        rcases hd' with d1 | ⟨d1, d2⟩
        all_goals
          go_enter Try.func8, Try.ntmps8
          go_wp2_with (first | (go_at_call 19; refine Calls.mono (awake_c _) ?_; rintro e w1 ⟨rfl, hb⟩; have hc := hb.ccell; have hf := hb.frz; have hs := hb.sz; (try simp at hs); (try have hs0 := hs w.heap.size (by omega)); (try have hs1 := hs (w.heap.size + 1) (by omega)); (try have hs2 := hs (w.heap.size + 1 + 1) (by omega)); (try have hs3 := hs (w.heap.size + 1 + 1 + 1) (by omega))) | (go_at_call 44; with_reducible refine Calls.mono (HI.out _ (by (repeat (first | with_reducible exact Ext.rfl' _ | with_reducible assumption | with_reducible refine Ext.al ?_ _ | with_reducible refine Ext.dr ?_ | with_reducible refine Ext.st ?_ (by simp) _ | with_reducible refine Ext.tr ?_ (by assumption))))) ?_; rintro e w1 ⟨rfl, hb⟩; have hc := hb.ccell; have hf := hb.frz; have hs := hb.sz; (try simp at hs); (try have hs0 := hs w.heap.size (by omega)); (try have hs1 := hs (w.heap.size + 1) (by omega)); (try have hs2 := hs (w.heap.size + 1 + 1) (by omega)); (try have hs3 := hs (w.heap.size + 1 + 1 + 1) (by omega))) | (go_at_call 45; with_reducible refine Calls.mono (HN.out _ (by (repeat (first | with_reducible exact Ext.rfl' _ | with_reducible assumption | with_reducible refine Ext.al ?_ _ | with_reducible refine Ext.dr ?_ | with_reducible refine Ext.st ?_ (by simp) _ | with_reducible refine Ext.tr ?_ (by assumption))))) ?_; rintro e w1 ⟨rfl, hb⟩; have hc := hb.ccell; have hf := hb.frz; have hs := hb.sz; (try simp at hs); (try have hs0 := hs w.heap.size (by omega)); (try have hs1 := hs (w.heap.size + 1) (by omega)); (try have hs2 := hs (w.heap.size + 1 + 1) (by omega)); (try have hs3 := hs (w.heap.size + 1 + 1 + 1) (by omega))) | (go_at_call 41; with_reducible refine Calls.mono (HR.out _ (by (repeat (first | with_reducible exact Ext.rfl' _ | with_reducible assumption | with_reducible refine Ext.al ?_ _ | with_reducible refine Ext.dr ?_ | with_reducible refine Ext.st ?_ (by simp) _ | with_reducible refine Ext.tr ?_ (by assumption))))) ?_; rintro e w1 ⟨rfl, hb⟩; have hc := hb.ccell; have hf := hb.frz; have hs := hb.sz; (try simp at hs); (try have hs0 := hs w.heap.size (by omega)); (try have hs1 := hs (w.heap.size + 1) (by omega)); (try have hs2 := hs (w.heap.size + 1 + 1) (by omega)); (try have hs3 := hs (w.heap.size + 1 + 1 + 1) (by omega))) | (go_at_call 24; with_reducible refine Calls.mono (HG.out _) ?_; rintro e w1 ⟨rfl, hb⟩; have hc := hb.ccell; have hf := hb.frz; have hs := hb.sz; (try simp at hs); (try have hs0 := hs w.heap.size (by omega)); (try have hs1 := hs (w.heap.size + 1) (by omega)); (try have hs2 := hs (w.heap.size + 1 + 1) (by omega)); (try have hs3 := hs (w.heap.size + 1 + 1 + 1) (by omega))) | (go_at_call 46; with_reducible refine Calls.mono (HRI.out _ (by (repeat (first | with_reducible exact Ext.rfl' _ | with_reducible assumption | with_reducible refine Ext.al ?_ _ | with_reducible refine Ext.dr ?_ | with_reducible refine Ext.st ?_ (by simp) _ | with_reducible refine Ext.tr ?_ (by assumption))))) ?_; rintro e w1 ⟨rfl, hb⟩; have hc := hb.ccell; have hf := hb.frz; have hs := hb.sz; (try simp at hs); (try have hs0 := hs w.heap.size (by omega)); (try have hs1 := hs (w.heap.size + 1) (by omega)); (try have hs2 := hs (w.heap.size + 1 + 1) (by omega)); (try have hs3 := hs (w.heap.size + 1 + 1 + 1) (by omega))))
          go_ret
          exact ⟨rfl, by (repeat (first | with_reducible exact Ext.rfl' _ | with_reducible assumption | with_reducible refine Ext.al ?_ _ | with_reducible refine Ext.dr ?_ | with_reducible refine Ext.st ?_ (by simp) _ | with_reducible refine Ext.tr ?_ (by assumption)))⟩
  · have e1 : insE l ⟨px, py⟩ = polyE l := by unfold insE; rw [if_pos hp]
    have e2 : insV l ⟨px, py⟩ = 0 := by unfold insV; rw [e1, if_neg hp]
    have e3 : nearE l ⟨px, py⟩ d = polyE l := by unfold nearE; rw [if_pos hp]
    have e4 : nearV l ⟨px, py⟩ d = false := by unfold nearV; rw [e3, if_neg hp]
    rw [e1, e2] at hI
    rw [e3, e4] at hN
    have HI := Lib.hid hI
    have HN := Lib.hid hN
    have HR := Lib.hid hR
    clear hI hN hR e1 e2 e3 e4
    generalize polyE l = r at *
    have h' : (r == 0) = false := by simp [hp]
    go_enter Try.func8, Try.ntmps8
    go_wp2_with (first | (go_at_call 19; refine Calls.mono (awake_c _) ?_; rintro e w1 ⟨rfl, hb⟩; have hc := hb.ccell; have hf := hb.frz; have hs := hb.sz; (try simp at hs); (try have hs0 := hs w.heap.size (by omega)); (try have hs1 := hs (w.heap.size + 1) (by omega)); (try have hs2 := hs (w.heap.size + 1 + 1) (by omega)); (try have hs3 := hs (w.heap.size + 1 + 1 + 1) (by omega))) | (go_at_call 44; with_reducible refine Calls.mono (HI.out _ (by (repeat (first | with_reducible exact Ext.rfl' _ | with_reducible assumption | with_reducible refine Ext.al ?_ _ | with_reducible refine Ext.dr ?_ | with_reducible refine Ext.st ?_ (by simp) _ | with_reducible refine Ext.tr ?_ (by assumption))))) ?_; rintro e w1 ⟨rfl, hb⟩; have hc := hb.ccell; have hf := hb.frz; have hs := hb.sz; (try simp at hs); (try have hs0 := hs w.heap.size (by omega)); (try have hs1 := hs (w.heap.size + 1) (by omega)); (try have hs2 := hs (w.heap.size + 1 + 1) (by omega)); (try have hs3 := hs (w.heap.size + 1 + 1 + 1) (by omega))) | (go_at_call 45; with_reducible refine Calls.mono (HN.out _ (by (repeat (first | with_reducible exact Ext.rfl' _ | with_reducible assumption | with_reducible refine Ext.al ?_ _ | with_reducible refine Ext.dr ?_ | with_reducible refine Ext.st ?_ (by simp) _ | with_reducible refine Ext.tr ?_ (by assumption))))) ?_; rintro e w1 ⟨rfl, hb⟩; have hc := hb.ccell; have hf := hb.frz; have hs := hb.sz; (try simp at hs); (try have hs0 := hs w.heap.size (by omega)); (try have hs1 := hs (w.heap.size + 1) (by omega)); (try have hs2 := hs (w.heap.size + 1 + 1) (by omega)); (try have hs3 := hs (w.heap.size + 1 + 1 + 1) (by omega))) | (go_at_call 41; with_reducible refine Calls.mono (HR.out _ (by (repeat (first | with_reducible exact Ext.rfl' _ | with_reducible assumption | with_reducible refine Ext.al ?_ _ | with_reducible refine Ext.dr ?_ | with_reducible refine Ext.st ?_ (by simp) _ | with_reducible refine Ext.tr ?_ (by assumption))))) ?_; rintro e w1 ⟨rfl, hb⟩; have hc := hb.ccell; have hf := hb.frz; have hs := hb.sz; (try simp at hs); (try have hs0 := hs w.heap.size (by omega)); (try have hs1 := hs (w.heap.size + 1) (by omega)); (try have hs2 := hs (w.heap.size + 1 + 1) (by omega)); (try have hs3 := hs (w.heap.size + 1 + 1 + 1) (by omega))) | (go_at_call 24; with_reducible refine Calls.mono (HG.out _) ?_; rintro e w1 ⟨rfl, hb⟩; have hc := hb.ccell; have hf := hb.frz; have hs := hb.sz; (try simp at hs); (try have hs0 := hs w.heap.size (by omega)); (try have hs1 := hs (w.heap.size + 1) (by omega)); (try have hs2 := hs (w.heap.size + 1 + 1) (by omega)); (try have hs3 := hs (w.heap.size + 1 + 1 + 1) (by omega))))
    go_ret
    exact ⟨by simp, by (repeat (first | with_reducible exact Ext.rfl' _ | with_reducible assumption | with_reducible refine Ext.al ?_ _ | with_reducible refine Ext.dr ?_ | with_reducible refine Ext.st ?_ (by simp) _ | with_reducible refine Ext.tr ?_ (by assumption)))⟩
end Go.Proofs.Ytcdbekmcobghbaa

/- Contracts of Inside and Near, and of the reference's Near. -/
import Derived.Test.YtcdbekmcobghbaaNear
import Derived.Test.YtcdbekmcobghbaaBelongs
namespace Go.Proofs.Ytcdbekmcobghbaa
open Go Go.RowKit Go.IntWalk

def insE (l : List Pt) (p : Pt) : Int := if polyE l ≠ 0 then polyE l else if good p then 0 else 2
def insV (l : List Pt) (p : Pt) : Int := if insE l p = 0 then placeG l p else 0
set_option maxHeartbeats 1000000 in
theorem ginside_c (l : List Pt) (px py : Int) (w : World) (A : Option Addr) (c : Nat) (hl : l.length ≤ 1000) (hA : Row 2 encP w A l) :
    Calls Try.prog 44 #[.slice A l.length c, .agg #[.int .i64 px, .int .i64 py]] w
      fun e w' => e = .returned (.tuple #[.int .i64 (insV l ⟨px, py⟩), .int .i64 (insE l ⟨px, py⟩)]) ∧ Ext w w' := by
  have HC := Lib.hid (fun w' (hw : Ext w w') => checkPolygon_c l w' A c hl (hA.ext hw))
  have HP := Lib.hid (fun w' (hw : Ext w w') => gplace_c l px py w' A c hl (hA.ext hw))
  by_cases h1 : polyE l = 0
  · rw [h1] at HC
    cases hg : good ⟨px, py⟩
    · have e1 : insE l ⟨px, py⟩ = 2 := by unfold insE; rw [if_neg (by rw [h1]; simp), hg]; rfl
      have e2 : insV l ⟨px, py⟩ = 0 := by unfold insV; rw [e1]; rfl
      rw [e1, e2]
      have HG := Lib.hid hg
      clear hg h1 e1 e2
      go_enter Try.func44, Try.ntmps44
      go_wp2_with (first | (go_at_call 42; with_reducible refine Calls.mono (HC.out _ (by (repeat (first | with_reducible exact Ext.rfl' _ | with_reducible assumption | with_reducible refine Ext.al ?_ _ | with_reducible refine Ext.dr ?_ | with_reducible refine Ext.st ?_ (by simp) _ | with_reducible refine Ext.tr ?_ (by assumption))))) ?_; rintro e w1 ⟨rfl, hb⟩; have hc := hb.ccell; have hf := hb.frz; have hs := hb.sz; (try simp at hs); (try have hs0 := hs w.heap.size (by omega)); (try have hs1 := hs (w.heap.size + 1) (by omega)); (try have hs2 := hs (w.heap.size + 1 + 1) (by omega)); (try have hs3 := hs (w.heap.size + 1 + 1 + 1) (by omega))) | (go_at_call 73; refine Calls.mono (inRange1_c _ _ _ HG.out _ _ _ _ ?_) ?_; (focus simp); rintro e w1 ⟨rfl, hb⟩; have hc := hb.ccell; have hf := hb.frz; have hs := hb.sz; (try simp at hs); (try have hs0 := hs w.heap.size (by omega)); (try have hs1 := hs (w.heap.size + 1) (by omega)); (try have hs2 := hs (w.heap.size + 1 + 1) (by omega)); (try have hs3 := hs (w.heap.size + 1 + 1 + 1) (by omega))))
      go_ret2
      exact ⟨rfl, by (repeat (first | with_reducible exact Ext.rfl' _ | with_reducible assumption | with_reducible refine Ext.al ?_ _ | with_reducible refine Ext.dr ?_ | with_reducible refine Ext.st ?_ (by simp) _ | with_reducible refine Ext.tr ?_ (by assumption)))⟩
    · have e1 : insE l ⟨px, py⟩ = 0 := by unfold insE; rw [if_neg (by rw [h1]; simp), hg]; rfl
      have e2 : insV l ⟨px, py⟩ = placeG l ⟨px, py⟩ := by unfold insV; rw [e1]; rfl
      rw [e1, e2]
      have HG := Lib.hid hg
      clear hg h1 e1 e2
      generalize placeG l ⟨px, py⟩ = r at *
      go_enter Try.func44, Try.ntmps44
      go_wp2_with (first | (go_at_call 42; with_reducible refine Calls.mono (HC.out _ (by (repeat (first | with_reducible exact Ext.rfl' _ | with_reducible assumption | with_reducible refine Ext.al ?_ _ | with_reducible refine Ext.dr ?_ | with_reducible refine Ext.st ?_ (by simp) _ | with_reducible refine Ext.tr ?_ (by assumption))))) ?_; rintro e w1 ⟨rfl, hb⟩; have hc := hb.ccell; have hf := hb.frz; have hs := hb.sz; (try simp at hs); (try have hs0 := hs w.heap.size (by omega)); (try have hs1 := hs (w.heap.size + 1) (by omega)); (try have hs2 := hs (w.heap.size + 1 + 1) (by omega)); (try have hs3 := hs (w.heap.size + 1 + 1 + 1) (by omega))) | (go_at_call 73; refine Calls.mono (inRange1_c _ _ _ HG.out _ _ _ _ ?_) ?_; (focus simp); rintro e w1 ⟨rfl, hb⟩; have hc := hb.ccell; have hf := hb.frz; have hs := hb.sz; (try simp at hs); (try have hs0 := hs w.heap.size (by omega)); (try have hs1 := hs (w.heap.size + 1) (by omega)); (try have hs2 := hs (w.heap.size + 1 + 1) (by omega)); (try have hs3 := hs (w.heap.size + 1 + 1 + 1) (by omega))) | (go_at_call 93; with_reducible refine Calls.mono (HP.out _ (by (repeat (first | with_reducible exact Ext.rfl' _ | with_reducible assumption | with_reducible refine Ext.al ?_ _ | with_reducible refine Ext.dr ?_ | with_reducible refine Ext.st ?_ (by simp) _ | with_reducible refine Ext.tr ?_ (by assumption))))) ?_; rintro e w1 ⟨rfl, hb⟩; have hc := hb.ccell; have hf := hb.frz; have hs := hb.sz; (try simp at hs); (try have hs0 := hs w.heap.size (by omega)); (try have hs1 := hs (w.heap.size + 1) (by omega)); (try have hs2 := hs (w.heap.size + 1 + 1) (by omega)); (try have hs3 := hs (w.heap.size + 1 + 1 + 1) (by omega))))
      go_ret2
      exact ⟨rfl, by (repeat (first | with_reducible exact Ext.rfl' _ | with_reducible assumption | with_reducible refine Ext.al ?_ _ | with_reducible refine Ext.dr ?_ | with_reducible refine Ext.st ?_ (by simp) _ | with_reducible refine Ext.tr ?_ (by assumption)))⟩
  · have e1 : insE l ⟨px, py⟩ = polyE l := by unfold insE; rw [if_pos h1]
    have e2 : insV l ⟨px, py⟩ = 0 := by unfold insV; rw [e1, if_neg h1]
    rw [e1, e2]
    clear e1 e2
    generalize polyE l = r at HC h1 ⊢
    have h' : (r == 0) = false := by simp [h1]
    go_enter Try.func44, Try.ntmps44
    go_wp2_with (first | (go_at_call 42; with_reducible refine Calls.mono (HC.out _ (by (repeat (first | with_reducible exact Ext.rfl' _ | with_reducible assumption | with_reducible refine Ext.al ?_ _ | with_reducible refine Ext.dr ?_ | with_reducible refine Ext.st ?_ (by simp) _ | with_reducible refine Ext.tr ?_ (by assumption))))) ?_; rintro e w1 ⟨rfl, hb⟩; have hc := hb.ccell; have hf := hb.frz; have hs := hb.sz; (try simp at hs); (try have hs0 := hs w.heap.size (by omega)); (try have hs1 := hs (w.heap.size + 1) (by omega)); (try have hs2 := hs (w.heap.size + 1 + 1) (by omega)); (try have hs3 := hs (w.heap.size + 1 + 1 + 1) (by omega))))
    go_ret2
    exact ⟨rfl, by (repeat (first | with_reducible exact Ext.rfl' _ | with_reducible assumption | with_reducible refine Ext.al ?_ _ | with_reducible refine Ext.dr ?_ | with_reducible refine Ext.st ?_ (by simp) _ | with_reducible refine Ext.tr ?_ (by assumption)))⟩

def sideNear (l : List Pt) (p : Pt) (d : Int) (i : Nat) : Bool := nearG (cor l i) (cor l (i + 1)) p d
def nearE (l : List Pt) (p : Pt) (d : Int) : Int := if polyE l ≠ 0 then polyE l else if good p && (decide (0 ≤ d) && decide (d ≤ 1000000)) then 0 else 2
def nearL (l : List Pt) (p : Pt) (d : Int) : Bool := decide (0 ≤ placeG l p) || anyN (sideNear l p d) l.length
def nearV (l : List Pt) (p : Pt) (d : Int) : Bool := if nearE l p d = 0 then nearL l p d else false
theorem span_ne {a b : Pt} (ha : good a = true) (hb : good b = true) (hne : a ≠ b) : spanG a b ≠ 0 := by have := spanG_pos ha hb hne; omega

set_option maxHeartbeats 2000000 in
theorem gnear_ok (l : List Pt) (px py d : Int) (w : World) (A : Option Addr) (c : Nat) (hl : l.length ≤ 1000) (hA : Row 2 encP w A l) (h1 : polyE l = 0) (hg : good ⟨px, py⟩ = true) (hd0 : 0 ≤ d) (hd1 : d ≤ 1000000) :
    Calls Try.prog 45 #[.slice A l.length c, .agg #[.int .i64 px, .int .i64 py], .int .i64 d] w
      fun e w' => e = .returned (.tuple #[.bool (nearL l ⟨px, py⟩ d), .int .i64 0]) ∧ Ext w w' := by
  have hC := (fun w' (hw : Ext w w') => checkPolygon_c l w' A c hl (hA.ext hw))
  rw [h1] at hC
  have HC := Lib.hid hC
  have HP := Lib.hid (fun w' (hw : Ext w w') => gplace_c l px py w' A c hl (hA.ext hw))
  have HSD := Lib.hid (fun w' (hw : Ext w w') => sides_c l w' A c hl (hA.ext hw))
  have HNS := Lib.hid (fun i (hi : i < l.length) w' => nearSide_c (cor l i).x (cor l i).y (cor l (i + 1)).x (cor l (i + 1)).y px py d w' hd0 hd1 (span_ne (cor_good (polyE_zero h1).2.2.1 i) (cor_good (polyE_zero h1).2.2.1 (i + 1)) (poly_diff h1 i hi)))
  have HG := Lib.hid hg
  obtain ⟨E, hE0⟩ : ∃ E, nearL l ⟨px, py⟩ d = E := ⟨_, rfl⟩
  rw [hE0]
  unfold nearL at hE0
  have HT := Lib.hid hE0
  clear hE0 hC hg h1
  by_cases hpl : 0 ≤ placeG l ⟨px, py⟩
  · have HPL := Lib.hid hpl
    generalize placeG l ⟨px, py⟩ = r at *
    go_enter Try.func45, Try.ntmps45
    go_wp2_with (first | (go_at_call 42; with_reducible refine Calls.mono (HC.out _ (by (repeat (first | with_reducible exact Ext.rfl' _ | with_reducible assumption | with_reducible refine Ext.al ?_ _ | with_reducible refine Ext.dr ?_ | with_reducible refine Ext.st ?_ (by simp) _ | with_reducible refine Ext.tr ?_ (by assumption))))) ?_; rintro e w1 ⟨rfl, hb⟩; have hc := hb.ccell; have hf := hb.frz; have hs := hb.sz; (try simp at hs); (try have hs0 := hs w.heap.size (by omega)); (try have hs1 := hs (w.heap.size + 1) (by omega)); (try have hs2 := hs (w.heap.size + 1 + 1) (by omega)); (try have hs3 := hs (w.heap.size + 1 + 1 + 1) (by omega))) | (go_at_call 73; refine Calls.mono (inRange1_c _ _ _ HG.out _ _ _ _ ?_) ?_; (focus simp); rintro e w1 ⟨rfl, hb⟩; have hc := hb.ccell; have hf := hb.frz; have hs := hb.sz; (try simp at hs); (try have hs0 := hs w.heap.size (by omega)); (try have hs1 := hs (w.heap.size + 1) (by omega)); (try have hs2 := hs (w.heap.size + 1 + 1) (by omega)); (try have hs3 := hs (w.heap.size + 1 + 1 + 1) (by omega))) | (go_at_call 93; with_reducible refine Calls.mono (HP.out _ (by (repeat (first | with_reducible exact Ext.rfl' _ | with_reducible assumption | with_reducible refine Ext.al ?_ _ | with_reducible refine Ext.dr ?_ | with_reducible refine Ext.st ?_ (by simp) _ | with_reducible refine Ext.tr ?_ (by assumption))))) ?_; rintro e w1 ⟨rfl, hb⟩; have hc := hb.ccell; have hf := hb.frz; have hs := hb.sz; (try simp at hs); (try have hs0 := hs w.heap.size (by omega)); (try have hs1 := hs (w.heap.size + 1) (by omega)); (try have hs2 := hs (w.heap.size + 1 + 1) (by omega)); (try have hs3 := hs (w.heap.size + 1 + 1 + 1) (by omega))))
    go_ret2
    exact ⟨by rw [← HT.out, decide_eq_true HPL.out]; rfl, by (repeat (first | with_reducible exact Ext.rfl' _ | with_reducible assumption | with_reducible refine Ext.al ?_ _ | with_reducible refine Ext.dr ?_ | with_reducible refine Ext.st ?_ (by simp) _ | with_reducible refine Ext.tr ?_ (by assumption)))⟩
  · have HPL := Lib.hid hpl
    generalize placeG l ⟨px, py⟩ = r at *
    go_enter Try.func45, Try.ntmps45
    go_wp2_with (first | (go_at_call 42; with_reducible refine Calls.mono (HC.out _ (by (repeat (first | with_reducible exact Ext.rfl' _ | with_reducible assumption | with_reducible refine Ext.al ?_ _ | with_reducible refine Ext.dr ?_ | with_reducible refine Ext.st ?_ (by simp) _ | with_reducible refine Ext.tr ?_ (by assumption))))) ?_; rintro e w1 ⟨rfl, hb⟩; have hc := hb.ccell; have hf := hb.frz; have hs := hb.sz; (try simp at hs); (try have hs0 := hs w.heap.size (by omega)); (try have hs1 := hs (w.heap.size + 1) (by omega)); (try have hs2 := hs (w.heap.size + 1 + 1) (by omega)); (try have hs3 := hs (w.heap.size + 1 + 1 + 1) (by omega))) | (go_at_call 73; refine Calls.mono (inRange1_c _ _ _ HG.out _ _ _ _ ?_) ?_; (focus simp); rintro e w1 ⟨rfl, hb⟩; have hc := hb.ccell; have hf := hb.frz; have hs := hb.sz; (try simp at hs); (try have hs0 := hs w.heap.size (by omega)); (try have hs1 := hs (w.heap.size + 1) (by omega)); (try have hs2 := hs (w.heap.size + 1 + 1) (by omega)); (try have hs3 := hs (w.heap.size + 1 + 1 + 1) (by omega))) | (go_at_call 93; with_reducible refine Calls.mono (HP.out _ (by (repeat (first | with_reducible exact Ext.rfl' _ | with_reducible assumption | with_reducible refine Ext.al ?_ _ | with_reducible refine Ext.dr ?_ | with_reducible refine Ext.st ?_ (by simp) _ | with_reducible refine Ext.tr ?_ (by assumption))))) ?_; rintro e w1 ⟨rfl, hb⟩; have hc := hb.ccell; have hf := hb.frz; have hs := hb.sz; (try simp at hs); (try have hs0 := hs w.heap.size (by omega)); (try have hs1 := hs (w.heap.size + 1) (by omega)); (try have hs2 := hs (w.heap.size + 1 + 1) (by omega)); (try have hs3 := hs (w.heap.size + 1 + 1 + 1) (by omega))) | (go_at_call 89; refine Calls.mono (HSD.out _ (by (repeat (first | with_reducible exact Ext.rfl' _ | with_reducible assumption | with_reducible refine Ext.al ?_ _ | with_reducible refine Ext.dr ?_ | with_reducible refine Ext.st ?_ (by simp) _ | with_reducible refine Ext.tr ?_ (by assumption))))) ?_; rintro e wS ⟨g, rfl, hbS, hrow⟩))
    have hE : Ext w wS := by (repeat (first | with_reducible exact Ext.rfl' _ | with_reducible assumption | with_reducible refine Ext.al ?_ _ | with_reducible refine Ext.dr ?_ | with_reducible refine Ext.st ?_ (by simp) _ | with_reducible refine Ext.tr ?_ (by assumption)))
    have hcS := hbS.ccell
    have k : wS.cell? ⟨w.heap.size, 0, none⟩ = some (.int .i64 px) ∧ wS.cell? ⟨w.heap.size, 1, none⟩ = some (.int .i64 py) := by
      refine ⟨?_, ?_⟩ <;> simp [*, go_sem]
    have hzp : w.heap.size < wS.heap.size := hbS.sz _ hs0
    have K := Lib.hid k
    have HROW := Lib.hid hrow
    clear hcS k hrow hbS hb hc hf hs hs0 hs1
    go_loopw [10, 35] (fun _ i wr => Ext wS wr ∧ ∃ k : Nat, k ≤ l.length ∧ i = .int .i64 k ∧ Hid (anyN (sideNear l ⟨px, py⟩ d) k = false)) (fun _ i _ => l.length - (intOf i).toNat)
    case atStart => exact ⟨Ext.rfl' _, 0, Nat.zero_le _, rfl, rfl⟩
    case round =>
      obtain ⟨hr, k, hk, rfl, hN⟩ := hrel
      by_cases hlt : k < l.length
      · obtain ⟨hgs, hcell⟩ := HROW.out.r4 hlt
        have c := hcell _ hr
        simp only [Nat.zero_add] at c
        have hzg := hr.sz _ hgs
        have e0 := (hr.ccell _ 0 hzp).trans K.out.1
        have e1 := (hr.ccell _ 1 hzp).trans K.out.2
        have hzq := hr.sz _ hzp
        clear hcell
        have HB := Lib.hid (HNS.out k hlt)
        have HON := Lib.hid (show sideNear l ⟨px, py⟩ d k = nearG ⟨(cor l k).x, (cor l k).y⟩ ⟨(cor l (k + 1)).x, (cor l (k + 1)).y⟩ ⟨px, py⟩ d from rfl)
        generalize nearG ⟨(cor l k).x, (cor l k).y⟩ ⟨(cor l (k + 1)).x, (cor l (k + 1)).y⟩ ⟨px, py⟩ d = r2 at HB HON
        cases r2
        all_goals
          go_wp2_with (first | (go_at_call 94; with_reducible refine Calls.mono (HB.out _) ?_; rintro e w1 ⟨rfl, hb⟩; have hc := hb.ccell; have hf := hb.frz; have hs := hb.sz; (try simp at hs); (try have hs0 := hs w.heap.size (by omega)); (try have hs1 := hs (w.heap.size + 1) (by omega)); (try have hs2 := hs (w.heap.size + 1 + 1) (by omega)); (try have hs3 := hs (w.heap.size + 1 + 1 + 1) (by omega))))
        · exact ⟨⟨by (repeat (first | with_reducible exact Ext.rfl' _ | with_reducible assumption | with_reducible refine Ext.al ?_ _ | with_reducible refine Ext.dr ?_ | with_reducible refine Ext.st ?_ (by simp) _ | with_reducible refine Ext.tr ?_ (by assumption))), k + 1, by omega, by go_num, (by show anyN _ (k + 1) = false; rw [anyN, hN.out, HON.out]; rfl)⟩, by simp [intOf]; omega⟩
        · go_ret2
          exact ⟨by rw [← HT.out, anyN_at _ hlt HON.out]; simp, by (repeat (first | with_reducible exact Ext.rfl' _ | with_reducible assumption | with_reducible refine Ext.al ?_ _ | with_reducible refine Ext.dr ?_ | with_reducible refine Ext.st ?_ (by simp) _ | with_reducible refine Ext.tr ?_ (by assumption)))⟩
      · have hkl : k = l.length := by omega
        have hT := HT.out
        rw [← hkl, hN.out, decide_eq_false (show ¬ 0 ≤ r by have := HPL.out; omega)] at hT
        have HT2 := Lib.hid hT
        clear hT hN
        go_wp2
        go_ret2
        exact ⟨by rw [← HT2.out]; rfl, by (repeat (first | with_reducible exact Ext.rfl' _ | with_reducible assumption | with_reducible refine Ext.al ?_ _ | with_reducible refine Ext.dr ?_ | with_reducible refine Ext.st ?_ (by simp) _ | with_reducible refine Ext.tr ?_ (by assumption)))⟩

set_option maxHeartbeats 2000000 in
theorem gnear_c (l : List Pt) (px py d : Int) (w : World) (A : Option Addr) (c : Nat) (hl : l.length ≤ 1000) (hA : Row 2 encP w A l) :
    Calls Try.prog 45 #[.slice A l.length c, .agg #[.int .i64 px, .int .i64 py], .int .i64 d] w
      fun e w' => e = .returned (.tuple #[.bool (nearV l ⟨px, py⟩ d), .int .i64 (nearE l ⟨px, py⟩ d)]) ∧ Ext w w' := by
  have HC := Lib.hid (fun w' (hw : Ext w w') => checkPolygon_c l w' A c hl (hA.ext hw))
  by_cases h1 : polyE l = 0
  · rw [h1] at HC
    cases hg : good ⟨px, py⟩
    · have e1 : nearE l ⟨px, py⟩ d = 2 := by unfold nearE; rw [if_neg (by rw [h1]; simp), hg]; rfl
      have e2 : nearV l ⟨px, py⟩ d = false := by unfold nearV; rw [e1]; rfl
      rw [e1, e2]
      have HG := Lib.hid hg
      clear hg h1 e1 e2
      go_enter Try.func45, Try.ntmps45
      go_wp2_with (first | (go_at_call 42; with_reducible refine Calls.mono (HC.out _ (by (repeat (first | with_reducible exact Ext.rfl' _ | with_reducible assumption | with_reducible refine Ext.al ?_ _ | with_reducible refine Ext.dr ?_ | with_reducible refine Ext.st ?_ (by simp) _ | with_reducible refine Ext.tr ?_ (by assumption))))) ?_; rintro e w1 ⟨rfl, hb⟩; have hc := hb.ccell; have hf := hb.frz; have hs := hb.sz; (try simp at hs); (try have hs0 := hs w.heap.size (by omega)); (try have hs1 := hs (w.heap.size + 1) (by omega)); (try have hs2 := hs (w.heap.size + 1 + 1) (by omega)); (try have hs3 := hs (w.heap.size + 1 + 1 + 1) (by omega))) | (go_at_call 73; refine Calls.mono (inRange1_c _ _ _ HG.out _ _ _ _ ?_) ?_; (focus simp); rintro e w1 ⟨rfl, hb⟩; have hc := hb.ccell; have hf := hb.frz; have hs := hb.sz; (try simp at hs); (try have hs0 := hs w.heap.size (by omega)); (try have hs1 := hs (w.heap.size + 1) (by omega)); (try have hs2 := hs (w.heap.size + 1 + 1) (by omega)); (try have hs3 := hs (w.heap.size + 1 + 1 + 1) (by omega))))
      go_ret2
      exact ⟨rfl, by (repeat (first | with_reducible exact Ext.rfl' _ | with_reducible assumption | with_reducible refine Ext.al ?_ _ | with_reducible refine Ext.dr ?_ | with_reducible refine Ext.st ?_ (by simp) _ | with_reducible refine Ext.tr ?_ (by assumption)))⟩
    by_cases hd0 : 0 ≤ d
    · by_cases hd1 : d ≤ 1000000
      · have e1 : nearE l ⟨px, py⟩ d = 0 := by unfold nearE; rw [if_neg (by rw [h1]; simp), hg, decide_eq_true hd0, decide_eq_true hd1]; rfl
        have e2 : nearV l ⟨px, py⟩ d = nearL l ⟨px, py⟩ d := by unfold nearV; rw [e1]; rfl
        rw [e1, e2]
        exact gnear_ok l px py d w A c hl hA h1 hg hd0 hd1
      · have e1 : nearE l ⟨px, py⟩ d = 2 := by unfold nearE; rw [if_neg (by rw [h1]; simp), hg, decide_eq_true hd0, decide_eq_false hd1]; rfl
        have e2 : nearV l ⟨px, py⟩ d = false := by unfold nearV; rw [e1]; rfl
        rw [e1, e2]
        have HG := Lib.hid hg
        clear hg h1 e1 e2
        go_enter Try.func45, Try.ntmps45
        go_wp2_with (first | (go_at_call 42; with_reducible refine Calls.mono (HC.out _ (by (repeat (first | with_reducible exact Ext.rfl' _ | with_reducible assumption | with_reducible refine Ext.al ?_ _ | with_reducible refine Ext.dr ?_ | with_reducible refine Ext.st ?_ (by simp) _ | with_reducible refine Ext.tr ?_ (by assumption))))) ?_; rintro e w1 ⟨rfl, hb⟩; have hc := hb.ccell; have hf := hb.frz; have hs := hb.sz; (try simp at hs); (try have hs0 := hs w.heap.size (by omega)); (try have hs1 := hs (w.heap.size + 1) (by omega)); (try have hs2 := hs (w.heap.size + 1 + 1) (by omega)); (try have hs3 := hs (w.heap.size + 1 + 1 + 1) (by omega))) | (go_at_call 73; refine Calls.mono (inRange1_c _ _ _ HG.out _ _ _ _ ?_) ?_; (focus simp); rintro e w1 ⟨rfl, hb⟩; have hc := hb.ccell; have hf := hb.frz; have hs := hb.sz; (try simp at hs); (try have hs0 := hs w.heap.size (by omega)); (try have hs1 := hs (w.heap.size + 1) (by omega)); (try have hs2 := hs (w.heap.size + 1 + 1) (by omega)); (try have hs3 := hs (w.heap.size + 1 + 1 + 1) (by omega))))
        go_ret2
        exact ⟨rfl, by (repeat (first | with_reducible exact Ext.rfl' _ | with_reducible assumption | with_reducible refine Ext.al ?_ _ | with_reducible refine Ext.dr ?_ | with_reducible refine Ext.st ?_ (by simp) _ | with_reducible refine Ext.tr ?_ (by assumption)))⟩
    · have e1 : nearE l ⟨px, py⟩ d = 2 := by unfold nearE; rw [if_neg (by rw [h1]; simp), hg, decide_eq_false hd0]; rfl
      have e2 : nearV l ⟨px, py⟩ d = false := by unfold nearV; rw [e1]; rfl
      rw [e1, e2]
      have HG := Lib.hid hg
      clear hg h1 e1 e2
      go_enter Try.func45, Try.ntmps45
      go_wp2_with (first | (go_at_call 42; with_reducible refine Calls.mono (HC.out _ (by (repeat (first | with_reducible exact Ext.rfl' _ | with_reducible assumption | with_reducible refine Ext.al ?_ _ | with_reducible refine Ext.dr ?_ | with_reducible refine Ext.st ?_ (by simp) _ | with_reducible refine Ext.tr ?_ (by assumption))))) ?_; rintro e w1 ⟨rfl, hb⟩; have hc := hb.ccell; have hf := hb.frz; have hs := hb.sz; (try simp at hs); (try have hs0 := hs w.heap.size (by omega)); (try have hs1 := hs (w.heap.size + 1) (by omega)); (try have hs2 := hs (w.heap.size + 1 + 1) (by omega)); (try have hs3 := hs (w.heap.size + 1 + 1 + 1) (by omega))) | (go_at_call 73; refine Calls.mono (inRange1_c _ _ _ HG.out _ _ _ _ ?_) ?_; (focus simp); rintro e w1 ⟨rfl, hb⟩; have hc := hb.ccell; have hf := hb.frz; have hs := hb.sz; (try simp at hs); (try have hs0 := hs w.heap.size (by omega)); (try have hs1 := hs (w.heap.size + 1) (by omega)); (try have hs2 := hs (w.heap.size + 1 + 1) (by omega)); (try have hs3 := hs (w.heap.size + 1 + 1 + 1) (by omega))))
      go_ret2
      exact ⟨rfl, by (repeat (first | with_reducible exact Ext.rfl' _ | with_reducible assumption | with_reducible refine Ext.al ?_ _ | with_reducible refine Ext.dr ?_ | with_reducible refine Ext.st ?_ (by simp) _ | with_reducible refine Ext.tr ?_ (by assumption)))⟩
  · have e1 : nearE l ⟨px, py⟩ d = polyE l := by unfold nearE; rw [if_pos h1]
    have e2 : nearV l ⟨px, py⟩ d = false := by unfold nearV; rw [e1, if_neg h1]
    rw [e1, e2]
    clear e1 e2
    generalize polyE l = r at HC h1 ⊢
    have h' : (r == 0) = false := by simp [h1]
    go_enter Try.func45, Try.ntmps45
    go_wp2_with (first | (go_at_call 42; with_reducible refine Calls.mono (HC.out _ (by (repeat (first | with_reducible exact Ext.rfl' _ | with_reducible assumption | with_reducible refine Ext.al ?_ _ | with_reducible refine Ext.dr ?_ | with_reducible refine Ext.st ?_ (by simp) _ | with_reducible refine Ext.tr ?_ (by assumption))))) ?_; rintro e w1 ⟨rfl, hb⟩; have hc := hb.ccell; have hf := hb.frz; have hs := hb.sz; (try simp at hs); (try have hs0 := hs w.heap.size (by omega)); (try have hs1 := hs (w.heap.size + 1) (by omega)); (try have hs2 := hs (w.heap.size + 1 + 1) (by omega)); (try have hs3 := hs (w.heap.size + 1 + 1 + 1) (by omega))))
    go_ret2
    exact ⟨rfl, by (repeat (first | with_reducible exact Ext.rfl' _ | with_reducible assumption | with_reducible refine Ext.al ?_ _ | with_reducible refine Ext.dr ?_ | with_reducible refine Ext.st ?_ (by simp) _ | with_reducible refine Ext.tr ?_ (by assumption)))⟩
end Go.Proofs.Ytcdbekmcobghbaa

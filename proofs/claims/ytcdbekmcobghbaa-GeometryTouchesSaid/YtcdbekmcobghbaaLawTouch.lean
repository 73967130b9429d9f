/- Whether a polygon and a rectangle have a point in common is as specified: the law returns true for every input. Conditions: none. -/
import Derived.Test.YtcdbekmcobghbaaRefTouch
import Derived.Test.YtcdbekmcobghbaaLawIns
namespace Go.Proofs.Ytcdbekmcobghbaa
open Go Go.RowKit Go.IntWalk

theorem good_mix {a b : Pt} (ha : good a = true) (hb : good b = true) : good ⟨b.x, a.y⟩ = true := by
  rw [good_iff] at *; exact ⟨hb.1, ha.2⟩
theorem boxG_iff {a b c d : Pt} (ha : good a = true) (hb : good b = true) (hc : good c = true) (hd : good d = true) (hx : a.x ≤ b.x) (hy : a.y ≤ b.y) : boxG c d a b = true ↔ boxZ c d a b := by
  unfold boxG boxZ reachB ovl4 ovlZ ovl1
  simp only [List.any_cons, List.any_nil, Bool.or_false, Bool.and_eq_true, Bool.or_eq_true, decide_eq_true_eq]
  rw [crossW_good hc hd ha, crossW_good hc hd hb, crossW_good hc hd (good_mix ha hb), crossW_good hc hd (good_mix hb ha)]
  omega
theorem rect_four (a b : Pt) : cor (rectL a b) (3 + 1) = a := by simp [cor, rectL]
theorem meetR_Z {a b c d : Pt} (ha : good a = true) (hb : good b = true) (hc : good c = true) (hd : good d = true) : meetR a b c d = true ↔ meetZ a b c d := by
  rw [meetR_G ha hb hc hd, meetG_iff ha hb hc hd]; rfl
section
variable {l : List Pt} {a b : Pt}
theorem rect_good (ha : good a = true) (hb : good b = true) (k : Nat) : good (cor (rectL a b) k) = true := by
  refine cor_good ?_ k
  simp [rectL, allGood, ha, hb, good_mix ha hb, good_mix hb ha]
theorem tou_some (hl : allGood l = true) (ha : good a = true) (hb : good b = true) (hx : a.x ≤ b.x) (hy : a.y ≤ b.y) (h : anyN (sideBox l a b) l.length = true) : anyN (sideTou l a b (rectL a b)) l.length = true := by
  obtain ⟨i, hi, h⟩ := (anyN_iff _ _).1 h
  have hz := (boxG_iff ha hb (cor_good hl _) (cor_good hl _) hx hy).1 h
  refine anyN_at _ hi ?_
  unfold sideTou
  rw [Bool.or_eq_true]
  have hm : ∀ k, meetZ (cor l i) (cor l (i + 1)) (cor (rectL a b) k) (cor (rectL a b) (k + 1)) → sideMeets l (rectL a b) i k = true := by
    intro k hk
    exact (meetR_Z (cor_good hl _) (cor_good hl _) (rect_good ha hb _) (rect_good ha hb _)).2 hk
  rcases box_meets hx hy hz with h | h | h | h | h
  · left
    obtain ⟨⟨h1, h2⟩, h3, h4⟩ := h
    simp [withinB, h1, h2, h3, h4]
  · exact .inr (anyN_at _ (k := 0) (by omega) (hm 0 h))
  · exact .inr (anyN_at _ (k := 1) (by omega) (hm 1 h))
  · exact .inr (anyN_at _ (k := 2) (by omega) (hm 2 h))
  · exact .inr (anyN_at _ (k := 3) (by omega) (hm 3 (by rw [rect_four]; exact h)))
theorem tou_none (hl : allGood l = true) (ha : good a = true) (hb : good b = true) (hx : a.x ≤ b.x) (hy : a.y ≤ b.y) (h : ∀ i, i < l.length → ¬ boxZ (cor l i) (cor l (i + 1)) a b) : anyN (sideTou l a b (rectL a b)) l.length = false := by
  rw [anyN_no]
  intro i hi
  have hn := h i hi
  unfold sideTou
  rw [Bool.or_eq_false_iff]
  constructor
  · cases hw : (withinB (cor l i).x a.x b.x && withinB (cor l i).y a.y b.y)
    · rfl
    · exfalso
      simp [withinB] at hw
      exact hn (box_of_inR ⟨hw.1, hw.2⟩)
  · rw [anyN_no]
    intro k hk
    cases hm : sideMeets l (rectL a b) i k
    · rfl
    · exfalso
      have hz := (meetR_Z (cor_good hl _) (cor_good hl _) (rect_good ha hb _) (rect_good ha hb _)).1 hm
      have hA : inR a b a := ⟨⟨Int.le_refl _, hx⟩, Int.le_refl _, hy⟩
      have hB : inR a b ⟨b.x, a.y⟩ := ⟨⟨hx, Int.le_refl _⟩, Int.le_refl _, hy⟩
      have hC : inR a b b := ⟨⟨hx, Int.le_refl _⟩, hy, Int.le_refl _⟩
      have hD : inR a b ⟨a.x, b.y⟩ := ⟨⟨Int.le_refl _, hx⟩, hy, Int.le_refl _⟩
      rcases (by omega : k = 0 ∨ k = 1 ∨ k = 2 ∨ k = 3) with rfl | rfl | rfl | rfl
      · exact hn (box_of_meet hA hB hz (.inl ⟨rfl, rfl⟩))
      · exact hn (box_of_meet hB hC hz (.inr (.inl ⟨rfl, rfl⟩)))
      · exact hn (box_of_meet hC hD hz (.inr (.inr (.inl ⟨rfl, rfl⟩))))
      · rw [rect_four] at hz
        exact hn (box_of_meet hD hA hz (.inr (.inr (.inr ⟨rfl, rfl⟩))))
theorem place_of (hl : allGood l = true) (h : ∀ i, i < l.length → ¬ boxZ (cor l i) (cor l (i + 1)) a b) {r : Pt} (hr : good r = true) (hin : inR a b r) :
    placeG l r = (if parN (fun i => rightB (cor l i) (cor l (i + 1)) r) l.length = true then 1 else -1) ∧ parN (fun i => rightB (cor l i) (cor l (i + 1)) r) l.length = parN (fun i => upcB (cor l i) (cor l (i + 1)) r) l.length := by
  have hno : ∀ i, i < l.length → ¬ betZ (cor l i) (cor l (i + 1)) r := fun i hi hb => h i hi (box_of_corner hin hb)
  have e1 : anyN (onG l r) l.length = false := by
    rw [anyN_no]
    intro i hi
    cases ho : onG l r i
    · rfl
    · exact absurd ((betG_iff (cor_good hl _) (cor_good hl _) hr).1 ho) (hno i hi)
  refine ⟨?_, parity_eq l r hno⟩
  unfold placeG placeV
  rw [e1, if_neg (by decide), parN_congr (f := cutG l r) (g := fun i => rightB (cor l i) (cor l (i + 1)) r) _ (fun i _ => rB_good (cor_good hl _) (cor_good hl _) hr)]
theorem tou_same (hl : allGood l = true) (ha : good a = true) (hb : good b = true) (hx : a.x ≤ b.x) (hy : a.y ≤ b.y) : touRL l a b = touL l a b := by
  unfold touRL touL
  cases hs : anyN (sideBox l a b) l.length
  · have hn : ∀ i, i < l.length → ¬ boxZ (cor l i) (cor l (i + 1)) a b := by
      intro i hi hz
      have := (anyN_no _ _).1 hs i hi
      rw [show sideBox l a b i = boxG (cor l i) (cor l (i + 1)) a b from rfl, (boxG_iff ha hb (cor_good hl _) (cor_good hl _) hx hy).2 hz] at this
      cases this
    rw [tou_none hl ha hb hx hy hn, Bool.or_false, Bool.false_or]
    obtain ⟨pA, qA⟩ := place_of hl hn ha ⟨⟨Int.le_refl _, hx⟩, Int.le_refl _, hy⟩
    obtain ⟨pB, qB⟩ := place_of hl hn (good_mix ha hb) ⟨⟨hx, Int.le_refl _⟩, Int.le_refl _, hy⟩
    obtain ⟨pC, qC⟩ := place_of hl hn hb ⟨⟨hx, Int.le_refl _⟩, hy, Int.le_refl _⟩
    obtain ⟨pD, qD⟩ := place_of hl hn (good_mix hb ha) ⟨⟨Int.le_refl _, hx⟩, hy, Int.le_refl _⟩
    have eAB : parN (fun i => rightB (cor l i) (cor l (i + 1)) a) l.length = parN (fun i => rightB (cor l i) (cor l (i + 1)) ⟨b.x, a.y⟩) l.length := parN_congr _ (fun i hi => right_same hx hy (hn i hi) (.inl rfl))
    have eAD : parN (fun i => upcB (cor l i) (cor l (i + 1)) a) l.length = parN (fun i => upcB (cor l i) (cor l (i + 1)) ⟨a.x, b.y⟩) l.length := parN_congr _ (fun i hi => up_same hx hy (hn i hi) (.inl rfl))
    have eBC : parN (fun i => upcB (cor l i) (cor l (i + 1)) ⟨b.x, a.y⟩) l.length = parN (fun i => upcB (cor l i) (cor l (i + 1)) b) l.length := parN_congr _ (fun i hi => up_same hx hy (hn i hi) (.inr rfl))
    rw [← eAB] at pB
    rw [qD, ← eAD, ← qA] at pD
    rw [qC, ← eBC, ← qB, ← eAB] at pC
    have hpl : ∀ k, k < 4 → placeR l (cor (rectL a b) k) = placeG l a := by
      intro k hk
      rw [place_same l _ hl (rect_good ha hb k)]
      rcases (by omega : k = 0 ∨ k = 1 ∨ k = 2 ∨ k = 3) with rfl | rfl | rfl | rfl
      · rfl
      · rw [pA]; exact pB
      · rw [pA]; exact pC
      · rw [pA]; exact pD
    have e4 : anyN (cornIn l (rectL a b)) 4 = anyN (fun _ => decide (0 ≤ placeG l a)) 4 := anyN_congr _ (fun k hk => by unfold cornIn; rw [hpl k hk])
    rw [e4, pA]
    split <;> simp [anyN]
  · rw [tou_some hl ha hb hx hy hs]
    simp
end

set_option maxHeartbeats 4000000 in
theorem tou_walk (l : List Pt) (ax ay bx by_ : Int) (w : World) (A : Option Addr) (c : Nat) (hl : l.length ≤ maxLen) (hA : Row 2 encP w A l) :
    Calls Try.prog 9 #[.slice A l.length c, .agg #[.int .i64 ax, .int .i64 ay], .agg #[.int .i64 bx, .int .i64 by_]] w
      fun e w' => e = .returned (.bool true) ∧ Ext w w' := by
  unfold maxLen at hl
  by_cases h1 : 50 < l.length
  · have h1' : (50 : Int) < (l.length : Int) := by omega
    go_enter Try.func9, Try.ntmps9
    go_wp2_with (first | (go_at_call 19; refine Calls.mono (awake_c _) ?_; rintro e w1 ⟨rfl, hb⟩; have hc := hb.ccell; have hf := hb.frz; have hs := hb.sz; (try simp at hs); (try have hs0 := hs w.heap.size (by omega)); (try have hs1 := hs (w.heap.size + 1) (by omega)); (try have hs2 := hs (w.heap.size + 1 + 1) (by omega)); (try have hs3 := hs (w.heap.size + 1 + 1 + 1) (by omega))))
    go_ret
    exact ⟨rfl, by (repeat (first | with_reducible exact Ext.rfl' _ | with_reducible assumption | with_reducible refine Ext.al ?_ _ | with_reducible refine Ext.dr ?_ | with_reducible refine Ext.st ?_ (by simp) _ | with_reducible refine Ext.tr ?_ (by assumption)))⟩
  have h1' : (l.length : Int) ≤ 50 := by omega
  have hl' : l.length ≤ 1000 := by omega
  clear hl
  have hI := fun w' (hw : Ext w w') => gtouches_c l ax ay bx by_ w' A c hl' (hA.ext hw)
  have hR := fun w' (hw : Ext w w') => rcheckPolygon_c l w' A c hl' (hA.ext hw)
  rw [polyE_same] at hR
  by_cases hp : polyE l = 0
  case neg =>
    have e1 : touE l ⟨ax, ay⟩ ⟨bx, by_⟩ = polyE l := by unfold touE; rw [if_pos hp]
    have e2 : touV l ⟨ax, ay⟩ ⟨bx, by_⟩ = false := by unfold touV; rw [e1, if_neg hp]
    rw [e1, e2] at hI
    have HI := Lib.hid hI
    have HR := Lib.hid hR
    clear hI hR e1 e2
    generalize polyE l = r at *
    have h' : (r == 0) = false := by simp [hp]
    go_enter Try.func9, Try.ntmps9
    go_wp2_with (first | (go_at_call 19; refine Calls.mono (awake_c _) ?_; rintro e w1 ⟨rfl, hb⟩; have hc := hb.ccell; have hf := hb.frz; have hs := hb.sz; (try simp at hs); (try have hs0 := hs w.heap.size (by omega)); (try have hs1 := hs (w.heap.size + 1) (by omega)); (try have hs2 := hs (w.heap.size + 1 + 1) (by omega)); (try have hs3 := hs (w.heap.size + 1 + 1 + 1) (by omega))) | (go_at_call 48; with_reducible refine Calls.mono (HI.out _ (by (repeat (first | with_reducible exact Ext.rfl' _ | with_reducible assumption | with_reducible refine Ext.al ?_ _ | with_reducible refine Ext.dr ?_ | with_reducible refine Ext.st ?_ (by simp) _ | with_reducible refine Ext.tr ?_ (by assumption))))) ?_; rintro e w1 ⟨rfl, hb⟩; have hc := hb.ccell; have hf := hb.frz; have hs := hb.sz; (try simp at hs); (try have hs0 := hs w.heap.size (by omega)); (try have hs1 := hs (w.heap.size + 1) (by omega)); (try have hs2 := hs (w.heap.size + 1 + 1) (by omega)); (try have hs3 := hs (w.heap.size + 1 + 1 + 1) (by omega))) | (go_at_call 41; with_reducible refine Calls.mono (HR.out _ (by (repeat (first | with_reducible exact Ext.rfl' _ | with_reducible assumption | with_reducible refine Ext.al ?_ _ | with_reducible refine Ext.dr ?_ | with_reducible refine Ext.st ?_ (by simp) _ | with_reducible refine Ext.tr ?_ (by assumption))))) ?_; rintro e w1 ⟨rfl, hb⟩; have hc := hb.ccell; have hf := hb.frz; have hs := hb.sz; (try simp at hs); (try have hs0 := hs w.heap.size (by omega)); (try have hs1 := hs (w.heap.size + 1) (by omega)); (try have hs2 := hs (w.heap.size + 1 + 1) (by omega)); (try have hs3 := hs (w.heap.size + 1 + 1 + 1) (by omega))))
    go_ret
    exact ⟨by simp, by (repeat (first | with_reducible exact Ext.rfl' _ | with_reducible assumption | with_reducible refine Ext.al ?_ _ | with_reducible refine Ext.dr ?_ | with_reducible refine Ext.st ?_ (by simp) _ | with_reducible refine Ext.tr ?_ (by assumption)))⟩
  rw [hp] at hR
  have HR := Lib.hid hR
  clear hR
  cases ga : good ⟨ax, ay⟩
  · have e1 : touE l ⟨ax, ay⟩ ⟨bx, by_⟩ = 2 := by unfold touE; rw [if_neg (by rw [hp]; simp), if_pos (by rw [ga]; rfl)]
    have e2 : touV l ⟨ax, ay⟩ ⟨bx, by_⟩ = false := by unfold touV; rw [e1]; rfl
    rw [e1, e2] at hI
    have HI := Lib.hid hI
    have GA := Lib.hid (good_of_c _ _ _ ga)
    clear hI e1 e2 ga hp
    go_enter Try.func9, Try.ntmps9
    go_wp2_with (first | (go_at_call 19; refine Calls.mono (awake_c _) ?_; rintro e w1 ⟨rfl, hb⟩; have hc := hb.ccell; have hf := hb.frz; have hs := hb.sz; (try simp at hs); (try have hs0 := hs w.heap.size (by omega)); (try have hs1 := hs (w.heap.size + 1) (by omega)); (try have hs2 := hs (w.heap.size + 1 + 1) (by omega)); (try have hs3 := hs (w.heap.size + 1 + 1 + 1) (by omega))) | (go_at_call 48; with_reducible refine Calls.mono (HI.out _ (by (repeat (first | with_reducible exact Ext.rfl' _ | with_reducible assumption | with_reducible refine Ext.al ?_ _ | with_reducible refine Ext.dr ?_ | with_reducible refine Ext.st ?_ (by simp) _ | with_reducible refine Ext.tr ?_ (by assumption))))) ?_; rintro e w1 ⟨rfl, hb⟩; have hc := hb.ccell; have hf := hb.frz; have hs := hb.sz; (try simp at hs); (try have hs0 := hs w.heap.size (by omega)); (try have hs1 := hs (w.heap.size + 1) (by omega)); (try have hs2 := hs (w.heap.size + 1 + 1) (by omega)); (try have hs3 := hs (w.heap.size + 1 + 1 + 1) (by omega))) | (go_at_call 41; with_reducible refine Calls.mono (HR.out _ (by (repeat (first | with_reducible exact Ext.rfl' _ | with_reducible assumption | with_reducible refine Ext.al ?_ _ | with_reducible refine Ext.dr ?_ | with_reducible refine Ext.st ?_ (by simp) _ | with_reducible refine Ext.tr ?_ (by assumption))))) ?_; rintro e w1 ⟨rfl, hb⟩; have hc := hb.ccell; have hf := hb.frz; have hs := hb.sz; (try simp at hs); (try have hs0 := hs w.heap.size (by omega)); (try have hs1 := hs (w.heap.size + 1) (by omega)); (try have hs2 := hs (w.heap.size + 1 + 1) (by omega)); (try have hs3 := hs (w.heap.size + 1 + 1 + 1) (by omega))) | (go_at_call 24; with_reducible refine Calls.mono (GA.out _) ?_; rintro e w1 ⟨rfl, hb⟩; have hc := hb.ccell; have hf := hb.frz; have hs := hb.sz; (try simp at hs); (try have hs0 := hs w.heap.size (by omega)); (try have hs1 := hs (w.heap.size + 1) (by omega)); (try have hs2 := hs (w.heap.size + 1 + 1) (by omega)); (try have hs3 := hs (w.heap.size + 1 + 1 + 1) (by omega))))
    go_ret
    exact ⟨rfl, by (repeat (first | with_reducible exact Ext.rfl' _ | with_reducible assumption | with_reducible refine Ext.al ?_ _ | with_reducible refine Ext.dr ?_ | with_reducible refine Ext.st ?_ (by simp) _ | with_reducible refine Ext.tr ?_ (by assumption)))⟩
  cases gb : good ⟨bx, by_⟩
  · have e1 : touE l ⟨ax, ay⟩ ⟨bx, by_⟩ = 2 := by unfold touE; rw [if_neg (by rw [hp]; simp), if_pos (by rw [gb, Bool.and_false])]
    have e2 : touV l ⟨ax, ay⟩ ⟨bx, by_⟩ = false := by unfold touV; rw [e1]; rfl
    rw [e1, e2] at hI
    have HI := Lib.hid hI
    have GA := Lib.hid (good_of_c _ _ _ ga)
    have GB := Lib.hid (good_of_c _ _ _ gb)
    clear hI e1 e2 ga gb hp
    go_enter Try.func9, Try.ntmps9
    go_wp2_with (first | (go_at_call 19; refine Calls.mono (awake_c _) ?_; rintro e w1 ⟨rfl, hb⟩; have hc := hb.ccell; have hf := hb.frz; have hs := hb.sz; (try simp at hs); (try have hs0 := hs w.heap.size (by omega)); (try have hs1 := hs (w.heap.size + 1) (by omega)); (try have hs2 := hs (w.heap.size + 1 + 1) (by omega)); (try have hs3 := hs (w.heap.size + 1 + 1 + 1) (by omega))) | (go_at_call 48; with_reducible refine Calls.mono (HI.out _ (by (repeat (first | with_reducible exact Ext.rfl' _ | with_reducible assumption | with_reducible refine Ext.al ?_ _ | with_reducible refine Ext.dr ?_ | with_reducible refine Ext.st ?_ (by simp) _ | with_reducible refine Ext.tr ?_ (by assumption))))) ?_; rintro e w1 ⟨rfl, hb⟩; have hc := hb.ccell; have hf := hb.frz; have hs := hb.sz; (try simp at hs); (try have hs0 := hs w.heap.size (by omega)); (try have hs1 := hs (w.heap.size + 1) (by omega)); (try have hs2 := hs (w.heap.size + 1 + 1) (by omega)); (try have hs3 := hs (w.heap.size + 1 + 1 + 1) (by omega))) | (go_at_call 41; with_reducible refine Calls.mono (HR.out _ (by (repeat (first | with_reducible exact Ext.rfl' _ | with_reducible assumption | with_reducible refine Ext.al ?_ _ | with_reducible refine Ext.dr ?_ | with_reducible refine Ext.st ?_ (by simp) _ | with_reducible refine Ext.tr ?_ (by assumption))))) ?_; rintro e w1 ⟨rfl, hb⟩; have hc := hb.ccell; have hf := hb.frz; have hs := hb.sz; (try simp at hs); (try have hs0 := hs w.heap.size (by omega)); (try have hs1 := hs (w.heap.size + 1) (by omega)); (try have hs2 := hs (w.heap.size + 1 + 1) (by omega)); (try have hs3 := hs (w.heap.size + 1 + 1 + 1) (by omega))) | (go_at_call 24; with_reducible refine Calls.mono (GA.out _) ?_; rintro e w1 ⟨rfl, hb⟩; have hc := hb.ccell; have hf := hb.frz; have hs := hb.sz; (try simp at hs); (try have hs0 := hs w.heap.size (by omega)); (try have hs1 := hs (w.heap.size + 1) (by omega)); (try have hs2 := hs (w.heap.size + 1 + 1) (by omega)); (try have hs3 := hs (w.heap.size + 1 + 1 + 1) (by omega))) | (go_at_call 24; with_reducible refine Calls.mono (GB.out _) ?_; rintro e w1 ⟨rfl, hb⟩; have hc := hb.ccell; have hf := hb.frz; have hs := hb.sz; (try simp at hs); (try have hs0 := hs w.heap.size (by omega)); (try have hs1 := hs (w.heap.size + 1) (by omega)); (try have hs2 := hs (w.heap.size + 1 + 1) (by omega)); (try have hs3 := hs (w.heap.size + 1 + 1 + 1) (by omega))))
    go_ret
    exact ⟨rfl, by (repeat (first | with_reducible exact Ext.rfl' _ | with_reducible assumption | with_reducible refine Ext.al ?_ _ | with_reducible refine Ext.dr ?_ | with_reducible refine Ext.st ?_ (by simp) _ | with_reducible refine Ext.tr ?_ (by assumption)))⟩
  have GA := Lib.hid (good_of_c _ _ _ ga)
  have GB := Lib.hid (good_of_c _ _ _ gb)
  by_cases hx : ax ≤ bx
  case neg =>
    have e1 : touE l ⟨ax, ay⟩ ⟨bx, by_⟩ = 9 := by unfold touE; rw [if_neg (by rw [hp]; simp), if_neg (by rw [ga, gb]; decide), if_pos (by simp only; omega)]
    have e2 : touV l ⟨ax, ay⟩ ⟨bx, by_⟩ = false := by unfold touV; rw [e1]; rfl
    rw [e1, e2] at hI
    have HI := Lib.hid hI
    clear hI e1 e2 ga gb hp
    go_enter Try.func9, Try.ntmps9
    go_wp2_with (first | (go_at_call 19; refine Calls.mono (awake_c _) ?_; rintro e w1 ⟨rfl, hb⟩; have hc := hb.ccell; have hf := hb.frz; have hs := hb.sz; (try simp at hs); (try have hs0 := hs w.heap.size (by omega)); (try have hs1 := hs (w.heap.size + 1) (by omega)); (try have hs2 := hs (w.heap.size + 1 + 1) (by omega)); (try have hs3 := hs (w.heap.size + 1 + 1 + 1) (by omega))) | (go_at_call 48; with_reducible refine Calls.mono (HI.out _ (by (repeat (first | with_reducible exact Ext.rfl' _ | with_reducible assumption | with_reducible refine Ext.al ?_ _ | with_reducible refine Ext.dr ?_ | with_reducible refine Ext.st ?_ (by simp) _ | with_reducible refine Ext.tr ?_ (by assumption))))) ?_; rintro e w1 ⟨rfl, hb⟩; have hc := hb.ccell; have hf := hb.frz; have hs := hb.sz; (try simp at hs); (try have hs0 := hs w.heap.size (by omega)); (try have hs1 := hs (w.heap.size + 1) (by omega)); (try have hs2 := hs (w.heap.size + 1 + 1) (by omega)); (try have hs3 := hs (w.heap.size + 1 + 1 + 1) (by omega))) | (go_at_call 41; with_reducible refine Calls.mono (HR.out _ (by (repeat (first | with_reducible exact Ext.rfl' _ | with_reducible assumption | with_reducible refine Ext.al ?_ _ | with_reducible refine Ext.dr ?_ | with_reducible refine Ext.st ?_ (by simp) _ | with_reducible refine Ext.tr ?_ (by assumption))))) ?_; rintro e w1 ⟨rfl, hb⟩; have hc := hb.ccell; have hf := hb.frz; have hs := hb.sz; (try simp at hs); (try have hs0 := hs w.heap.size (by omega)); (try have hs1 := hs (w.heap.size + 1) (by omega)); (try have hs2 := hs (w.heap.size + 1 + 1) (by omega)); (try have hs3 := hs (w.heap.size + 1 + 1 + 1) (by omega))) | (go_at_call 24; with_reducible refine Calls.mono (GA.out _) ?_; rintro e w1 ⟨rfl, hb⟩; have hc := hb.ccell; have hf := hb.frz; have hs := hb.sz; (try simp at hs); (try have hs0 := hs w.heap.size (by omega)); (try have hs1 := hs (w.heap.size + 1) (by omega)); (try have hs2 := hs (w.heap.size + 1 + 1) (by omega)); (try have hs3 := hs (w.heap.size + 1 + 1 + 1) (by omega))) | (go_at_call 24; with_reducible refine Calls.mono (GB.out _) ?_; rintro e w1 ⟨rfl, hb⟩; have hc := hb.ccell; have hf := hb.frz; have hs := hb.sz; (try simp at hs); (try have hs0 := hs w.heap.size (by omega)); (try have hs1 := hs (w.heap.size + 1) (by omega)); (try have hs2 := hs (w.heap.size + 1 + 1) (by omega)); (try have hs3 := hs (w.heap.size + 1 + 1 + 1) (by omega))))
    go_ret
    exact ⟨rfl, by (repeat (first | with_reducible exact Ext.rfl' _ | with_reducible assumption | with_reducible refine Ext.al ?_ _ | with_reducible refine Ext.dr ?_ | with_reducible refine Ext.st ?_ (by simp) _ | with_reducible refine Ext.tr ?_ (by assumption)))⟩
  by_cases hy : ay ≤ by_
  case neg =>
    have e1 : touE l ⟨ax, ay⟩ ⟨bx, by_⟩ = 9 := by unfold touE; rw [if_neg (by rw [hp]; simp), if_neg (by rw [ga, gb]; decide), if_pos (by simp only; omega)]
    have e2 : touV l ⟨ax, ay⟩ ⟨bx, by_⟩ = false := by unfold touV; rw [e1]; rfl
    rw [e1, e2] at hI
    have HI := Lib.hid hI
    clear hI e1 e2 ga gb hp
    go_enter Try.func9, Try.ntmps9
    go_wp2_with (first | (go_at_call 19; refine Calls.mono (awake_c _) ?_; rintro e w1 ⟨rfl, hb⟩; have hc := hb.ccell; have hf := hb.frz; have hs := hb.sz; (try simp at hs); (try have hs0 := hs w.heap.size (by omega)); (try have hs1 := hs (w.heap.size + 1) (by omega)); (try have hs2 := hs (w.heap.size + 1 + 1) (by omega)); (try have hs3 := hs (w.heap.size + 1 + 1 + 1) (by omega))) | (go_at_call 48; with_reducible refine Calls.mono (HI.out _ (by (repeat (first | with_reducible exact Ext.rfl' _ | with_reducible assumption | with_reducible refine Ext.al ?_ _ | with_reducible refine Ext.dr ?_ | with_reducible refine Ext.st ?_ (by simp) _ | with_reducible refine Ext.tr ?_ (by assumption))))) ?_; rintro e w1 ⟨rfl, hb⟩; have hc := hb.ccell; have hf := hb.frz; have hs := hb.sz; (try simp at hs); (try have hs0 := hs w.heap.size (by omega)); (try have hs1 := hs (w.heap.size + 1) (by omega)); (try have hs2 := hs (w.heap.size + 1 + 1) (by omega)); (try have hs3 := hs (w.heap.size + 1 + 1 + 1) (by omega))) | (go_at_call 41; with_reducible refine Calls.mono (HR.out _ (by (repeat (first | with_reducible exact Ext.rfl' _ | with_reducible assumption | with_reducible refine Ext.al ?_ _ | with_reducible refine Ext.dr ?_ | with_reducible refine Ext.st ?_ (by simp) _ | with_reducible refine Ext.tr ?_ (by assumption))))) ?_; rintro e w1 ⟨rfl, hb⟩; have hc := hb.ccell; have hf := hb.frz; have hs := hb.sz; (try simp at hs); (try have hs0 := hs w.heap.size (by omega)); (try have hs1 := hs (w.heap.size + 1) (by omega)); (try have hs2 := hs (w.heap.size + 1 + 1) (by omega)); (try have hs3 := hs (w.heap.size + 1 + 1 + 1) (by omega))) | (go_at_call 24; with_reducible refine Calls.mono (GA.out _) ?_; rintro e w1 ⟨rfl, hb⟩; have hc := hb.ccell; have hf := hb.frz; have hs := hb.sz; (try simp at hs); (try have hs0 := hs w.heap.size (by omega)); (try have hs1 := hs (w.heap.size + 1) (by omega)); (try have hs2 := hs (w.heap.size + 1 + 1) (by omega)); (try have hs3 := hs (w.heap.size + 1 + 1 + 1) (by omega))) | (go_at_call 24; with_reducible refine Calls.mono (GB.out _) ?_; rintro e w1 ⟨rfl, hb⟩; have hc := hb.ccell; have hf := hb.frz; have hs := hb.sz; (try simp at hs); (try have hs0 := hs w.heap.size (by omega)); (try have hs1 := hs (w.heap.size + 1) (by omega)); (try have hs2 := hs (w.heap.size + 1 + 1) (by omega)); (try have hs3 := hs (w.heap.size + 1 + 1 + 1) (by omega))))
    go_ret
    exact ⟨rfl, by (repeat (first | with_reducible exact Ext.rfl' _ | with_reducible assumption | with_reducible refine Ext.al ?_ _ | with_reducible refine Ext.dr ?_ | with_reducible refine Ext.st ?_ (by simp) _ | with_reducible refine Ext.tr ?_ (by assumption)))⟩
  have e1 : touE l ⟨ax, ay⟩ ⟨bx, by_⟩ = 0 := by unfold touE; rw [if_neg (by rw [hp]; simp), if_neg (by rw [ga, gb]; decide), if_neg (by simp only; omega)]
  have e2 : touV l ⟨ax, ay⟩ ⟨bx, by_⟩ = touL l ⟨ax, ay⟩ ⟨bx, by_⟩ := by unfold touV; rw [e1]; rfl
  obtain ⟨g1, g2, g3, g4⟩ := polyE_zero hp
  have HRT := Lib.hid (fun w' (hw : Ext w w') => rtouches_c l ax ay bx by_ w' A c (by omega) hl' (hA.ext hw))
  rw [tou_same g3 ga gb hx hy] at HRT
  rw [e1, e2] at hI
  have HI := Lib.hid hI
  clear hI e1 e2 ga gb hp g3 g4
  generalize touL l ⟨ax, ay⟩ ⟨bx, by_⟩ = v at *
  go_enter Try.func9, Try.ntmps9
  go_wp2_with (first | (go_at_call 19; refine Calls.mono (awake_c _) ?_; rintro e w1 ⟨rfl, hb⟩; have hc := hb.ccell; have hf := hb.frz; have hs := hb.sz; (try simp at hs); (try have hs0 := hs w.heap.size (by omega)); (try have hs1 := hs (w.heap.size + 1) (by omega)); (try have hs2 := hs (w.heap.size + 1 + 1) (by omega)); (try have hs3 := hs (w.heap.size + 1 + 1 + 1) (by omega))) | (go_at_call 48; with_reducible refine Calls.mono (HI.out _ (by (repeat (first | with_reducible exact Ext.rfl' _ | with_reducible assumption | with_reducible refine Ext.al ?_ _ | with_reducible refine Ext.dr ?_ | with_reducible refine Ext.st ?_ (by simp) _ | with_reducible refine Ext.tr ?_ (by assumption))))) ?_; rintro e w1 ⟨rfl, hb⟩; have hc := hb.ccell; have hf := hb.frz; have hs := hb.sz; (try simp at hs); (try have hs0 := hs w.heap.size (by omega)); (try have hs1 := hs (w.heap.size + 1) (by omega)); (try have hs2 := hs (w.heap.size + 1 + 1) (by omega)); (try have hs3 := hs (w.heap.size + 1 + 1 + 1) (by omega))) | (go_at_call 41; with_reducible refine Calls.mono (HR.out _ (by (repeat (first | with_reducible exact Ext.rfl' _ | with_reducible assumption | with_reducible refine Ext.al ?_ _ | with_reducible refine Ext.dr ?_ | with_reducible refine Ext.st ?_ (by simp) _ | with_reducible refine Ext.tr ?_ (by assumption))))) ?_; rintro e w1 ⟨rfl, hb⟩; have hc := hb.ccell; have hf := hb.frz; have hs := hb.sz; (try simp at hs); (try have hs0 := hs w.heap.size (by omega)); (try have hs1 := hs (w.heap.size + 1) (by omega)); (try have hs2 := hs (w.heap.size + 1 + 1) (by omega)); (try have hs3 := hs (w.heap.size + 1 + 1 + 1) (by omega))) | (go_at_call 24; with_reducible refine Calls.mono (GA.out _) ?_; rintro e w1 ⟨rfl, hb⟩; have hc := hb.ccell; have hf := hb.frz; have hs := hb.sz; (try simp at hs); (try have hs0 := hs w.heap.size (by omega)); (try have hs1 := hs (w.heap.size + 1) (by omega)); (try have hs2 := hs (w.heap.size + 1 + 1) (by omega)); (try have hs3 := hs (w.heap.size + 1 + 1 + 1) (by omega))) | (go_at_call 24; with_reducible refine Calls.mono (GB.out _) ?_; rintro e w1 ⟨rfl, hb⟩; have hc := hb.ccell; have hf := hb.frz; have hs := hb.sz; (try simp at hs); (try have hs0 := hs w.heap.size (by omega)); (try have hs1 := hs (w.heap.size + 1) (by omega)); (try have hs2 := hs (w.heap.size + 1 + 1) (by omega)); (try have hs3 := hs (w.heap.size + 1 + 1 + 1) (by omega))) | (go_at_call 49; with_reducible refine Calls.mono (HRT.out _ (by (repeat (first | with_reducible exact Ext.rfl' _ | with_reducible assumption | with_reducible refine Ext.al ?_ _ | with_reducible refine Ext.dr ?_ | with_reducible refine Ext.st ?_ (by simp) _ | with_reducible refine Ext.tr ?_ (by assumption))))) ?_; rintro e w1 ⟨rfl, hb⟩; have hc := hb.ccell; have hf := hb.frz; have hs := hb.sz; (try simp at hs); (try have hs0 := hs w.heap.size (by omega)); (try have hs1 := hs (w.heap.size + 1) (by omega)); (try have hs2 := hs (w.heap.size + 1 + 1) (by omega)); (try have hs3 := hs (w.heap.size + 1 + 1 + 1) (by omega))))
  go_ret
  exact ⟨by simp, by (repeat (first | with_reducible exact Ext.rfl' _ | with_reducible assumption | with_reducible refine Ext.al ?_ _ | with_reducible refine Ext.dr ?_ | with_reducible refine Ext.st ?_ (by simp) _ | with_reducible refine Ext.tr ?_ (by assumption)))⟩
end Go.Proofs.Ytcdbekmcobghbaa

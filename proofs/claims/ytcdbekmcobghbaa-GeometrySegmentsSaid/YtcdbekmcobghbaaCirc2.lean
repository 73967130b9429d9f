/- Circles: what the law's cases say. -/
import Derived.Test.YtcdbekmcobghbaaCirc
import Derived.Test.YtcdbekmcobghbaaAwake
namespace Go.Proofs.Ytcdbekmcobghbaa
open Go Go.RowKit Go.IntWalk

theorem near_iff (p q : Pt) (hp : good p = true) (hq : good q = true) : nearR p q = true ↔ closeTo p q = true := by
  rw [close_iff _ _ hp hq]
  rw [good_iff] at hp hq
  unfold nearR absW
  rw [wrap64_in (p.x - q.x) (by omega), wrap64_in (p.y - q.y) (by omega)]
  simp only [Bool.and_eq_true, decide_eq_true_eq]
  constructor
  · rintro ⟨h1, h2⟩
    split at h1 <;> split at h2 <;> (try rw [wrap64_in _ (by omega)] at h1) <;> (try rw [wrap64_in _ (by omega)] at h2) <;> omega
  · rintro ⟨h1, h2⟩
    constructor <;> split <;> (try rw [wrap64_in _ (by omega)]) <;> omega
theorem close_symm {p q : Pt} (hp : good p = true) (hq : good q = true) (h : closeTo p q = true) : closeTo q p = true := by
  rw [close_iff _ _ hp hq] at h
  rw [close_iff _ _ hq hp]
  omega
theorem close_refl {p : Pt} (hp : good p = true) : closeTo p p = true := by
  rw [close_iff _ _ hp hp]; omega
theorem closeR_eq (l : List Pt) (hg : allGood l = true) : closeR l = closeB l := by
  have g : ∀ i (hi : i < l.length), good l[i] = true := fun i hi => by
    unfold allGood at hg
    rw [List.all_eq_true] at hg
    exact hg _ (List.getElem_mem hi)
  rw [Bool.eq_iff_iff]
  unfold closeR closeB
  simp only [decide_eq_true_eq]
  constructor
  · intro h
    rw [List.all_eq_true]
    intro a ha
    rw [List.all_eq_true]
    intro b hb
    obtain ⟨i, hi, rfl⟩ := List.getElem_of_mem ha
    obtain ⟨j, hj, rfl⟩ := List.getElem_of_mem hb
    rcases Nat.lt_trichotomy j i with hlt | rfl | hlt
    · exact (near_iff _ _ (g i hi) (g j hj)).1 (h i j hi hlt hi)
    · exact close_refl (g j hj)
    · exact close_symm (g j hj) (g i hi) ((near_iff _ _ (g j hj) (g i hi)).1 (h j i hj hlt hj))
  · intro h i j hi hj _
    rw [List.all_eq_true] at h
    have h1 := h l[i] (List.getElem_mem hi)
    rw [List.all_eq_true] at h1
    exact (near_iff _ _ (g i hi) (g j (by omega))).2 (h1 _ (List.getElem_mem (by omega)))

theorem allGood_four (a b c d : Pt) : allGood [a, b, c, d] = (good a && (good b && (good c && good d))) := by simp [allGood]
theorem closeB_last {a b c d : Pt} (h : closeB [a, b, c, d] = true) : closeTo a d = true ∧ closeTo b d = true ∧ closeTo c d = true := by
  simp [closeB] at h
  exact ⟨h.1.2.2.2, h.2.1.2.2.2, h.2.2.1.2.2.2⟩
theorem closeB_swap {a b c d : Pt} (h : closeB [a, b, c, d] = true) : closeB [b, a, c, d] = true := by
  simp [closeB] at h ⊢
  simp [h]

theorem ic_bad (a b c d : Pt) (h : allGood [a, b, c, d] = false) : icV a b c d = 0 ∧ icE a b c d = 2 := by simp [icV, icE, h]
theorem ic_far (a b c d : Pt) (h : allGood [a, b, c, d] = true) (h2 : closeB [a, b, c, d] = false) : icV a b c d = 0 ∧ icE a b c d = 8 := by simp [icV, icE, h, h2]
theorem ic_flat (a b c d : Pt) (h : allGood [a, b, c, d] = true) (h2 : closeB [a, b, c, d] = true) (h3 : cmpI (crossW a b c) 0 = 0) : icV a b c d = 0 ∧ icE a b c d = 10 := by simp [icV, icE, h, h2, h3]
theorem ic_true (a b c d : Pt) (h : allGood [a, b, c, d] = true) (h2 : closeB [a, b, c, d] = true) (h3 : cmpI (crossW a b c) 0 ≠ 0) :
    icV a b c d = wrap64 (cmpI (detW a b c d) 0 * cmpI (crossW a b c) 0) ∧ icE a b c d = 0 ∧ icV b a c d = icV a b c d ∧ icE b a c d = 0 := by
  have hg := h
  rw [allGood_four] at hg
  simp only [Bool.and_eq_true] at hg
  obtain ⟨ga, gb, gc, gd⟩ := hg
  have h' : allGood [b, a, c, d] = true := by rw [allGood_four, ga, gb, gc, gd]; rfl
  obtain ⟨c1, c2, c3⟩ := closeB_last h2
  obtain ⟨s1, s2⟩ := side_swap ga gb gc gd c1 c2 c3
  have h4 : cmpI (crossW b a c) 0 ≠ 0 := by omega
  have e : ∀ x y : Int, -x * -y = x * y := fun x y => by grind
  refine ⟨?_, ?_, ?_, ?_⟩
  · simp [icV, h, h2, h3, sideP, det_side, Int.mul_comm]
  · simp [icE, h, h2, h3]
  · simp only [icV, h, h', h2, closeB_swap h2, Bool.and_self, Bool.true_and]
    rw [show (cmpI (crossW b a c) 0 == 0) = false by simp [h4], show (cmpI (crossW a b c) 0 == 0) = false by simp [h3], s1, s2, e]
  · simp [icE, h', closeB_swap h2, h4]
end Go.Proofs.Ytcdbekmcobghbaa

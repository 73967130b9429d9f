/- A polygon turned round and begun elsewhere: what is wrong with it, and its area, stay. Nothing of the program's run. -/
import Derived.Test.YtcdbekmcobghbaaNear
namespace Go.Proofs.Ytcdbekmcobghbaa
open Go Go.RowKit Go.IntWalk

theorem cor_eq {l : List Pt} {i j : Nat} (h : i % l.length = j % l.length) : cor l i = cor l j := by unfold cor; rw [h]
/-- Two edges that are neither the same nor neighbours. -/
def far (n i j : Nat) : Prop := i % n ≠ j % n ∧ (i + 1) % n ≠ j % n ∧ (j + 1) % n ≠ i % n
def NoFold (l : List Pt) : Prop := ∀ i, foldG betweenG (cor l i) (cor l (i + 1)) (cor l (i + 1)) (cor l (i + 2)) = false
def NoMeet (l : List Pt) : Prop := ∀ i j, far l.length i j → meetG (cor l i) (cor l (i + 1)) (cor l j) (cor l (j + 1)) = false
theorem meet_swap {a b c d : Pt} (ha : good a = true) (hb : good b = true) (hc : good c = true) (hd : good d = true) : meetG c d a b = meetG a b c d := by
  rw [Bool.eq_iff_iff, meetG_iff hc hd ha hb, meetG_iff ha hb hc hd, ovl_comm]
  exact ⟨fun ⟨h1, h2, h3⟩ => ⟨h1, h3, h2⟩, fun ⟨h1, h2, h3⟩ => ⟨h1, h3, h2⟩⟩
theorem meet_rev {a b c d : Pt} (ha : good a = true) (hb : good b = true) (hc : good c = true) (hd : good d = true) : meetG b a d c = meetG a b c d := by
  rw [meetG_turn hc hd hb ha, meetG_turn ha hb hc hd]
theorem succ_mod (i n : Nat) : (i % n + 1) % n = (i + 1) % n := by rw [Nat.mod_add_mod]
theorem sides_no {l : List Pt} (hn : 3 ≤ l.length) (hg : allGood l = true) (h : sidesG meetG betweenG l = false) : NoFold l ∧ NoMeet l := by
  unfold sidesG at h
  rw [anyN_no] at h
  have hc : ∀ j i, j < i → i < l.length → clashG meetG betweenG l j i = false := fun j i hj hi => (anyN_no _ _).1 (h i hi) j hj
  have hlt : ∀ i, i % l.length < l.length := fun i => Nat.mod_lt _ (by omega)
  constructor
  · intro i
    have e0 : cor l i = cor l (i % l.length) := cor_eq (by rw [Nat.mod_mod])
    have e1 : cor l (i + 1) = cor l (i % l.length + 1) := cor_eq (by rw [succ_mod])
    have e2 : cor l (i + 2) = cor l (i % l.length + 2) := cor_eq (by rw [Nat.mod_add_mod])
    rw [e0, e1, e2]
    have hi := hlt i
    generalize i % l.length = k at *
    by_cases hk : k + 1 < l.length
    · have := hc k (k + 1) (by omega) hk
      unfold clashG at this
      rw [if_pos rfl] at this
      exact this
    · have := hc 0 k (by omega) hi
      unfold clashG at this
      rw [if_neg (by omega), if_pos ⟨rfl, by omega⟩] at this
      have a1 : cor l 0 = cor l (k + 1) := by rw [show k + 1 = l.length by omega, cor_len]
      have a2 : cor l (0 + 1) = cor l (k + 2) := by rw [show k + 2 = 0 + 1 + l.length by omega, cor_add]
      rw [a1, a2] at this
      exact this
  · intro i j ⟨f1, f2, f3⟩
    have e0 : cor l i = cor l (i % l.length) := cor_eq (by rw [Nat.mod_mod])
    have e1 : cor l (i + 1) = cor l (i % l.length + 1) := cor_eq (by rw [succ_mod])
    have e2 : cor l j = cor l (j % l.length) := cor_eq (by rw [Nat.mod_mod])
    have e3 : cor l (j + 1) = cor l (j % l.length + 1) := cor_eq (by rw [succ_mod])
    rw [e0, e1, e2, e3]
    rw [← succ_mod] at f2 f3
    have hi := hlt i
    have hj := hlt j
    generalize i % l.length = a at *
    generalize j % l.length = b at *
    have key : ∀ a b, a < b → b < l.length → (a + 1) % l.length ≠ b → (b + 1) % l.length ≠ a → meetG (cor l a) (cor l (a + 1)) (cor l b) (cor l (b + 1)) = false := by
      intro a b hab hb n1 n2
      have := hc a b hab hb
      unfold clashG at this
      rw [if_neg (by intro e; apply n1; rw [← e]; exact Nat.mod_eq_of_lt (by omega)), if_neg (by rintro ⟨rfl, e⟩; apply n2; rw [e, Nat.mod_self])] at this
      exact this
    rcases Nat.lt_or_gt_of_ne f1 with hab | hab
    · exact key a b hab hj f2 f3
    · rw [← meet_swap (cor_good hg _) (cor_good hg _) (cor_good hg _) (cor_good hg _)]
      exact key b a hab hi f3 f2
theorem no_sides {l : List Pt} (h1 : NoFold l) (h2 : NoMeet l) : sidesG meetG betweenG l = false := by
  unfold sidesG
  rw [anyN_no]
  intro i hi
  rw [anyN_no]
  intro j hj
  unfold clashG
  split
  · rename_i e; subst e; exact h1 j
  · rename_i e
    split
    · rename_i e2
      obtain ⟨rfl, e2⟩ := e2
      have a1 : cor l 0 = cor l (i + 1) := by rw [e2, cor_len]
      have a2 : cor l (0 + 1) = cor l (i + 2) := by rw [show i + 2 = 0 + 1 + l.length by omega, cor_add]
      rw [a1, a2]
      exact h1 i
    · rename_i e2
      refine h2 j i ⟨?_, ?_, ?_⟩
      · rw [Nat.mod_eq_of_lt (by omega), Nat.mod_eq_of_lt hi]; omega
      · rw [Nat.mod_eq_of_lt (by omega), Nat.mod_eq_of_lt hi]; omega
      · rw [Nat.mod_eq_of_lt (show j < l.length by omega)]
        by_cases h : i + 1 = l.length
        · rw [h, Nat.mod_self]; intro h0; exact e2 ⟨h0.symm, h⟩
        · rw [Nat.mod_eq_of_lt (by omega)]; omega

/-- The corners turned round, begun k further on. -/
def turnL (l : List Pt) (k : Nat) : List Pt := (List.range l.length).map (fun j => cor l (l.length - 1 - j + k))
theorem turn_len (l : List Pt) (k : Nat) : (turnL l k).length = l.length := by simp [turnL]
theorem mod_cancel {a b j n : Nat} (h : (a + j) % n = (b + j) % n) : a % n = b % n := by
  have h' : ((a : Int) + j) % n = ((b : Int) + j) % n := by exact_mod_cast congrArg (fun x : Nat => (x : Int)) h
  rw [Int.emod_add_cancel_right] at h'
  exact_mod_cast h'
theorem turn_cor (l : List Pt) (k j s : Nat) (hn : 0 < l.length) (h : (s + j) % l.length = (l.length - 1 + k) % l.length) : cor (turnL l k) j = cor l s := by
  have hj : j % l.length < l.length := Nat.mod_lt _ hn
  have e : cor (turnL l k) j = cor l (l.length - 1 - j % l.length + k) := by
    rw [show cor (turnL l k) j = cor (turnL l k) (j % l.length) from cor_eq (by rw [turn_len, Nat.mod_mod]), cor_lt _ _ (by rw [turn_len]; exact hj)]
    simp [turnL]
  rw [e]
  refine cor_eq (mod_cancel (j := j % l.length) ?_)
  rw [show l.length - 1 - j % l.length + k + j % l.length = l.length - 1 + k by omega, ← h, Nat.add_mod_mod]
theorem turn_some (l : List Pt) (k j : Nat) (hn : 0 < l.length) : ∃ s, (s + j) % l.length = (l.length - 1 + k) % l.length := by
  refine ⟨l.length - 1 + k + j * (l.length - 1), ?_⟩
  have e : j * (l.length - 1) + j = j * l.length := by
    obtain ⟨m, hm⟩ : ∃ m, l.length = m + 1 := ⟨l.length - 1, by omega⟩
    rw [hm, Nat.add_sub_cancel, Nat.mul_succ]
  rw [Nat.add_assoc, e, Nat.add_mul_mod_self_right]
theorem fold_rev {a b c : Pt} (ha : good a = true) (hb : good b = true) (hc : good c = true) : foldG betweenG c b b a = foldG betweenG a b b c := by
  unfold foldG
  rw [Bool.eq_iff_iff, Bool.or_eq_true, Bool.or_eq_true, betG_iff hc hb ha, betG_iff hb ha hc, betG_iff ha hb hc, betG_iff hb hc ha, bet_end (a := c), bet_end (a := b) (b := a)]
  exact Or.comm
theorem turn_good {l : List Pt} (k : Nat) (hg : allGood l = true) : allGood (turnL l k) = true := by
  unfold allGood turnL
  rw [List.all_map, List.all_eq_true]
  intro j _
  exact cor_good hg _
theorem turn_ok {l : List Pt} (k : Nat) (h : polyE l = 0) : polyE (turnL l k) = 0 := by
  obtain ⟨h1, h2, h3, h4⟩ := polyE_zero h
  obtain ⟨hF, hM⟩ := sides_no h1 h3 h4
  have hn : 0 < l.length := by omega
  have hs : sidesG meetG betweenG (turnL l k) = false := by
    apply no_sides
    · intro j
      obtain ⟨s, hs⟩ := turn_some l k (j + 2) hn
      rw [turn_cor l k (j + 2) s hn hs, turn_cor l k (j + 1) (s + 1) hn (by rw [← hs]; congr 1; omega), turn_cor l k j (s + 2) hn (by rw [← hs]; congr 1; omega), fold_rev (cor_good h3 _) (cor_good h3 _) (cor_good h3 _)]
      exact hF s
    · intro i j ⟨f1, f2, f3⟩
      rw [turn_len] at f1 f2 f3
      obtain ⟨s, hs⟩ := turn_some l k (i + 1) hn
      obtain ⟨t, ht⟩ := turn_some l k (j + 1) hn
      rw [turn_cor l k (i + 1) s hn hs, turn_cor l k i (s + 1) hn (by rw [← hs]; congr 1; omega), turn_cor l k (j + 1) t hn ht, turn_cor l k j (t + 1) hn (by rw [← ht]; congr 1; omega), meet_rev (cor_good h3 _) (cor_good h3 _) (cor_good h3 _) (cor_good h3 _)]
      have hst : (s + (i + 1)) % l.length = (t + (j + 1)) % l.length := hs.trans ht.symm
      refine hM s t ⟨?_, ?_, ?_⟩
      · intro e
        apply f1
        refine mod_cancel (j := 1 + s) ?_
        rw [show i + (1 + s) = s + (i + 1) by omega, hst, show j + (1 + s) = s + (j + 1) by omega, ← Nat.mod_add_mod, ← e, Nat.mod_add_mod]
      · intro e
        apply f3
        refine mod_cancel (j := s + 1) ?_
        rw [show j + 1 + (s + 1) = s + 1 + (j + 1) by omega, ← Nat.mod_add_mod, e, Nat.mod_add_mod, show i + (s + 1) = s + (i + 1) by omega, hst]
      · intro e
        apply f2
        refine mod_cancel (j := t + 1) ?_
        rw [show i + 1 + (t + 1) = t + 1 + (i + 1) by omega, ← Nat.mod_add_mod, e, Nat.mod_add_mod, hst, show j + (t + 1) = t + (j + 1) by omega]
  unfold polyE
  rw [turn_len, if_neg (by omega), if_neg (by omega), turn_good k h3, if_neg (by decide), hs]
  rfl

/-! ### Areas -/
def O : Pt := ⟨0, 0⟩
theorem goodO : good O = true := by decide
def areaZ (l : List Pt) : Int := sumN (fun i => crossZ O (cor l i) (cor l (i + 1))) l.length
theorem sumN_shift {g : Nat → Int} {n : Nat} (hp : ∀ i, g (i + n) = g i) : ∀ a, sumN (fun i => g (a + i)) n = sumN g n
  | 0 => sumN_congr n (fun i _ => by rw [Nat.zero_add])
  | a + 1 => by
    rw [← sumN_shift hp a]
    have h1 := sumN_first (fun i => g (a + i)) n
    have h2 : sumN (fun i => g (a + i)) (n + 1) = sumN (fun i => g (a + i)) n + g (a + n) := rfl
    have h3 : sumN (fun i => g (a + (i + 1))) n = sumN (fun i => g (a + 1 + i)) n := sumN_congr n (fun i _ => by rw [show a + (i + 1) = a + 1 + i by omega])
    rw [hp a] at h2
    simp only [Nat.add_zero] at h1
    omega
theorem cross_O (a b : Pt) : crossZ O b a = -crossZ O a b := by unfold crossZ O; grind
theorem turn_area {l : List Pt} (k : Nat) (hn : 0 < l.length) : areaZ (turnL l k) = -areaZ l := by
  unfold areaZ
  rw [turn_len]
  have hp : ∀ i, (fun i => crossZ O (cor l i) (cor l (i + 1))) (i + l.length) = (fun i => crossZ O (cor l i) (cor l (i + 1))) i := by
    intro i
    simp only
    rw [cor_add, show i + l.length + 1 = i + 1 + l.length by omega, cor_add]
  have h1 := sumN_shift (g := fun i => crossZ O (cor l i) (cor l (i + 1))) hp (l.length + k - 1)
  have h2 := sumN_rev (fun i => (fun i => crossZ O (cor l i) (cor l (i + 1))) (l.length + k - 1 + i)) l.length
  rw [← h1, ← h2, ← sumN_neg]
  refine sumN_congr _ (fun j hj => ?_)
  simp only
  rw [← cross_O]
  have hm : ∀ s, s + j = 2 * l.length - 1 + k → cor (turnL l k) j = cor l s := fun s hs => turn_cor l k j s hn (by rw [hs, show 2 * l.length - 1 + k = l.length - 1 + k + l.length by omega, Nat.add_mod_right])
  have hm1 : ∀ s, s + (j + 1) = 2 * l.length - 1 + k → cor (turnL l k) (j + 1) = cor l s := fun s hs => turn_cor l k (j + 1) s hn (by rw [hs, show 2 * l.length - 1 + k = l.length - 1 + k + l.length by omega, Nat.add_mod_right])
  rw [hm (l.length + k - 1 + (l.length - 1 - j) + 1) (by omega), hm1 (l.length + k - 1 + (l.length - 1 - j)) (by omega)]
/-- The reference's sum goes from the first corner. -/
theorem area_first (l : List Pt) : sumN (fun i => crossZ (cor l 0) (cor l i) (cor l (i + 1))) l.length = areaZ l := by
  unfold areaZ
  have h : ∀ i, crossZ (cor l 0) (cor l i) (cor l (i + 1)) = crossZ O (cor l i) (cor l (i + 1)) + (crossZ O (cor l 0) (cor l i) - crossZ O (cor l 0) (cor l (i + 1))) := by
    intro i; unfold crossZ O; grind
  rw [sumN_congr _ (fun i _ => h i), sumN_add]
  have h2 := sumN_tele (fun i => -crossZ O (cor l 0) (cor l i)) l.length
  have h3 : sumN (fun i => -crossZ O (cor l 0) (cor l (i + 1)) - -crossZ O (cor l 0) (cor l i)) l.length = sumN (fun i => crossZ O (cor l 0) (cor l i) - crossZ O (cor l 0) (cor l (i + 1))) l.length := sumN_congr _ (fun i _ => by omega)
  rw [cor_len] at h2
  rw [← h3, h2]; omega
theorem area_bound {l : List Pt} (hg : allGood l = true) (k : Nat) : -(8000000000000 * (k : Int)) ≤ sumN (fun i => crossZ O (cor l i) (cor l (i + 1))) k ∧ sumN (fun i => crossZ O (cor l i) (cor l (i + 1))) k ≤ 8000000000000 * k :=
  sumN_bound k (fun _ _ => crossZ_bound goodO (cor_good hg _) (cor_good hg _))
theorem area_boundR {l : List Pt} (hg : allGood l = true) (k : Nat) : -(8000000000000 * (k : Int)) ≤ sumN (fun i => crossZ (cor l 0) (cor l i) (cor l (i + 1))) k ∧ sumN (fun i => crossZ (cor l 0) (cor l i) (cor l (i + 1))) k ≤ 8000000000000 * k :=
  sumN_bound k (fun _ _ => crossZ_bound (cor_good hg _) (cor_good hg _) (cor_good hg _))
end Go.Proofs.Ytcdbekmcobghbaa

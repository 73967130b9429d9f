/- Marks on a straight line: without them the level stays. -/
import Derived.Test.YtblmljcgjibfgaaTrshift
namespace Go.Proofs.Ytblmljcgjibfgaa
open Go Go.RowKit Go.IntWalk Go.Shelf

/-- b lies on the straight line through a and c. -/
def str3 (a b c : Pt) : Bool := decide ((b.y - a.y) * (c.x - a.x) = (c.y - a.y) * (b.x - a.x))
/-- What is kept of the marks behind p. -/
def kp : Pt → List Pt → List Pt
  | _, [] => []
  | _, [m] => [m]
  | p, m :: q :: r => if str3 p m q then kp p (q :: r) else m :: kp m (q :: r)
def simL : List Pt → List Pt
  | [] => []
  | a :: r => a :: kp a r
theorem simL_first (l : List Pt) (h : 0 < l.length) : simL l = [l[0]] ++ kp l[0] (l.drop 1) := by
  cases l with
  | nil => simp at h
  | cons a r => simp [simL]
theorem simL_k (l : List Pt) (k : Nat) (h : k < l.length) (hk : k = 0) : simL l = [] ++ [l[k]] ++ kp l[k] (l.drop (k + 1)) := by
  subst hk
  rw [simL_first l h]; rfl
theorem kp_last (p : Pt) (l : List Pt) (k : Nat) (hk : k < l.length) (h : k + 1 = l.length) : kp p (l.drop k) = [l[k]] ++ kp l[k] (l.drop (k + 1)) := by
  rw [List.drop_eq_getElem_cons hk, List.drop_of_length_le (by omega)]
  simp [kp]
theorem kp_keep (p : Pt) (l : List Pt) (k : Nat) (hk : k < l.length) (h : k + 1 < l.length) (hs : str3 p l[k] l[k + 1] = false) : kp p (l.drop k) = [l[k]] ++ kp l[k] (l.drop (k + 1)) := by
  rw [List.drop_eq_getElem_cons hk, List.drop_eq_getElem_cons h]
  rw [kp, hs]; rfl
theorem kp_drop (p : Pt) (l : List Pt) (k : Nat) (hk : k < l.length) (h : k + 1 < l.length) (hs : str3 p l[k] l[k + 1] = true) : kp p (l.drop k) = kp p (l.drop (k + 1)) := by
  rw [List.drop_eq_getElem_cons hk, List.drop_eq_getElem_cons h]
  rw [kp, hs]; rfl
theorem kp_end (p : Pt) (l : List Pt) (k : Nat) (hk : l.length ≤ k) : kp p (l.drop k) = [] := by
  rw [List.drop_of_length_le hk, kp]

theorem kp_sub : ∀ (p : Pt) (r : List Pt), (kp p r).Sublist r
  | _, [] => by rw [kp]; exact List.Sublist.refl _
  | _, [m] => by rw [kp]; exact List.Sublist.refl _
  | p, m :: q :: r => by
    rw [kp]
    split
    · exact (kp_sub p (q :: r)).cons m
    · exact (kp_sub m (q :: r)).cons_cons m
theorem simL_sub : ∀ l : List Pt, (simL l).Sublist l
  | [] => List.Sublist.refl _
  | a :: r => (kp_sub a r).cons_cons a
theorem simL_len (l : List Pt) : (simL l).length ≤ l.length := (simL_sub l).length_le
theorem good_pair {l : List Pt} (h : Good l) : l.Pairwise (fun a b => a.x < b.x) := by
  have hlt : ∀ d i, i + d + 1 < l.length → (gt l i).x < (gt l (i + d + 1)).x := by
    intro d
    induction d with
    | zero => intro i hi; exact h.asc i hi
    | succ d ih =>
      intro i hi
      have h1 := ih i (by omega)
      have h2 := h.asc (i + d + 1) (by omega)
      rw [show i + (d + 1) + 1 = i + d + 1 + 1 by omega]
      omega
  rw [List.pairwise_iff_getElem]
  intro i j hi hj hij
  have := hlt (j - i - 1) i (by omega)
  rw [show i + (j - i - 1) + 1 = j by omega, gt_lt l i hi, gt_lt l j hj] at this
  exact this
theorem good_of {l : List Pt} (h0 : l.length ≤ 400) (h1 : ∀ p ∈ l, okM p = true) (h2 : l.Pairwise (fun a b => a.x < b.x)) : Good l := by
  refine ⟨h0, fun i hi => ?_, fun i hi => ?_⟩
  · rw [gt_lt l i hi]; exact h1 _ (List.getElem_mem hi)
  · rw [gt_lt l i (by omega), gt_lt l (i + 1) hi]
    exact (List.pairwise_iff_getElem.1 h2) i (i + 1) (by omega) hi (by omega)
theorem good_mem {l : List Pt} (h : Good l) : ∀ p ∈ l, okM p = true := by
  intro p hp
  obtain ⟨i, hi, rfl⟩ := List.mem_iff_getElem.1 hp
  have := h.ok i hi
  rw [gt_lt l i hi] at this
  exact this
theorem good_sub {l L : List Pt} (h : Good l) (hs : L.Sublist l) : Good L :=
  good_of (Nat.le_trans hs.length_le h.len) (fun p hp => good_mem h p (hs.subset hp)) ((good_pair h).sublist hs)
theorem good_sim {l : List Pt} (h : Good l) : Good (simL l) := good_sub h (simL_sub l)

/-- The level at t as a fraction, of marks from p on, where p is not behind t. -/
def evF (t : Int) : Pt → List Pt → Option (Int × Int)
  | p, [] => if t = p.x then some (p.y, 1) else none
  | p, m :: r => if t = p.x then some (p.y, 1) else if t < m.x then some (sumZ p.x p.y m.x m.y t, m.x - p.x) else evF t m r
theorem evF_cons (t : Int) (p m : Pt) (r : List Pt) : evF t p (m :: r) = if t = p.x then some (p.y, 1) else if t < m.x then some (sumZ p.x p.y m.x m.y t, m.x - p.x) else evF t m r := rfl
def Feq : Option (Int × Int) → Option (Int × Int) → Prop
  | none, none => True
  | some (n, d), some (m, e) => 0 < d ∧ 0 < e ∧ n * e = m * d
  | _, _ => False
theorem Feq.trans {a b c : Option (Int × Int)} (h : Feq a b) (k : Feq b c) : Feq a c := by
  match a, b, c with
  | none, none, none => trivial
  | some (n, d), some (m, e), some (u, v) =>
    obtain ⟨h1, h2, h3⟩ := h
    obtain ⟨k1, k2, k3⟩ := k
    refine ⟨h1, k2, ?_⟩
    have hz : e * (n * v - u * d) = 0 := by grind
    rcases Int.mul_eq_zero.1 hz with h | h <;> omega
  | none, none, some _ => exact k.elim
  | none, some _, _ => exact h.elim
  | some _, none, _ => exact h.elim
  | some _, some _, none => exact k.elim
theorem evF_self {t : Int} : ∀ {r : List Pt} {p : Pt}, (p :: r).Pairwise (fun a b => a.x < b.x) → Feq (evF t p r) (evF t p r)
  | [], p, _ => by rw [evF]; split <;> simp [Feq]
  | m :: r, p, h => by
    have hm : p.x < m.x := (List.pairwise_cons.1 h).1 m (by simp)
    rw [evF]
    split
    · simp [Feq]
    · split
      · exact ⟨by omega, by omega, rfl⟩
      · exact evF_self (List.pairwise_cons.1 h).2
theorem evF_drop {t : Int} {p m q : Pt} {r : List Pt} (hs : (p :: m :: q :: r).Pairwise (fun a b => a.x < b.x)) (hc : str3 p m q = true) : Feq (evF t p (m :: q :: r)) (evF t p (q :: r)) := by
  obtain ⟨h1, h2⟩ := List.pairwise_cons.1 hs
  obtain ⟨h3, h4⟩ := List.pairwise_cons.1 h2
  have a1 : p.x < m.x := h1 m (by simp)
  have a2 : m.x < q.x := h3 q (by simp)
  have hc' := of_decide_eq_true hc
  rw [evF_cons t p m (q :: r), evF_cons t p q r]
  by_cases e1 : t = p.x
  · rw [if_pos e1, if_pos e1]; simp [Feq]
  rw [if_neg e1, if_neg e1]
  by_cases e2 : t < m.x
  · rw [if_pos e2, if_pos (by omega)]
    refine ⟨by omega, by omega, ?_⟩
    unfold sumZ
    grind
  rw [if_neg e2, evF_cons t m q r]
  by_cases e3 : t = m.x
  · rw [if_pos e3, if_pos (by omega)]
    refine ⟨by omega, by omega, ?_⟩
    unfold sumZ
    grind
  rw [if_neg e3]
  by_cases e4 : t < q.x
  · rw [if_pos e4, if_pos e4]
    refine ⟨by omega, by omega, ?_⟩
    unfold sumZ
    grind
  · rw [if_neg e4, if_neg e4]
    exact evF_self h4
theorem evF_kp {t : Int} : ∀ (p : Pt) (r : List Pt), (p :: r).Pairwise (fun a b => a.x < b.x) → Feq (evF t p r) (evF t p (kp p r))
  | p, [], h => by rw [kp]; exact evF_self h
  | p, [m], h => by rw [kp]; exact evF_self h
  | p, m :: q :: r, h => by
    obtain ⟨h1, h2⟩ := List.pairwise_cons.1 h
    obtain ⟨h3, h4⟩ := List.pairwise_cons.1 h2
    have a1 : p.x < m.x := h1 m (by simp)
    rw [kp]
    by_cases hc : str3 p m q = true
    · rw [if_pos hc]
      exact (evF_drop h hc).trans (evF_kp p (q :: r) (List.pairwise_cons.2 ⟨fun z hz => h1 z (List.mem_cons_of_mem _ hz), h4⟩))
    · rw [if_neg hc, evF_cons t p m (q :: r), evF_cons t p m (kp m (q :: r))]
      split
      · simp [Feq]
      · split
        · exact ⟨by omega, by omega, rfl⟩
        · exact evF_kp m (q :: r) h2
theorem evF_pos {t : Int} : ∀ (r : List Pt) (p : Pt) (i : Nat), (p :: r).Pairwise (fun a b => a.x < b.x) → p.x ≤ t → PosAt (p :: r) t i → evF t p r = if mOk (p :: r) t i then some (mN (p :: r) t i, mD (p :: r) t i) else none
  | r, p, 0, hs, hp, ⟨h1, h2, h3⟩ => by
    have h := h3 0 (Nat.le_refl 0) (by simp)
    have ht : t = p.x := by
      have : (gt (p :: r) 0).x = p.x := rfl
      omega
    have hf : foundB (p :: r) t 0 = true := by
      unfold foundB
      simp [gt, ht]
    have hg : (gt (p :: r) 0).y = p.y := rfl
    unfold mOk mN mD
    rw [hf, hg]
    cases r <;> rw [evF, if_pos ht] <;> rfl
  | [], p, i + 1, hs, hp, ⟨h1, h2, h3⟩ => by
    have h := h2 0 (by omega)
    have hg : (gt [p] 0).x = p.x := rfl
    have hi : i = 0 := by simp at h1; omega
    subst hi
    have hf : foundB [p] t 1 = false := by unfold foundB; simp
    unfold mOk
    rw [hf, evF, if_neg (by omega)]
    rfl
  | m :: r, p, i + 1, hs, hp, ⟨h1, h2, h3⟩ => by
    have h := h2 0 (by omega)
    have hg : (gt (p :: m :: r) 0).x = p.x := rfl
    obtain ⟨b1, b2⟩ := List.pairwise_cons.1 hs
    have hgs : ∀ j, gt (p :: m :: r) (j + 1) = gt (m :: r) j := fun j => rfl
    have hP : PosAt (m :: r) t i := by
      refine ⟨by simp at h1 ⊢; omega, fun a ha => ?_, fun a ha hal => ?_⟩
      · have := h2 (a + 1) (by omega); rw [hgs] at this; exact this
      · have := h3 (a + 1) (by omega) (by simp at hal ⊢; omega); rw [hgs] at this; exact this
    have hf : foundB (p :: m :: r) t (i + 1) = foundB (m :: r) t i := by
      unfold foundB
      rw [hgs]
      simp
    rw [evF, if_neg (by omega)]
    by_cases e2 : t < m.x
    · have hi : i = 0 := by
        rcases Nat.eq_zero_or_pos i with h | h
        · exact h
        · have := hP.2.1 0 h
          have hz : (gt (m :: r) 0).x = m.x := rfl
          omega
      subst hi
      have hf0 : foundB (p :: m :: r) t (0 + 1) = false := by
        rw [hf]; unfold foundB
        have hz : (gt (m :: r) 0).x = m.x := rfl
        rw [hz, decide_eq_false (show ¬ m.x = t by omega), Bool.and_false]
      have ho : mOk (p :: m :: r) t (0 + 1) = true := by unfold mOk; rw [hf0]; simp
      rw [if_pos e2, ho, if_pos rfl]
      unfold mN mD
      rw [hf0]
      rfl
    · rw [if_neg e2, evF_pos r m i b2 (by omega) hP]
      have ho : mOk (p :: m :: r) t (i + 1) = mOk (m :: r) t i := by
        unfold mOk
        rw [hf]
        rcases Nat.eq_zero_or_pos i with h | h
        · subst h
          have h5 := hP.2.2 0 (Nat.le_refl 0) (by simp)
          have hz : (gt (m :: r) 0).x = m.x := rfl
          have : foundB (m :: r) t 0 = true := by
            unfold foundB
            rw [hz, decide_eq_true (show m.x = t by omega)]
            simp
          rw [this]; rfl
        · simp [h]
      have hN : mN (p :: m :: r) t (i + 1) = mN (m :: r) t i ∧ mD (p :: m :: r) t (i + 1) = mD (m :: r) t i := by
        unfold mN mD
        rw [hf, hgs]
        rcases Nat.eq_zero_or_pos i with h | h
        · subst h
          have h5 := hP.2.2 0 (Nat.le_refl 0) (by simp)
          have hz : (gt (m :: r) 0).x = m.x := rfl
          have : foundB (m :: r) t 0 = true := by
            unfold foundB
            rw [hz, decide_eq_true (show m.x = t by omega)]
            simp
          rw [this]; exact ⟨rfl, rfl⟩
        · rw [show i + 1 - 1 = (i - 1) + 1 by omega, hgs]
          exact ⟨rfl, rfl⟩
      rw [ho, hN.1, hN.2]
theorem div_cross {n d m e : Int} (hd : 0 < d) (he : 0 < e) (h : n * e = m * d) : n / d = m / e := by
  have h1 : n * e / (d * e) = n / d := Int.mul_ediv_mul_of_pos_left n d he
  have h2 : m * d / (e * d) = m / e := Int.mul_ediv_mul_of_pos_left m e hd
  rw [← h1, ← h2, h, Int.mul_comm e d]
theorem sim_lev {er : Int} {l : List Pt} {t : Int} {i j : Nat} (hG : Good l) (hi : PosAt l t i) (hj : PosAt (simL l) t j) :
    mOk (simL l) t j = mOk l t i ∧ gLo er (simL l) t j = gLo er l t i ∧ gHi er (simL l) t j = gHi er l t i := by
  cases l with
  | nil =>
    have h1 : i = 0 := by have := hi.1; simpa using this
    have h2 : j = 0 := by have := hj.1; simpa [simL] using this
    subst h1 h2
    exact ⟨rfl, rfl, rfl⟩
  | cons a r =>
    have hs := good_pair hG
    have hs2 := good_pair (good_sim hG)
    have hE := evF_kp (t := t) a r hs
    by_cases ht : a.x ≤ t
    · rw [evF_pos r a i hs ht hi, evF_pos (kp a r) a j hs2 ht hj] at hE
      change mOk (a :: kp a r) t j = _ ∧ gLo er (a :: kp a r) t j = _ ∧ gHi er (a :: kp a r) t j = _
      unfold gLo gHi mLo mHi
      cases h1 : mOk (a :: r) t i <;> cases h2 : mOk (a :: kp a r) t j <;> rw [h1, h2] at hE
      · simp
      · exact hE.elim
      · exact hE.elim
      · obtain ⟨e1, e2, e3⟩ := hE
        have k1 := div_cross e1 e2 e3
        have k2 := div_cross e1 e2 (show -mN (a :: r) t i * _ = -mN (a :: kp a r) t j * _ by rw [Int.neg_mul, Int.neg_mul, e3])
        simp only [if_true]
        rw [k1, k2]
        exact ⟨trivial, rfl, rfl⟩
    · have h1 : i = 0 := by
        rcases Nat.eq_zero_or_pos i with h | h
        · exact h
        · have := hi.2.1 0 h
          have hz : (gt (a :: r) 0).x = a.x := rfl
          omega
      have h2 : j = 0 := by
        rcases Nat.eq_zero_or_pos j with h | h
        · exact h
        · have := hj.2.1 0 h
          have hz : (gt (simL (a :: r)) 0).x = a.x := rfl
          omega
      subst h1 h2
      have o1 : mOk (a :: r) t 0 = false := by
        unfold mOk foundB
        have hz : (gt (a :: r) 0).x = a.x := rfl
        rw [hz, decide_eq_false (show ¬ a.x = t by omega)]; simp
      have o2 : mOk (simL (a :: r)) t 0 = false := by
        unfold mOk foundB
        have hz : (gt (simL (a :: r)) 0).x = a.x := rfl
        rw [hz, decide_eq_false (show ¬ a.x = t by omega)]; simp
      unfold gLo gHi
      rw [o1, o2]
      exact ⟨rfl, rfl, rfl⟩
end Go.Proofs.Ytblmljcgjibfgaa

/- Levels with smaller errors are nested in those with greater ones: what follows for windows. -/
import Derived.Test.YtblmljcgjibfgaaTwin
import Derived.Test.YtblmljcgjibfgaaTlawlev
namespace Go.Proofs.Ytblmljcgjibfgaa
open Go Go.RowKit Go.IntWalk

def betG (d : Int) (g : Ga) : Ga := ⟨g.s, g.x, max 0 (g.er - d), g.l, g.A, g.c⟩
def betL (d : Int) (gs : List Ga) : List Ga := gs.map (betG d)
theorem bet_len (d : Int) (gs : List Ga) : (betL d gs).length = gs.length := by simp [betL]
theorem bet_get (d : Int) (gs : List Ga) (k : Nat) (hk : k < (betL d gs).length) : (betL d gs)[k] = betG d (gs[k]'(by rw [bet_len] at hk; exact hk)) := by simp [betL]
theorem gg_bet (d : Int) (gs : List Ga) (k : Nat) (hk : k < gs.length) : gg (betL d gs) k = betG d (gg gs k) := by
  rw [gg_lt _ _ (by rw [bet_len]; exact hk), gg_lt _ _ hk, bet_get]
theorem next_bet {d : Int} (hd : 0 ≤ d) {gs : List Ga} {g : Ga} (h : nextE gs g = 0) : nextE (betL d gs) (betG d g) = 0 := by
  have hh : hasB (betL d gs) (betG d g).s = hasB gs g.s := by
    unfold hasB betL
    rw [List.any_map]; rfl
  have hn : decide (betL d gs = []) = decide (gs = []) := by unfold betL; simp
  have hl : (betL d gs).getLast?.elim (betG d g).x (·.x) = gs.getLast?.elim g.x (·.x) := by
    unfold betL
    rw [List.getLast?_map]
    cases gs.getLast? <;> rfl
  unfold nextE at h ⊢
  rw [hh, hn, hl]
  show (if nameB g.s = false then 4 else if hasB gs g.s then 5 else if (withinB g.x (-1000000) 1000000 && withinB (max 0 (g.er - d)) 0 1000) = false then 2 else if marksE g.l = 0 then (if decide (gs = []) || decide (gs.getLast?.elim g.x (·.x) < g.x) then 0 else 9) else marksE g.l) = (0 : Int)
  cases h1 : nameB g.s
  · rw [if_pos h1] at h; omega
  rw [if_neg (by rw [h1]; decide)] at h
  rw [if_neg (by decide)]
  cases h2 : hasB gs g.s
  case true => rw [if_pos h2] at h; omega
  rw [if_neg (by rw [h2]; decide)] at h
  rw [if_neg (by decide)]
  cases h3 : (withinB g.x (-1000000) 1000000 && withinB g.er 0 1000)
  · rw [if_pos h3] at h; omega
  rw [if_neg (by rw [h3]; decide)] at h
  rw [Bool.and_eq_true] at h3
  have h4 : withinB (max 0 (g.er - d)) 0 1000 = true := by
    have := h3.2
    unfold withinB at this ⊢
    simp at this ⊢
    omega
  rw [h3.1, h4, if_neg (by decide)]
  exact h
theorem gaus_bet {d : Int} (hd : 0 ≤ d) {gs : List Ga} (h : gausE gs = 0) : gausE (betL d gs) = 0 := by
  unfold gausE at h ⊢
  rw [bet_len]
  by_cases h1 : 6 < gs.length
  · rw [if_pos h1] at h; omega
  rw [if_neg h1] at h ⊢
  have hz := firstE_zero h
  have key : ∀ n, n ≤ gs.length → firstE (errG (betL d gs)) n = 0 := by
    intro n
    induction n with
    | zero => intro _; rfl
    | succ n ih =>
      intro hn
      refine firstE_step (ih (by omega)) ?_
      have h2 := hz n (by omega)
      rw [errG_lt (by omega)] at h2
      rw [errG_lt (by rw [bet_len]; omega), bet_get]
      have e : (betL d gs).take n = betL d (gs.take n) := by unfold betL; rw [List.map_take]
      rw [e]
      exact next_bet hd h2
  exact key gs.length (Nat.le_refl _)
theorem view_bet {d : Int} (hd : 0 ≤ d) {gs : List Ga} (h : gausE gs = 0) (x f t : Int) : viewE (betL d gs) x f t = viewE gs x f t := by
  unfold viewE
  rw [gaus_bet hd h, h]
theorem posAt_eq {l : List Pt} {t : Int} {i j : Nat} (h : PosAt l t i) (k : PosAt l t j) : i = j := by
  obtain ⟨h1, h2, h3⟩ := h
  obtain ⟨k1, k2, k3⟩ := k
  rcases Nat.lt_trichotomy i j with h | h | h
  · have a := k2 i h; have b := h3 i (Nat.le_refl _) (by omega); omega
  · exact h
  · have a := h2 j h; have b := k3 j (Nat.le_refl _) (by omega); omega
theorem posG_eq {gs : List Ga} {x : Int} {i j : Nat} (h : PosG gs x i) (k : PosG gs x j) : i = j := by
  obtain ⟨h1, h2, h3⟩ := h
  obtain ⟨k1, k2, k3⟩ := k
  rcases Nat.lt_trichotomy i j with h | h | h
  · have a := k2 i h; have b := h3 i (Nat.le_refl _) (by omega); omega
  · exact h
  · have a := h2 j h; have b := k3 j (Nat.le_refl _) (by omega); omega
theorem posG_bet {d : Int} {gs : List Ga} {x : Int} {i : Nat} (h : PosG (betL d gs) x i) : PosG gs x i := by
  obtain ⟨h1, h2, h3⟩ := h
  rw [bet_len] at h1 h3
  refine ⟨h1, fun a ha => ?_, fun a ha hal => ?_⟩
  · have := h2 a ha; rw [gg_bet d gs a (by omega)] at this; exact this
  · have := h3 a ha hal; rw [gg_bet d gs a hal] at this; exact this
theorem one_bet {d : Int} (hd : 0 ≤ d) {g : Ga} (he : 0 ≤ g.er) (t : Int) (p : Nat) : (oneV (betG d g) t p).2.2 = (oneV g t p).2.2 ∧ (oneV g t p).1 ≤ (oneV (betG d g) t p).1 := by
  refine ⟨rfl, ?_⟩
  show gLo g.er g.l t p ≤ gLo (max 0 (g.er - d)) g.l t p
  unfold gLo
  split
  · omega
  · exact Int.le_refl _
theorem div_mono {a b d : Int} (hd : 0 < d) (h : a ≤ b) : a / d ≤ b / d := Int.ediv_le_ediv hd h
theorem two_bet {d : Int} (hd : 0 ≤ d) {a b : Ga} (ha : 0 ≤ a.er) (hb : 0 ≤ b.er) {x : Int} (h1 : a.x ≤ x) (h2 : x ≤ b.x) (h3 : a.x < b.x) (t : Int) (p q : Nat) :
    (twoV (betG d a) (betG d b) x t p q).2.2 = (twoV a b x t p q).2.2 ∧ (twoV a b x t p q).1 ≤ (twoV (betG d a) (betG d b) x t p q).1 := by
  refine ⟨rfl, ?_⟩
  show btLo a b x t p q ≤ btLo (betG d a) (betG d b) x t p q
  unfold btLo
  rw [show btOk (betG d a) (betG d b) t p q = btOk a b t p q from rfl]
  split
  · show sumZ a.x (gLo a.er a.l t p) b.x (gLo b.er b.l t q) x / (b.x - a.x) ≤ sumZ a.x (gLo (max 0 (a.er - d)) a.l t p) b.x (gLo (max 0 (b.er - d)) b.l t q) x / (b.x - a.x)
    refine div_mono (by omega) ?_
    have e1 := (one_bet hd ha t p).2
    have e2 := (one_bet hd hb t q).2
    have e1 : gLo a.er a.l t p ≤ gLo (max 0 (a.er - d)) a.l t p := e1
    have e2 : gLo b.er b.l t q ≤ gLo (max 0 (b.er - d)) b.l t q := e2
    have m1 := Int.mul_le_mul_of_nonneg_right e1 (show 0 ≤ b.x - x by omega)
    have m2 := Int.mul_le_mul_of_nonneg_right e2 (show 0 ≤ x - a.x by omega)
    unfold sumZ
    omega
  · exact Int.le_refl _
theorem lv_bet {d : Int} (hd : 0 ≤ d) {gs : List Ga} (hG : GoodL gs) {x m : Int} {r r' : Int × Int × Bool} (h : IsLV gs x m r) (h' : IsLV (betL d gs) x m r') : r'.2.2 = r.2.2 ∧ r.1 ≤ r'.1 := by
  obtain ⟨i, P, hp, hP, rfl⟩ := h
  obtain ⟨i', P', hp', hP', rfl⟩ := h'
  obtain rfl : i = i' := posG_eq hp (posG_bet hp')
  have hPP : ∀ k, k < gs.length → P' k = P k := fun k hk => by
    have h1 := hP k hk
    have h2 := hP' k (by rw [bet_len]; exact hk)
    rw [gg_bet d gs k hk] at h2
    exact posAt_eq (l := (gg gs k).l) h2 h1
  have hil := hp.1
  unfold plV
  rw [bet_len]
  by_cases h0 : gs.length = 0
  · rw [if_pos h0, if_pos h0]; exact ⟨rfl, Int.le_refl _⟩
  rw [if_neg h0, if_neg h0]
  have hf : foundG (betL d gs) x i = foundG gs x i := by
    unfold foundG
    rw [bet_len]
    by_cases hi : i < gs.length
    · rw [gg_bet d gs i hi]; rfl
    · rw [decide_eq_false hi]; rfl
  rw [hf]
  cases hc : (foundG gs x i || decide (i = 0))
  · simp only [Bool.false_eq_true, if_false]
    rw [Bool.or_eq_false_iff, decide_eq_false_iff_not] at hc
    have h1 : i - 1 < gs.length := by omega
    by_cases hl : i = gs.length
    · rw [if_pos hl, if_pos hl, gg_bet d gs _ h1, hPP _ h1]
      exact one_bet hd (hG.ok _ h1).er.1 m _
    · rw [if_neg hl, if_neg hl]
      have h2 : i < gs.length := by omega
      rw [gg_bet d gs _ h1, gg_bet d gs _ h2, hPP _ h1, hPP _ h2]
      have a1 := hp.2.1 (i - 1) (by omega)
      have a2 := hp.2.2 i (Nat.le_refl _) h2
      exact two_bet hd (hG.ok _ h1).er.1 (hG.ok _ h2).er.1 (by omega) a2 (by omega) m _ _
  · rw [if_pos rfl, if_pos rfl]
    have h2 : i < gs.length := by
      rw [Bool.or_eq_true] at hc
      rcases hc with h | h
      · unfold foundG at h; rw [Bool.and_eq_true] at h; exact of_decide_eq_true h.1
      · have := of_decide_eq_true h; omega
    rw [gg_bet d gs _ h2, hPP _ h2]
    exact one_bet hd (hG.ok _ h2).er.1 m _
theorem round_le {n d : Int} (hd : 0 < d) : n / d ≤ -((-n) / d) := by
  obtain ⟨a1, a2⟩ := div_le (n := n) hd
  obtain ⟨a3, a4⟩ := div_le (n := -n) hd
  rcases Int.lt_or_le (-((-n) / d)) (n / d) with h | h
  · exfalso
    have h5 := Int.mul_le_mul_of_nonneg_right (show -((-n) / d) + 1 ≤ n / d by omega) (show 0 ≤ d by omega)
    have e3 : (-((-n) / d) + 1) * d = -((-n) / d * d) + d := by grind
    omega
  · exact h
theorem one_le {g : Ga} {t : Int} {p : Nat} (hG : GoodR g) (hp : PosAt g.l t p) : (oneV g t p).1 ≤ (oneV g t p).2.1 := by
  unfold oneV gLo gHi
  dsimp only
  cases ho : mOk g.l t p
  · simp
  · obtain ⟨h0, h1, h2⟩ := m_small hG.m hp ho
    have he := hG.er.1
    unfold mLo mHi
    rw [ho]
    simp only [if_true]
    have := round_le (n := mN g.l t p) h0
    omega
theorem two_le {a b : Ga} {x t : Int} {p q : Nat} (ha : GoodR a) (hb : GoodR b) (h1 : a.x ≤ x) (h2 : x ≤ b.x) (h3 : a.x < b.x) (hp : PosAt a.l t p) (hq : PosAt b.l t q) : (twoV a b x t p q).1 ≤ (twoV a b x t p q).2.1 := by
  show btLo a b x t p q ≤ btHi a b x t p q
  unfold btLo btHi
  split
  · have e1 : gLo a.er a.l t p ≤ gHi a.er a.l t p := one_le ha hp
    have e2 : gLo b.er b.l t q ≤ gHi b.er b.l t q := one_le hb hq
    have m1 := Int.mul_le_mul_of_nonneg_right e1 (show 0 ≤ b.x - x by omega)
    have m2 := Int.mul_le_mul_of_nonneg_right e2 (show 0 ≤ x - a.x by omega)
    have h5 : sumZ a.x (gLo a.er a.l t p) b.x (gLo b.er b.l t q) x ≤ sumZ a.x (gHi a.er a.l t p) b.x (gHi b.er b.l t q) x := by unfold sumZ; omega
    exact Int.le_trans (div_mono (by omega) h5) (round_le (by omega))
  · exact Int.le_refl _
theorem lv_le {gs : List Ga} (hG : GoodL gs) {x m : Int} {r : Int × Int × Bool} (h : IsLV gs x m r) : r.1 ≤ r.2.1 := by
  obtain ⟨i, P, hp, hP, rfl⟩ := h
  have hil := hp.1
  unfold plV
  by_cases h0 : gs.length = 0
  · rw [if_pos h0]; exact Int.le_refl _
  rw [if_neg h0]
  cases hc : (foundG gs x i || decide (i = 0))
  · rw [if_neg (by decide)]
    rw [Bool.or_eq_false_iff, decide_eq_false_iff_not] at hc
    have h1 : i - 1 < gs.length := by omega
    by_cases hl : i = gs.length
    · rw [if_pos hl]; exact one_le (hG.ok _ h1) (hP _ h1)
    · rw [if_neg hl]
      have h2 : i < gs.length := by omega
      have a1 := hp.2.1 (i - 1) (by omega)
      have a2 := hp.2.2 i (Nat.le_refl _) h2
      exact two_le (hG.ok _ h1) (hG.ok _ h2) (by omega) a2 (by omega) (hP _ h1) (hP _ h2)
  · rw [if_pos rfl]
    have h2 : i < gs.length := by
      rw [Bool.or_eq_true] at hc
      rcases hc with h | h
      · unfold foundG at h; rw [Bool.and_eq_true] at h; exact of_decide_eq_true h.1
      · have := of_decide_eq_true h; omega
    exact one_le (hG.ok _ h2) (hP _ h2)
theorem sure_poss {gs : List Ga} (hG : GoodL gs) {x : Int} {V : Int → Int × Int × Bool} (hV : ∀ m, IsLV gs x m (V m)) (lev m : Int) (h : gS V lev m = true) : gP V lev m = true := by
  unfold gS gP at *
  rw [Bool.and_eq_true, decide_eq_true_eq] at *
  exact ⟨h.1, Int.le_trans h.2 (lv_le hG (hV m))⟩
theorem sure_less {V : Int → Int × Int × Bool} {lev d : Int} (hd : 0 ≤ d) (m : Int) (h : gS V lev m = true) : gS V (lev - d) m = true := by
  unfold gS at *
  rw [Bool.and_eq_true, decide_eq_true_eq] at *
  exact ⟨h.1, by omega⟩
theorem sure_bet {d : Int} (hd : 0 ≤ d) {gs : List Ga} (hG : GoodL gs) {x : Int} {V V' : Int → Int × Int × Bool} (hV : ∀ m, IsLV gs x m (V m)) (hV' : ∀ m, IsLV (betL d gs) x m (V' m)) (lev m : Int) (h : gS V lev m = true) : gS V' lev m = true := by
  obtain ⟨h1, h2⟩ := lv_bet hd hG (hV m) (hV' m)
  unfold gS at *
  rw [Bool.and_eq_true, decide_eq_true_eq] at *
  exact ⟨h1.trans h.1, Int.le_trans h.2 h2⟩
/-- Where the water is surely high enough at one gauge, its mean level is. -/
theorem sure_mean {g : Ga} (hG : GoodL [g]) {x : Int} {V : Int → Int × Int × Bool} (hV : ∀ m, IsLV [g] x m (V m)) {lev m : Int} (h : gS V lev m = true) {p : Nat} (hp : PosAt g.l m p) : mOk g.l m p = true ∧ lev * mD g.l m p ≤ mN g.l m p := by
  obtain ⟨i, P, hq, hP, he⟩ := hV m
  have h0 := hP 0 (by simp)
  have hpp : P 0 = p := posAt_eq (l := g.l) h0 hp
  have hil : i ≤ 1 := hq.1
  have hv : V m = oneV g m p := by
    rw [← he, ← hpp]
    unfold plV
    rw [if_neg (by simp)]
    rcases (by omega : i = 0 ∨ i = 1) with rfl | rfl
    · rw [if_pos (by simp)]; rfl
    · rw [if_neg (by unfold foundG; simp), if_pos (by simp)]; rfl
  unfold gS at h
  rw [hv, Bool.and_eq_true, decide_eq_true_eq] at h
  obtain ⟨h1, h2⟩ := h
  have h1 : mOk g.l m p = true := h1
  have h2 : lev ≤ gLo g.er g.l m p := h2
  have hg : GoodR g := hG.ok 0 (by simp)
  obtain ⟨d0, _, _⟩ := m_small hg.m hp h1
  have he := hg.er.1
  unfold gLo mLo at h2
  rw [h1] at h2
  simp only [if_true] at h2
  refine ⟨h1, ?_⟩
  obtain ⟨a1, a2⟩ := div_le (n := mN g.l m p) d0
  have h3 : lev ≤ mN g.l m p / mD g.l m p := by omega
  exact Int.le_trans (Int.mul_le_mul_of_nonneg_right h3 (by omega)) a1
end Go.Proofs.Ytblmljcgjibfgaa

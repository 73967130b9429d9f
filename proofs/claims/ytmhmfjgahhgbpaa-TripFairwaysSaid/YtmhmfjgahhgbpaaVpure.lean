/- Hoppers: the draught of a load, the greatest load for a draught. Plain mathematics: nothing of the program. -/
import Derived.Test.YtmhmfjgahhgbpaaTline
namespace Go.Proofs.Ytmhmfjgahhgbpaa
open Go Go.RowKit Go.IntWalk

/-- A line of the table: the mass and the draught. -/
def lnB (p : Pt) : Bool := withinB p.x 0 1000000000 && withinB p.y 0 5000
def lnE (l : List Pt) (i : Nat) : Int := if lnB (gt l i) = false then 2 else if 0 < i ∧ ((gt l i).x ≤ (gt l (i - 1)).x ∨ (gt l i).y < (gt l (i - 1)).y) then 9 else 0
/-- What is wrong with a hopper. -/
def hopE (s : ByteArray) (hold : Int) (l : List Pt) : Int := if nameB s = false then 4 else if withinB hold 1 1000000000000 = false then 2 else if l.length < 2 then 10 else if 40 < l.length then 8 else firstE (lnE l) l.length

structure GoodH (l : List Pt) : Prop where
  two : 2 ≤ l.length
  len : l.length ≤ 40
  rng : ∀ i, i < l.length → (0 ≤ (gt l i).x ∧ (gt l i).x ≤ 1000000000) ∧ (0 ≤ (gt l i).y ∧ (gt l i).y ≤ 5000)
  asc : ∀ i, i + 1 < l.length → (gt l i).x < (gt l (i + 1)).x ∧ (gt l i).y ≤ (gt l (i + 1)).y
theorem hop_good {s : ByteArray} {hold : Int} {l : List Pt} (h : hopE s hold l = 0) : GoodH l := by
  unfold hopE at h
  split at h
  · cases h
  split at h
  · cases h
  split at h
  · cases h
  split at h
  · cases h
  rename_i _ _ h2 h3
  have hz := firstE_zero h
  have hr : ∀ i, i < l.length → lnB (gt l i) = true := by
    intro i hi
    have := hz i hi
    unfold lnE at this
    cases hb : lnB (gt l i)
    · rw [hb, if_pos rfl] at this; cases this
    · rfl
  refine ⟨by omega, by omega, fun i hi => ?_, fun i hi => ?_⟩
  · have := hr i hi
    simpa [lnB, withinB] using this
  · have := hz (i + 1) hi
    unfold lnE at this
    rw [hr (i + 1) hi, if_neg (by decide)] at this
    split at this
    · cases this
    · rename_i hn
      simp only [Nat.add_sub_cancel] at hn
      omega

theorem GoodH.incx {l : List Pt} (h : GoodH l) {a : Nat} : ∀ {b : Nat}, a < b → b < l.length → (gt l a).x < (gt l b).x
  | b + 1, hab, hb => by
    have h1 := (h.asc b hb).1
    by_cases he : a = b
    · subst he; exact h1
    · have := h.incx (a := a) (b := b) (by omega) (by omega); omega
theorem GoodH.incy {l : List Pt} (h : GoodH l) {a : Nat} : ∀ {b : Nat}, a ≤ b → b < l.length → (gt l a).y ≤ (gt l b).y
  | 0, hab, _ => by have : a = 0 := by omega
                    subst this; exact Int.le_refl _
  | b + 1, hab, hb => by
    have h1 := (h.asc b hb).2
    by_cases he : a = b + 1
    · subst he; exact Int.le_refl _
    · have := h.incy (a := a) (b := b) (by omega) (by omega); omega

/-- A quotient rounded up. -/
def cdiv (n d : Int) : Int := -((-n) / d)
theorem cdiv_up (n d : Int) (hd : 0 < d) : cdiv n d = (n + d - 1) / d := by
  unfold cdiv
  have h1 := Int.mul_ediv_add_emod (-n) d
  have h2 := Int.emod_nonneg (-n) (show d ≠ 0 by omega)
  have h3 := Int.emod_lt_of_pos (-n) hd
  generalize (-n) / d = q at *
  generalize (-n) % d = r at *
  have h4 : n + d - 1 = (d - 1 - r) + d * (-q) := by rw [Int.mul_neg]; omega
  rw [h4, Int.add_mul_ediv_left _ _ (by omega), Int.ediv_eq_zero_of_lt (by omega) (by omega)]
  omega
theorem cdiv_mono {n m d : Int} (hd : 0 < d) (h : n ≤ m) : cdiv n d ≤ cdiv m d := by
  unfold cdiv
  have := Int.ediv_le_ediv hd (show -m ≤ -n by omega)
  omega
theorem cdiv_nonneg {n d : Int} (hd : 0 < d) (h : 0 ≤ n) : 0 ≤ cdiv n d := by
  rw [cdiv_up n d hd]
  exact Int.ediv_nonneg (by omega) (by omega)
theorem cdiv_all (y d : Int) (hd : 0 < d) : cdiv (y * d) d = y := by
  unfold cdiv
  rw [← Int.neg_mul, Int.mul_ediv_cancel _ (by omega)]
  omega

/-- Line i is the first one behind the first line that has at least the mass m. -/
structure IsLn (l : List Pt) (m : Int) (i : Nat) : Prop where
  pos : 1 ≤ i
  lt : i < l.length
  le : m ≤ (gt l i).x
  gt' : ∀ j, 1 ≤ j → j < i → (gt l j).x < m
theorem IsLn.one {l : List Pt} {m : Int} {i j : Nat} (h : IsLn l m i) (k : IsLn l m j) : i = j := by
  rcases Nat.lt_trichotomy i j with h1 | h1 | h1
  · have := k.gt' i h.pos h1; have := h.le; omega
  · exact h1
  · have := h.gt' j k.pos h1; have := k.le; omega
theorem isLn_some {l : List Pt} (h : GoodH l) {m : Int} (hm : m ≤ (gt l (l.length - 1)).x) : ∃ i, IsLn l m i := by
  have h2 := h.two
  have key : ∀ n, n + 1 ≤ l.length - 1 → (∃ i, IsLn l m i) ∨ ∀ j, 1 ≤ j → j ≤ n → (gt l j).x < m := by
    intro n
    induction n with
    | zero => intro _; right; intro j h1 h2; omega
    | succ n ih =>
      intro hn
      rcases ih (by omega) with h1 | h1
      · exact .inl h1
      · by_cases hx : m ≤ (gt l (n + 1)).x
        · exact .inl ⟨n + 1, by omega, by omega, hx, fun j a b => h1 j a (by omega)⟩
        · right
          intro j a b
          by_cases he : j = n + 1
          · subst he; omega
          · exact h1 j a (by omega)
  rcases key (l.length - 2) (by omega) with h1 | h1
  · exact h1
  · exact ⟨l.length - 1, by omega, by omega, hm, fun j a b => h1 j a (by omega)⟩
def ladV (l : List Pt) (m : Int) (i : Nat) : Int := (gt l (i - 1)).y + cdiv (((gt l i).y - (gt l (i - 1)).y) * (m - (gt l (i - 1)).x)) ((gt l i).x - (gt l (i - 1)).x)
open Classical in
/-- The draught of a load within the table. -/
noncomputable def lad (l : List Pt) (m : Int) : Int := if h : ∃ i, IsLn l m i then ladV l m h.choose else 0
theorem lad_eq {l : List Pt} {m : Int} {i : Nat} (h : IsLn l m i) : lad l m = ladV l m i := by
  have hex : ∃ i, IsLn l m i := ⟨i, h⟩
  unfold lad
  rw [dif_pos hex, hex.choose_spec.one h]
theorem ladV_low {l : List Pt} (hG : GoodH l) {m : Int} {i : Nat} (h : IsLn l m i) (h0 : (gt l 0).x ≤ m) : (gt l (i - 1)).y ≤ ladV l m i ∧ (gt l (i - 1)).x ≤ m := by
  obtain ⟨j, rfl⟩ : ∃ j, i = j + 1 := ⟨i - 1, by have := h.pos; omega⟩
  simp only [Nat.add_sub_cancel] at *
  have ha := hG.asc j h.lt
  have hx : (gt l j).x ≤ m := by
    by_cases hj : j = 0
    · subst hj; exact h0
    · have := h.gt' j (by omega) (by omega); omega
  have := cdiv_nonneg (d := (gt l (j + 1)).x - (gt l j).x) (by omega) (Int.mul_nonneg (show 0 ≤ (gt l (j + 1)).y - (gt l j).y by omega) (show 0 ≤ m - (gt l j).x by omega))
  unfold ladV
  simp only [Nat.add_sub_cancel]
  omega
theorem ladV_high {l : List Pt} (hG : GoodH l) {m : Int} {i : Nat} (h : IsLn l m i) : ladV l m i ≤ (gt l i).y := by
  obtain ⟨j, rfl⟩ : ∃ j, i = j + 1 := ⟨i - 1, by have := h.pos; omega⟩
  have ha := hG.asc j h.lt
  have hle := h.le
  unfold ladV
  simp only [Nat.add_sub_cancel] at *
  have h1 := cdiv_mono (d := (gt l (j + 1)).x - (gt l j).x) (by omega) (Int.mul_le_mul_of_nonneg_left (show m - (gt l j).x ≤ (gt l (j + 1)).x - (gt l j).x by omega) (show 0 ≤ (gt l (j + 1)).y - (gt l j).y by omega))
  rw [cdiv_all _ _ (by omega)] at h1
  omega
theorem lad_mono {l : List Pt} (hG : GoodH l) {m n : Int} (h0 : (gt l 0).x ≤ m) (hmn : m ≤ n) (hn : n ≤ (gt l (l.length - 1)).x) : lad l m ≤ lad l n := by
  obtain ⟨i, hi⟩ := isLn_some hG (m := m) (by omega)
  obtain ⟨j, hj⟩ := isLn_some hG (m := n) hn
  rw [lad_eq hi, lad_eq hj]
  rcases Nat.lt_trichotomy i j with h1 | h1 | h1
  · have a := ladV_high hG hi
    have b := (ladV_low hG hj (by omega)).1
    have c := hG.incy (a := i) (b := j - 1) (by omega) (by have := hj.lt; omega)
    omega
  · subst h1
    obtain ⟨k, rfl⟩ : ∃ k, i = k + 1 := ⟨i - 1, by have := hi.pos; omega⟩
    have ha := hG.asc k hi.lt
    unfold ladV
    simp only [Nat.add_sub_cancel] at *
    have h1 := cdiv_mono (d := (gt l (k + 1)).x - (gt l k).x) (by omega) (Int.mul_le_mul_of_nonneg_left (show m - (gt l k).x ≤ n - (gt l k).x by omega) (show 0 ≤ (gt l (k + 1)).y - (gt l k).y by omega))
    omega
  · have := hi.gt' j hj.pos h1
    have := hj.le
    omega
/-- m is the greatest load from lo to hi that draws at most d. -/
structure MasP (l : List Pt) (d a b m : Int) : Prop where
  lo : a ≤ m
  hi : m ≤ b
  iff : ∀ n, a ≤ n → n ≤ b → (lad l n ≤ d ↔ n ≤ m)
theorem mas_some {l : List Pt} (hG : GoodH l) (d : Int) (h : lad l (gt l 0).x ≤ d) : ∃ m, MasP l d (gt l 0).x (gt l (l.length - 1)).x m := by
  have h2 := hG.two
  have hx := hG.incx (a := 0) (b := l.length - 1) (by omega) (by omega)
  have key : ∀ k : Nat, (gt l 0).x + k ≤ (gt l (l.length - 1)).x → lad l ((gt l 0).x + k) ≤ d ∨ ∃ m, MasP l d (gt l 0).x (gt l (l.length - 1)).x m := by
    intro k
    induction k with
    | zero => intro _; left; simpa using h
    | succ k ih =>
      intro hk
      rcases ih (by omega) with h1 | h1
      · by_cases h3 : lad l ((gt l 0).x + (k + 1 : Nat)) ≤ d
        · exact .inl h3
        · right
          refine ⟨(gt l 0).x + k, by omega, by omega, fun n a b => ⟨fun hn => ?_, fun hn => ?_⟩⟩
          · rcases Int.lt_or_le ((gt l 0).x + k) n with h4 | h4
            · have := lad_mono hG (m := (gt l 0).x + (k + 1 : Nat)) (n := n) (by omega) (by omega) b
              omega
            · exact h4
          · have := lad_mono hG (m := n) (n := (gt l 0).x + k) a hn (by omega)
            omega
      · exact .inr h1
  rcases key ((gt l (l.length - 1)).x - (gt l 0).x).toNat (by omega) with h1 | h1
  · have he : (gt l 0).x + (((gt l (l.length - 1)).x - (gt l 0).x).toNat : Int) = (gt l (l.length - 1)).x := by omega
    rw [he] at h1
    refine ⟨(gt l (l.length - 1)).x, by omega, by omega, fun n a b => ⟨fun _ => b, fun _ => ?_⟩⟩
    have := lad_mono hG (m := n) (n := (gt l (l.length - 1)).x) a b (by omega)
    omega
  · exact h1
theorem lad_bd {l : List Pt} (hG : GoodH l) {m : Int} (h0 : (gt l 0).x ≤ m) (h1 : m ≤ (gt l (l.length - 1)).x) : 0 ≤ lad l m ∧ lad l m ≤ 5000 := by
  obtain ⟨i, hi⟩ := isLn_some hG h1
  rw [lad_eq hi]
  have a := ladV_low hG hi h0
  have b := ladV_high hG hi
  have c := hG.rng i hi.lt
  have e := hG.rng (i - 1) (by have := hi.lt; omega)
  omega
/-- The draught of a load, and the error. -/
def DraR (s : ByteArray) (hold : Int) (l : List Pt) (m d q : Int) : Prop :=
  (hopE s hold l ≠ 0 ∧ d = 0 ∧ q = hopE s hold l) ∨ (hopE s hold l = 0 ∧ withinB m (gt l 0).x (gt l (l.length - 1)).x = false ∧ d = 0 ∧ q = 2) ∨
    (hopE s hold l = 0 ∧ withinB m (gt l 0).x (gt l (l.length - 1)).x = true ∧ d = lad l m ∧ q = 0)
theorem dra_some (s : ByteArray) (hold : Int) (l : List Pt) (m : Int) : ∃ d q, DraR s hold l m d q := by
  by_cases h : hopE s hold l = 0
  · cases h1 : withinB m (gt l 0).x (gt l (l.length - 1)).x
    · exact ⟨0, 2, .inr (.inl ⟨h, h1, rfl, rfl⟩)⟩
    · exact ⟨_, 0, .inr (.inr ⟨h, h1, rfl, rfl⟩)⟩
  · exact ⟨0, _, .inl ⟨h, rfl, rfl⟩⟩
/-- The greatest load for a draught, and the error. -/
def MasR (s : ByteArray) (hold : Int) (l : List Pt) (d m q : Int) : Prop :=
  (hopE s hold l ≠ 0 ∧ m = 0 ∧ q = hopE s hold l) ∨ (hopE s hold l = 0 ∧ withinB d 0 5000 = false ∧ m = 0 ∧ q = 2) ∨
    (hopE s hold l = 0 ∧ withinB d 0 5000 = true ∧ d < lad l (gt l 0).x ∧ m = 0 ∧ q = 11) ∨
    (hopE s hold l = 0 ∧ withinB d 0 5000 = true ∧ lad l (gt l 0).x ≤ d ∧ MasP l d (gt l 0).x (gt l (l.length - 1)).x m ∧ q = 0)
theorem mas_all (s : ByteArray) (hold : Int) (l : List Pt) (d : Int) : ∃ m q, MasR s hold l d m q := by
  by_cases h : hopE s hold l = 0
  · cases h1 : withinB d 0 5000
    · exact ⟨0, 2, .inr (.inl ⟨h, h1, rfl, rfl⟩)⟩
    · rcases Int.lt_or_le d (lad l (gt l 0).x) with h2 | h2
      · exact ⟨0, 11, .inr (.inr (.inl ⟨h, h1, h2, rfl, rfl⟩))⟩
      · obtain ⟨m, hm⟩ := mas_some (hop_good h) d h2
        exact ⟨m, 0, .inr (.inr (.inr ⟨h, h1, h2, hm, rfl⟩))⟩
  · exact ⟨0, _, .inl ⟨h, rfl, rfl⟩⟩
end Go.Proofs.Ytmhmfjgahhgbpaa

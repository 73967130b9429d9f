/- Plain mathematics of polygons: nothing of the program. -/
import Derived.Test.YtmhmfjgahhgbpaaPure5
namespace Go.Proofs.Ytmhmfjgahhgbpaa
open Go Go.RowKit Go.IntWalk

def anyN (f : Nat → Bool) : Nat → Bool
  | 0 => false
  | k + 1 => anyN f k || f k
def parN (f : Nat → Bool) : Nat → Bool
  | 0 => false
  | k + 1 => Bool.xor (parN f k) (f k)
def sumN (f : Nat → Int) : Nat → Int
  | 0 => 0
  | k + 1 => sumN f k + f k
theorem anyN_iff (f : Nat → Bool) : ∀ n, anyN f n = true ↔ ∃ i, i < n ∧ f i = true
  | 0 => by simp [anyN]
  | n + 1 => by
    rw [anyN, Bool.or_eq_true, anyN_iff f n]
    constructor
    · rintro (⟨i, h, hf⟩ | hf)
      · exact ⟨i, by omega, hf⟩
      · exact ⟨n, by omega, hf⟩
    · rintro ⟨i, h, hf⟩
      by_cases hi : i = n
      · subst hi; exact .inr hf
      · exact .inl ⟨i, by omega, hf⟩
theorem anyN_no (f : Nat → Bool) (n : Nat) : anyN f n = false ↔ ∀ i, i < n → f i = false := by
  constructor
  · intro h i hi
    cases hf : f i
    · rfl
    · have := (anyN_iff f n).2 ⟨i, hi, hf⟩; rw [h] at this; cases this
  · intro h
    cases ha : anyN f n
    · rfl
    · obtain ⟨i, hi, hf⟩ := (anyN_iff f n).1 ha
      rw [h i hi] at hf; cases hf
theorem anyN_at (f : Nat → Bool) {k n : Nat} (hk : k < n) (h : f k = true) : anyN f n = true := (anyN_iff f n).2 ⟨k, hk, h⟩
theorem anyN_congr {f g : Nat → Bool} (n : Nat) (h : ∀ i, i < n → f i = g i) : anyN f n = anyN g n := by
  rw [Bool.eq_iff_iff, anyN_iff, anyN_iff]
  exact ⟨fun ⟨i, hi, hf⟩ => ⟨i, hi, by rw [← h i hi]; exact hf⟩, fun ⟨i, hi, hf⟩ => ⟨i, hi, by rw [h i hi]; exact hf⟩⟩
theorem parN_congr {f g : Nat → Bool} : ∀ (n : Nat), (∀ i, i < n → f i = g i) → parN f n = parN g n
  | 0, _ => rfl
  | n + 1, h => by rw [parN, parN, parN_congr n (fun i hi => h i (by omega)), h n (by omega)]
theorem sumN_congr {f g : Nat → Int} : ∀ (n : Nat), (∀ i, i < n → f i = g i) → sumN f n = sumN g n
  | 0, _ => rfl
  | n + 1, h => by rw [sumN, sumN, sumN_congr n (fun i hi => h i (by omega)), h n (by omega)]
theorem parN_xor (f g : Nat → Bool) : ∀ n, parN (fun i => Bool.xor (f i) (g i)) n = Bool.xor (parN f n) (parN g n)
  | 0 => rfl
  | n + 1 => by
    simp only [parN]
    rw [parN_xor f g n]
    cases parN f n <;> cases parN g n <;> cases f n <;> cases g n <;> rfl
theorem parN_tele (q : Nat → Bool) : ∀ n, parN (fun i => Bool.xor (q i) (q (i + 1))) n = Bool.xor (q 0) (q n)
  | 0 => by simp [parN]
  | n + 1 => by
    simp only [parN]
    rw [parN_tele q n]
    cases q 0 <;> cases q n <;> cases q (n + 1) <;> rfl
theorem sumN_add (f g : Nat → Int) : ∀ n, sumN (fun i => f i + g i) n = sumN f n + sumN g n
  | 0 => rfl
  | n + 1 => by simp only [sumN]; rw [sumN_add f g n]; omega
theorem sumN_neg (f : Nat → Int) : ∀ n, sumN (fun i => -f i) n = -sumN f n
  | 0 => rfl
  | n + 1 => by simp only [sumN]; rw [sumN_neg f n]; omega
theorem sumN_tele (q : Nat → Int) : ∀ n, sumN (fun i => q (i + 1) - q i) n = q n - q 0
  | 0 => by simp [sumN]
  | n + 1 => by simp only [sumN]; rw [sumN_tele q n]; omega
theorem sumN_split (f : Nat → Int) (a : Nat) : ∀ b, sumN f (a + b) = sumN f a + sumN (fun i => f (a + i)) b
  | 0 => by simp [sumN]
  | b + 1 => by rw [← Nat.add_assoc, sumN, sumN_split f a b, sumN]; omega
theorem sumN_first (f : Nat → Int) : ∀ n, sumN f (n + 1) = f 0 + sumN (fun i => f (i + 1)) n
  | 0 => by simp [sumN]
  | n + 1 => by rw [sumN, sumN_first f n, sumN]; omega
theorem sumN_rev (f : Nat → Int) : ∀ n, sumN (fun i => f (n - 1 - i)) n = sumN f n
  | 0 => rfl
  | n + 1 => by
    rw [sumN_first]
    have : sumN (fun i => f (n + 1 - 1 - (i + 1))) n = sumN (fun i => f (n - 1 - i)) n := sumN_congr n (fun i hi => by rw [show n + 1 - 1 - (i + 1) = n - 1 - i by omega])
    rw [this, sumN_rev f n, sumN, show n + 1 - 1 - 0 = n by omega]; omega
theorem sumN_bound {f : Nat → Int} {M : Int} : ∀ n, (∀ i, i < n → -M ≤ f i ∧ f i ≤ M) → -(M * n) ≤ sumN f n ∧ sumN f n ≤ M * n
  | 0, _ => by simp [sumN]
  | n + 1, h => by
    have h1 := sumN_bound n (fun i hi => h i (by omega))
    have h2 := h n (by omega)
    rw [sumN, show M * ((n + 1 : Nat) : Int) = M * n + M by grind]
    omega

/-- A corner; they are counted in a circle. -/
def cor (l : List Pt) (i : Nat) : Pt := l.getD (i % l.length) ⟨0, 0⟩
theorem cor_lt (l : List Pt) (i : Nat) (h : i < l.length) : cor l i = l[i] := by
  unfold cor; rw [Nat.mod_eq_of_lt h]; simp [List.getD, h]
theorem cor_len (l : List Pt) : cor l l.length = cor l 0 := by unfold cor; simp
theorem cor_good {l : List Pt} (h : allGood l = true) (i : Nat) : good (cor l i) = true := by
  unfold cor
  rw [List.getD_eq_getElem?_getD]
  cases hx : l[i % l.length]? with
  | none => decide
  | some x => exact List.all_eq_true.1 h _ (List.mem_of_getElem? hx)

/-! ### Parity: a ray to the right and a ray upwards -/
def rightB (a b p : Pt) : Bool := (decide (p.y < a.y) != decide (p.y < b.y)) && (decide (a.y < b.y) == decide (0 < crossZ a b p))
def upcB (a b p : Pt) : Bool := (decide (a.x ≤ p.x) != decide (b.x ≤ p.x)) && (decide (crossZ a b p < 0) == decide (a.x < b.x))
def quadB (p a : Pt) : Bool := decide (p.x < a.x) && decide (p.y < a.y)
theorem sgn_pos (x y : Int) : 0 < x * y ↔ (0 < x ∧ 0 < y) ∨ (x < 0 ∧ y < 0) := by
  rcases Int.lt_trichotomy x 0 with h | h | h <;> rcases Int.lt_trichotomy y 0 with k | k | k
  · have := Int.mul_pos_of_neg_of_neg h k; omega
  · subst k; simp
  · have := Int.mul_neg_of_neg_of_pos h k; omega
  · subst h; simp
  · subst h; simp
  · subst h; simp
  · have := Int.mul_neg_of_pos_of_neg h k; omega
  · subst k; simp
  · have := Int.mul_pos h k; omega
theorem sgn_neg (x y : Int) : x * y < 0 ↔ (0 < x ∧ y < 0) ∨ (x < 0 ∧ 0 < y) := by
  have := sgn_pos x (-y)
  rw [show x * -y = -(x * y) by grind] at this
  omega
theorem parity_num (ax ay bx b_y P R : Int) (hp : 0 < P ↔ (0 < ax ∧ 0 < b_y) ∨ (ax < 0 ∧ b_y < 0)) (hn : P < 0 ↔ (0 < ax ∧ b_y < 0) ∨ (ax < 0 ∧ 0 < b_y))
    (kp : 0 < R ↔ (0 < ay ∧ 0 < bx) ∨ (ay < 0 ∧ bx < 0)) (kn : R < 0 ↔ (0 < ay ∧ bx < 0) ∨ (ay < 0 ∧ 0 < bx))
    (h : ¬ (P - R = 0 ∧ (min ax bx ≤ 0 ∧ 0 ≤ max ax bx) ∧ (min ay b_y ≤ 0 ∧ 0 ≤ max ay b_y))) :
    Bool.xor ((decide (0 < ay) != decide (0 < b_y)) && (decide (ay < b_y) == decide (0 < P - R))) ((decide (ax ≤ 0) != decide (bx ≤ 0)) && (decide (P - R < 0) == decide (ax < bx))) =
      Bool.xor (decide (0 < ax) && decide (0 < ay)) (decide (0 < bx) && decide (0 < b_y)) := by
  have k1 : decide (ax ≤ 0) = !decide (0 < ax) := by rw [Bool.eq_iff_iff]; simp
  have k2 : decide (bx ≤ 0) = !decide (0 < bx) := by rw [Bool.eq_iff_iff]; simp
  rw [k1, k2]
  by_cases h1 : 0 < ax <;> by_cases h2 : 0 < ay <;> by_cases h3 : 0 < bx <;> by_cases h4 : 0 < b_y
  all_goals
    by_cases e1 : ay < b_y <;> by_cases e2 : 0 < P - R <;> by_cases e3 : P - R < 0 <;> by_cases e4 : ax < bx <;> first | (exfalso; omega) | (simp only [h1, h2, h3, h4, e1, e2, e3, e4]; rfl)
theorem dec_eq {p q : Prop} [Decidable p] [Decidable q] (h : p ↔ q) : decide p = decide q := by rw [decide_eq_decide]; exact h
theorem edge_parity {a b p : Pt} (h : ¬ betZ a b p) : Bool.xor (rightB a b p) (upcB a b p) = Bool.xor (quadB p a) (quadB p b) := by
  have hc : crossZ a b p = (a.x - p.x) * (b.y - p.y) - (a.y - p.y) * (b.x - p.x) := by unfold crossZ; grind
  have := parity_num (a.x - p.x) (a.y - p.y) (b.x - p.x) (b.y - p.y) _ _ (sgn_pos (a.x - p.x) (b.y - p.y)) (sgn_neg _ _) (sgn_pos (a.y - p.y) (b.x - p.x)) (sgn_neg _ _) (by
    intro ⟨h0, h1, h2⟩
    exact h ⟨by rw [hc]; exact h0, by omega, by omega⟩)
  rw [← hc] at this
  unfold rightB upcB quadB
  rw [dec_eq (p := p.y < a.y) (q := 0 < a.y - p.y) (by omega), dec_eq (p := p.y < b.y) (q := 0 < b.y - p.y) (by omega), dec_eq (p := a.y < b.y) (q := a.y - p.y < b.y - p.y) (by omega),
    dec_eq (p := a.x ≤ p.x) (q := a.x - p.x ≤ 0) (by omega), dec_eq (p := b.x ≤ p.x) (q := b.x - p.x ≤ 0) (by omega), dec_eq (p := a.x < b.x) (q := a.x - p.x < b.x - p.x) (by omega),
    dec_eq (p := p.x < a.x) (q := 0 < a.x - p.x) (by omega), dec_eq (p := p.x < b.x) (q := 0 < b.x - p.x) (by omega)]
  exact this
theorem parity_eq (l : List Pt) (p : Pt) (h : ∀ i, i < l.length → ¬ betZ (cor l i) (cor l (i + 1)) p) :
    parN (fun i => rightB (cor l i) (cor l (i + 1)) p) l.length = parN (fun i => upcB (cor l i) (cor l (i + 1)) p) l.length := by
  have h1 := parN_congr (f := fun i => Bool.xor (rightB (cor l i) (cor l (i + 1)) p) (upcB (cor l i) (cor l (i + 1)) p)) (g := fun i => Bool.xor (quadB p (cor l i)) (quadB p (cor l (i + 1)))) l.length (fun i hi => edge_parity (h i hi))
  rw [parN_xor, parN_tele (fun i => quadB p (cor l i)), cor_len] at h1
  revert h1
  cases parN (fun i => rightB (cor l i) (cor l (i + 1)) p) l.length <;> cases parN (fun i => upcB (cor l i) (cor l (i + 1)) p) l.length <;> cases quadB p (cor l 0) <;> simp
end Go.Proofs.Ytmhmfjgahhgbpaa

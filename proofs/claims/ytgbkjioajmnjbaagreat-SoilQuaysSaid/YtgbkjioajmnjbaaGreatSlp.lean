/- Soils, borings, grounds as lists: what is wrong with them, the boring of a place, the soil at a level, columns. Falling levels: the greatest stable levels below given ones. Plain mathematics: nothing of the program. -/
import Derived.Test.YtgbkjioajmnjbaaGreatBpure
import Derived.Laws.Strings

namespace Go.Proofs.YtgbkjioajmnjbaaGreat
open Go

/-- The first error among f 0 .. f (n - 1), or 0. -/
def firstE (f : Nat → Int) : Nat → Int
  | 0 => 0
  | n + 1 => if firstE f n = 0 then f n else firstE f n
theorem firstE_at (f : Nat → Int) {k : Nat} (h0 : firstE f k = 0) (h : f k ≠ 0) : ∀ {n : Nat}, k < n → firstE f n = f k
  | 0, hk => absurd hk (Nat.not_lt_zero _)
  | n + 1, hk => by
    rw [firstE]
    by_cases hn : k = n
    · subst hn; rw [if_pos h0]
    · have := firstE_at f h0 h (n := n) (by omega)
      rw [if_neg (by rw [this]; exact h), this]
theorem firstE_step (f : Nat → Int) {k : Nat} (h0 : firstE f k = 0) (h : f k = 0) : firstE f (k + 1) = 0 := by rw [firstE, if_pos h0, h]
theorem firstE_zero (f : Nat → Int) : ∀ {n : Nat}, firstE f n = 0 → ∀ k, k < n → f k = 0
  | 0, _, k, hk => absurd hk (Nat.not_lt_zero _)
  | n + 1, h, k, hk => by
    rw [firstE] at h
    by_cases h1 : firstE f n = 0
    · rw [if_pos h1] at h
      by_cases hn : k = n
      · subst hn; exact h
      · exact firstE_zero f h1 k (by omega)
    · rw [if_neg h1] at h; exact absurd h h1
theorem firstE_all (f : Nat → Int) : ∀ {n : Nat}, (∀ k, k < n → f k = 0) → firstE f n = 0
  | 0, _ => rfl
  | n + 1, h => firstE_step f (firstE_all f fun k hk => h k (by omega)) (h n (by omega))
theorem firstE_congr {f g : Nat → Int} : ∀ (n : Nat), (∀ k, k < n → f k = g k) → firstE f n = firstE g n
  | 0, _ => rfl
  | n + 1, h => by rw [firstE, firstE, firstE_congr n (fun k hk => h k (by omega)), h n (by omega)]

/-- Two texts are the same. -/
def sameS (a b : ByteArray) : Bool := a.toList == b.toList
theorem sameS_iff (a b : ByteArray) : sameS a b = true ↔ a = b := by
  unfold sameS
  rw [beq_iff_eq, ByteArray.toList_eq, ByteArray.toList_eq]
  constructor
  · intro h
    cases a; cases b
    simp only at h
    rw [Array.toList_inj.1 h]
  · rintro rfl; rfl
theorem sameS_comm (a b : ByteArray) : sameS a b = sameS b a := by rw [Bool.eq_iff_iff, sameS_iff, sameS_iff]; exact eq_comm
theorem sameS_self (a : ByteArray) : sameS a a = true := (sameS_iff a a).2 rfl
theorem sameS_lit (a b : ByteArray) : sameS a b = decide (a.data.toList = b.data.toList) := by
  rw [Bool.eq_iff_iff, decide_eq_true_eq]
  unfold sameS
  rw [beq_iff_eq, ByteArray.toList_eq, ByteArray.toList_eq]

structure So where
  s : ByteArray
  run : Int
  den : Int
  num : Int
  dn : Int
structure La where
  t : Int
  s : ByteArray
structure Bo where
  s : ByteArray
  x : Int
  y : Int
  l : List La
  A : Option Addr
  c : Nat
instance : Inhabited So := ⟨⟨⟨#[]⟩, 0, 0, 0, 0⟩⟩
instance : Inhabited La := ⟨⟨0, ⟨#[]⟩⟩⟩
instance : Inhabited Bo := ⟨⟨⟨#[]⟩, 0, 0, [], none, 0⟩⟩
/-- The element of a list. -/
def el {α : Type} [Inhabited α] (l : List α) (k : Nat) : α := l.getD k default
theorem el_lt {α : Type} [Inhabited α] (l : List α) (k : Nat) (h : k < l.length) : el l k = l[k] := by simp [el, List.getD, h]

/-- An earlier element has the name of element k. -/
def dupAt (nm : Nat → ByteArray) (k : Nat) : Bool := anyN (fun j => sameS (nm j) (nm k)) k
/-- What is wrong with element k of a list whose elements have names. -/
def namedE (bad : Nat → Bool) (nm : Nat → ByteArray) (ck : Nat → Int) (k : Nat) : Int := if bad k = true then 4 else if dupAt nm k = true then 5 else ck k
def numB (s : So) : Bool := withinB s.run 1 1000 && (withinB s.den 1 5000 && (withinB s.num 1 1000 && (withinB s.dn 1 1000 && decide (s.dn ≤ s.num))))
def numE (s : So) : Int := if numB s = true then 0 else 2
theorem numB_iff (s : So) : numB s = true ↔ (1 ≤ s.run ∧ s.run ≤ 1000) ∧ (1 ≤ s.den ∧ s.den ≤ 5000) ∧ (1 ≤ s.num ∧ s.num ≤ 1000) ∧ (1 ≤ s.dn ∧ s.dn ≤ 1000) ∧ s.dn ≤ s.num := by simp [numB, withinB]
/-- The error of a number of elements. -/
def cntE (n : Nat) (most : Int) : Int := if n = 0 then 10 else if most < (n : Int) then 8 else 0
theorem cntE_zero {n : Nat} {most : Int} (h : cntE n most = 0) : 0 < n ∧ (n : Int) ≤ most := by
  unfold cntE at h
  split at h
  · cases h
  · split at h
    · cases h
    · omega
/-- There is a soil with a name. -/
def hasSoil (soils : List So) (s : ByteArray) : Bool := anyN (fun j => sameS (el soils j).s s) soils.length
def laE (soils : List So) (l : List La) (k : Nat) : Int :=
  if lvB (el l k).t = false then 2 else if 0 < k ∧ (el l (k - 1)).t ≤ (el l k).t then 9 else if hasSoil soils (el l k).s = false then 6 else 0
def boE (soils : List So) (b : Bo) : Int := if plB b.x b.y = false then 2 else if cntE b.l.length 12 ≠ 0 then cntE b.l.length 12 else firstE (laE soils b.l) b.l.length

/-- The number of the first one of the least. -/
def nearN (d : Nat → Int) : Nat → Nat
  | 0 => 0
  | k + 1 => if d k < d (nearN d k) then k else nearN d k
theorem nearN_lt (d : Nat → Int) : ∀ (n : Nat), 0 < n → nearN d n < n
  | 0, h => absurd h (Nat.lt_irrefl _)
  | k + 1, _ => by
    rw [nearN]
    split
    · omega
    · cases k with
      | zero => simp [nearN]
      | succ k => have := nearN_lt d (k + 1) (by omega); omega
theorem nearN_le (d : Nat → Int) : ∀ (n : Nat), nearN d n ≤ n
  | 0 => Nat.le_refl _
  | k + 1 => by
    rw [nearN]
    split
    · omega
    · have := nearN_le d k; omega
theorem nearN_congr {d f : Nat → Int} {m : Nat} (h : ∀ k, k < m → d k = f k) (hm : 0 < m) : ∀ (n : Nat), n ≤ m → nearN d n = nearN f n
  | 0, _ => rfl
  | k + 1, hk => by
    have := nearN_congr h hm k (by omega)
    rw [nearN, nearN, this, h k (by omega), h (nearN f k) (by have := nearN_le f k; omega)]
/-- The number of the layer of a level. -/
def layN (l : List La) (z : Int) : Nat → Nat
  | 0 => 0
  | k + 1 => if z ≤ (el l k).t then k else layN l z k
theorem layN_lt (l : List La) (z : Int) : ∀ (n : Nat), 0 < n → layN l z n < n
  | 0, h => absurd h (Nat.lt_irrefl _)
  | k + 1, _ => by
    rw [layN]
    split
    · omega
    · cases k with
      | zero => simp [layN]
      | succ k => have := layN_lt l z (k + 1) (by omega); omega
end Go.Proofs.YtgbkjioajmnjbaaGreat

namespace Go.Proofs.YtgbkjioajmnjbaaGreat
open Go

theorem gi_set (L : List Int) (i : Nat) (x : Int) (hi : i < L.length) (j : Nat) : gi (L.set i x) j = if j = i then x else gi L j := by
  unfold gi
  simp only [List.getD, List.getElem?_set]
  by_cases h : i = j
  · subst h; simp [hi]
  · rw [if_neg h, if_neg (fun e => h e.symm)]
theorem gi_out (L : List Int) (j : Nat) (h : L.length ≤ j) : gi L j = 0 := by simp [gi, List.getD, List.getElem?_eq_none h]
theorem gi_ext {L M : List Int} (hl : L.length = M.length) (h : ∀ i, i < L.length → gi L i = gi M i) : L = M := by
  apply List.ext_getElem hl
  intro i h1 h2
  have := h i h1
  rwa [gi_lt _ _ h1, gi_lt _ _ h2] at this
/-- The sum of the levels. -/
def sumL (L : List Int) : Int := sumN (gi L) L.length
theorem sumN_set (L : List Int) (i : Nat) (x : Int) (hi : i < L.length) : ∀ n, sumN (gi (L.set i x)) n = sumN (gi L) n + (if i < n then x - gi L i else 0)
  | 0 => by simp [sumN]
  | n + 1 => by
    rw [sumN, sumN, sumN_set L i x hi n, gi_set L i x hi n]
    by_cases h1 : n = i
    · subst h1; simp; omega
    · have e : (i < n + 1) ↔ i < n := by omega
      simp only [if_neg h1, e]
      split <;> omega
theorem sumL_set (L : List Int) (i : Nat) (x : Int) (hi : i < L.length) : sumL (L.set i x) = sumL L + (x - gi L i) := by
  unfold sumL
  rw [List.length_set, sumN_set L i x hi, if_pos hi]
theorem sumN_low (f : Nat → Int) : ∀ n, (∀ i, i < n → -20000 ≤ f i) → -20000 * (n : Int) ≤ sumN f n
  | 0, _ => by simp [sumN]
  | n + 1, h => by
    have h1 := sumN_low f n (fun i hi => h i (by omega))
    have h2 := h n (by omega)
    rw [sumN]
    push_cast
    omega
/-- Two cells differ by at most d. -/
def okP (L : List Int) (a b : Nat) (d : Int) : Prop := gi L a ≤ gi L b + d ∧ gi L b ≤ gi L a + d
/-- Levels L that have fallen from M, and not below any stable ones. -/
structure Falls (ps : List (Nat × Nat)) (al : Nat → Nat → Int) (M L : List Int) : Prop where
  len : L.length = M.length
  le : ∀ i, gi L i ≤ gi M i
  unk : ∀ i, gi M i = 30000 → gi L i = 30000
  lo : ∀ i, gi M i ≠ 30000 → -20000 ≤ gi L i
  top : ∀ X : List Int, (∀ i, gi X i ≤ gi M i) → (∀ p ∈ ps, okP X p.1 p.2 (al p.1 p.2)) → ∀ i, gi X i ≤ gi L i
theorem Falls.start (ps : List (Nat × Nat)) (al : Nat → Nat → Int) {M : List Int} (h : ∀ i, i < M.length → gi M i = 30000 ∨ (-20000 ≤ gi M i ∧ gi M i ≤ 20000)) : Falls ps al M M :=
  ⟨rfl, fun _ => Int.le_refl _, fun _ h => h, fun i hi => by
    by_cases hl : i < M.length
    · rcases h i hl with h1 | h1
      · exact absurd h1 hi
      · exact h1.1
    · rw [gi_out _ _ (by omega)]; omega, fun _ h1 _ => h1⟩
theorem Falls.set {ps : List (Nat × Nat)} {al : Nat → Nat → Int} {M L : List Int} (h : Falls ps al M L) (i : Nat) (x : Int) (hi : i < M.length) (hk : gi M i ≠ 30000) (hx : x < gi L i) (hlo : -20000 ≤ x)
    (htop : ∀ X : List Int, (∀ i, gi X i ≤ gi M i) → (∀ p ∈ ps, okP X p.1 p.2 (al p.1 p.2)) → gi X i ≤ x) : Falls ps al M (L.set i x) := by
  have hl : i < L.length := by rw [h.len]; exact hi
  refine ⟨by rw [List.length_set, h.len], fun j => ?_, fun j hj => ?_, fun j hj => ?_, fun X h1 h2 j => ?_⟩
  · rw [gi_set _ _ _ hl]
    have := h.le j
    split
    · rename_i e; subst e; omega
    · exact this
  · rw [gi_set _ _ _ hl, if_neg (by rintro rfl; exact hk hj)]
    exact h.unk j hj
  · rw [gi_set _ _ _ hl]
    split
    · exact hlo
    · exact h.lo j hj
  · rw [gi_set _ _ _ hl]
    split
    · rename_i e; subst e; exact htop X h1 h2
    · exact h.top X h1 h2 j
/-- What the lower one of two cells allows. -/
def mostL (L : List Int) (a b : Nat) (d : Int) : Int := min (gi L a) (gi L b) + d
theorem Falls.most {ps : List (Nat × Nat)} {al : Nat → Nat → Int} {M L : List Int} (h : Falls ps al M L) {a b : Nat} (hp : (a, b) ∈ ps) (hd : 0 ≤ al a b) (ha : gi M a ≠ 30000) (hb : gi M b ≠ 30000) :
    -20000 ≤ mostL L a b (al a b) ∧ ∀ X : List Int, (∀ i, gi X i ≤ gi M i) → (∀ p ∈ ps, okP X p.1 p.2 (al p.1 p.2)) → gi X a ≤ mostL L a b (al a b) ∧ gi X b ≤ mostL L a b (al a b) := by
  have h1 := h.lo a ha
  have h2 := h.lo b hb
  unfold mostL
  refine ⟨by omega, fun X h3 h4 => ?_⟩
  have h5 := h.top X h3 h4 a
  have h6 := h.top X h3 h4 b
  have h7 := h4 _ hp
  unfold okP at h7
  simp only at h7
  omega
theorem okP_most {L : List Int} {a b : Nat} {d : Int} (h1 : gi L a ≤ mostL L a b d) (h2 : gi L b ≤ mostL L a b d) : okP L a b d := by
  unfold mostL at h1 h2
  unfold okP
  omega
/-- The levels to which M slumps. -/
def IsSl (ps : List (Nat × Nat)) (al : Nat → Nat → Int) (M L : List Int) : Prop := Falls ps al M L ∧ ∀ p ∈ ps, okP L p.1 p.2 (al p.1 p.2)
theorem IsSl.one {ps : List (Nat × Nat)} {al : Nat → Nat → Int} {M L K : List Int} (h : IsSl ps al M L) (k : IsSl ps al M K) : L = K := by
  refine gi_ext (by rw [h.1.len, k.1.len]) fun i _ => ?_
  have h1 := h.1.top K k.1.le k.2 i
  have h2 := k.1.top L h.1.le h.2 i
  omega
/-- The pairs of neighbouring known cells, n cells in rows of cn. -/
def prsAt (cn n : Nat) (kn : Nat → Bool) (a : Nat) : List (Nat × Nat) :=
  (if (a + 1) % cn ≠ 0 ∧ kn a = true ∧ kn (a + 1) = true then [(a, a + 1)] else []) ++ (if a + cn < n ∧ kn a = true ∧ kn (a + cn) = true then [(a, a + cn)] else [])
def prsN (cn n : Nat) (kn : Nat → Bool) (k : Nat) : List (Nat × Nat) := (List.range k).flatMap (prsAt cn n kn)
theorem prsN_succ (cn n : Nat) (kn : Nat → Bool) (k : Nat) : prsN cn n kn (k + 1) = prsN cn n kn k ++ prsAt cn n kn k := by
  unfold prsN
  rw [List.range_succ, List.flatMap_append]
  simp
theorem prsAt_len (cn n : Nat) (kn : Nat → Bool) (a : Nat) : (prsAt cn n kn a).length ≤ 2 := by
  unfold prsAt
  rw [List.length_append]
  have h1 : ∀ (p : Prop) [Decidable p] (x : Nat × Nat), (if p then [x] else []).length ≤ 1 := by intro p _ x; split <;> simp
  have h2 := h1 ((a + 1) % cn ≠ 0 ∧ kn a = true ∧ kn (a + 1) = true) (a, a + 1)
  have h3 := h1 (a + cn < n ∧ kn a = true ∧ kn (a + cn) = true) (a, a + cn)
  omega
theorem prsN_len (cn n : Nat) (kn : Nat → Bool) : ∀ k, (prsN cn n kn k).length ≤ 2 * k
  | 0 => by simp [prsN]
  | k + 1 => by
    rw [prsN_succ, List.length_append]
    have h1 := prsN_len cn n kn k
    have h2 := prsAt_len cn n kn k
    omega
theorem mem_iff1 {p : Prop} [Decidable p] {x y : Nat × Nat} : y ∈ (if p then [x] else []) ↔ p ∧ y = x := by split <;> simp [*]
theorem prs_mem {cn rn : Nat} {kn : Nat → Bool} {p : Nat × Nat} : p ∈ prsN cn (cn * rn) kn (cn * rn) ↔ p.1 < cn * rn ∧ p.2 < cn * rn ∧ kn p.1 = true ∧ kn p.2 = true ∧ (((p.1 + 1) % cn ≠ 0 ∧ p.2 = p.1 + 1) ∨ p.2 = p.1 + cn) := by
  have hrow : ∀ a, a < cn * rn → (a + 1) % cn ≠ 0 → a + 1 < cn * rn := by
    intro a h1 h2
    rcases Nat.lt_or_ge (a + 1) (cn * rn) with h | h
    · exact h
    · have : a + 1 = cn * rn := by omega
      rw [this, Nat.mul_mod_right] at h2
      exact absurd rfl h2
  unfold prsN
  rw [List.mem_flatMap]
  constructor
  · rintro ⟨a, ha, hp⟩
    have ha := List.mem_range.1 ha
    unfold prsAt at hp
    rcases List.mem_append.1 hp with h | h
    · obtain ⟨⟨h1, h2, h3⟩, rfl⟩ := mem_iff1.1 h
      exact ⟨ha, hrow a ha h1, h2, h3, .inl ⟨h1, rfl⟩⟩
    · obtain ⟨⟨h1, h2, h3⟩, rfl⟩ := mem_iff1.1 h
      exact ⟨ha, h1, h2, h3, .inr rfl⟩
  · rintro ⟨h1, h2, h3, h4, h5⟩
    refine ⟨p.1, List.mem_range.2 h1, ?_⟩
    unfold prsAt
    rcases h5 with ⟨h5, h6⟩ | h5
    · exact List.mem_append_left _ (mem_iff1.2 ⟨⟨h5, h3, by rw [← h6]; exact h4⟩, by rw [← h6]⟩)
    · exact List.mem_append_right _ (mem_iff1.2 ⟨⟨by omega, h3, by rw [← h5]; exact h4⟩, by rw [← h5]⟩)
end Go.Proofs.YtgbkjioajmnjbaaGreat

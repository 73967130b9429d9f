/- Ways over cells: a search in rounds, as lists. -/
import Derived.Test.YtgnakeemcccfjaaGreatPure6
namespace Go.Proofs.YtgnakeemcccfjaaGreat

def gn (p : List Nat) (k : Nat) : Nat := p.getD k 0
theorem gn_lt (p : List Nat) (k : Nat) (h : k < p.length) : gn p k = p[k] := by simp [gn, List.getD, h]
def cellsOf (O : List (Nat × Nat)) : List Nat := O.map Prod.fst
theorem cellsOf_snoc (O : List (Nat × Nat)) (x : Nat × Nat) : cellsOf (O ++ [x]) = cellsOf O ++ [x.1] := by simp [cellsOf]
theorem cellsOf_len (O : List (Nat × Nat)) : (cellsOf O).length = O.length := by simp [cellsOf]

/-- Numbers below n of which none stands there twice are at most n. -/
theorem nodup_le : ∀ (n : Nat) (l : List Nat), l.Nodup → (∀ x ∈ l, x < n) → l.length ≤ n
  | 0, l, _, h => by
    cases l with
    | nil => simp
    | cons x l => exact absurd (h x (by simp)) (by omega)
  | n + 1, l, hd, h => by
    have h1 : (l.filter (fun x => decide (x ≠ n))).length ≤ n := by
      apply nodup_le n
      · exact hd.sublist List.filter_sublist
      · intro x hx
        have := List.mem_filter.1 hx
        have h2 := h x this.1
        have h3 : x ≠ n := by simpa using this.2
        omega
    have h2 : ∀ l : List Nat, l.Nodup → l.length ≤ (l.filter (fun x => decide (x ≠ n))).length + 1 := by
      intro l
      induction l with
      | nil => intro _; simp
      | cons y l ih =>
        intro hd
        have hd' := List.nodup_cons.1 hd
        by_cases hy : y = n
        · have : l.filter (fun x => decide (x ≠ n)) = l := by
            apply List.filter_eq_self.2
            intro x hx
            have : x ≠ n := fun e => hd'.1 (by rw [hy, ← e]; exact hx)
            simpa using this
          simp [hy]
          have h3 : (l.filter (fun x => !decide (x = n))).length = l.length := by
            have e : (fun x => decide (x ≠ n)) = (fun x => !decide (x = n)) := by funext x; simp
            rw [← e, this]
          omega
        · have := ih hd'.2
          simp [hy] at this ⊢
          exact this
    have := h2 l hd
    omega

section
variable (adj : Nat → Nat → Prop) (op : Nat → Bool) (n : Nat) (F T : List Nat)

/-- A way from F to T over open cells. -/
def IsWay (p : List Nat) : Prop :=
  0 < p.length ∧ gn p 0 ∈ F ∧ gn p (p.length - 1) ∈ T ∧ (∀ k, k < p.length → gn p k < n ∧ op (gn p k) = true) ∧ ∀ k, k + 1 < p.length → adj (gn p k) (gn p (k + 1))
def NoWay : Prop := ∀ p, ¬ IsWay adj op n F T p

/-- Cells that have been reached, each with the one before. -/
inductive Tree : List (Nat × Nat) → Prop
  | nil : Tree []
  | snoc {O : List (Nat × Nat)} {c b : Nat} : Tree O → c < n → op c = true → c ∉ cellsOf O → ((b = c ∧ c ∈ F) ∨ (b ∈ cellsOf O ∧ adj b c)) → Tree (O ++ [(c, b)])
/-- Steps that may be taken next. -/
def Queue (O Q : List (Nat × Nat)) : Prop := ∀ x ∈ Q, x.1 < n ∧ ((x.2 = x.1 ∧ x.1 ∈ F) ∨ (x.2 ∈ cellsOf O ∧ adj x.2 x.1))
/-- What can be reached next is to come. -/
def Closed (O : List (Nat × Nat)) (Q : List Nat) : Prop :=
  (∀ c ∈ F, op c = true → c ∈ cellsOf O ∨ c ∈ Q) ∧ (∀ c ∈ cellsOf O, ∀ d, d < n → adj c d → op d = true → d ∈ cellsOf O ∨ d ∈ Q) ∧ ∀ c ∈ cellsOf O, c ∉ T

variable {adj op n F T}
theorem Tree.lt {O : List (Nat × Nat)} (h : Tree adj op n F O) : ∀ c ∈ cellsOf O, c < n ∧ op c = true := by
  induction h with
  | nil => intro c hc; simp [cellsOf] at hc
  | snoc _ h1 h2 _ _ ih =>
    intro c hc
    rw [cellsOf_snoc, List.mem_append] at hc
    rcases hc with hc | hc
    · exact ih c hc
    · simp at hc; subst hc; exact ⟨h1, h2⟩
theorem Tree.nodup {O : List (Nat × Nat)} (h : Tree adj op n F O) : (cellsOf O).Nodup := by
  induction h with
  | nil => simp [cellsOf]
  | snoc _ _ _ h3 _ ih =>
    rw [cellsOf_snoc]
    rw [List.nodup_append]
    refine ⟨ih, by simp, ?_⟩
    intro x hx y hy e
    simp at hy
    subst hy e
    exact h3 hx
theorem Tree.len {O : List (Nat × Nat)} (h : Tree adj op n F O) : O.length ≤ n := by
  rw [← cellsOf_len]
  exact nodup_le n _ h.nodup (fun x hx => (h.lt x hx).1)
theorem Tree.one {O : List (Nat × Nat)} (h : Tree adj op n F O) : ∀ {c b b' : Nat}, (c, b) ∈ O → (c, b') ∈ O → b = b' := by
  induction h with
  | nil => intro c b b' h; simp at h
  | snoc _ _ _ h3 _ ih =>
    intro c b b' h h'
    rw [List.mem_append] at h h'
    have key : ∀ {c b : Nat} {O : List (Nat × Nat)}, (c, b) ∈ O → c ∈ cellsOf O := fun h => List.mem_map.2 ⟨_, h, rfl⟩
    rcases h with h | h <;> rcases h' with h' | h'
    · exact ih h h'
    · simp at h'; obtain ⟨e1, e2⟩ := h'; subst e1; exact absurd (key h) h3
    · simp at h; obtain ⟨e1, e2⟩ := h; subst e1; exact absurd (key h') h3
    · simp at h h'; rw [h.2, h'.2]
/-- The place at which a cell was reached. -/
def pos (O : List (Nat × Nat)) (c : Nat) : Nat := (cellsOf O).idxOf c
theorem pos_old {O : List (Nat × Nat)} {c : Nat} (x : Nat × Nat) (h : c ∈ cellsOf O) : pos (O ++ [x]) c = pos O c := by
  unfold pos
  rw [cellsOf_snoc, List.idxOf_append, if_pos h]
theorem pos_lt {O : List (Nat × Nat)} {c : Nat} (h : c ∈ cellsOf O) : pos O c < O.length := by
  unfold pos
  rw [← cellsOf_len]
  exact List.idxOf_lt_length_iff.2 h
theorem pos_new {O : List (Nat × Nat)} {c b : Nat} (h : c ∉ cellsOf O) : pos (O ++ [(c, b)]) c = O.length := by
  unfold pos
  rw [cellsOf_snoc, List.idxOf_append, if_neg h]
  simp [cellsOf_len]
theorem Tree.up {O : List (Nat × Nat)} (h : Tree adj op n F O) (hirr : ∀ c, ¬ adj c c) : ∀ {c b : Nat}, (c, b) ∈ O → (b = c ∧ c ∈ F) ∨ (b ≠ c ∧ b ∈ cellsOf O ∧ adj b c ∧ pos O b < pos O c) := by
  induction h with
  | nil => intro c b h; simp at h
  | snoc _ _ _ h3 h4 ih =>
    rename_i O' c' b' _ _ _
    intro c b h
    rw [List.mem_append] at h
    rcases h with h | h
    · have hc : c ∈ cellsOf O' := List.mem_map.2 ⟨_, h, rfl⟩
      rcases ih h with h | ⟨e1, e2, e3, e4⟩
      · exact .inl h
      · refine .inr ⟨e1, by rw [cellsOf_snoc]; exact List.mem_append_left _ e2, e3, ?_⟩
        rw [pos_old _ e2, pos_old _ hc]
        exact e4
    · simp at h
      obtain ⟨e1, e2⟩ := h
      subst e1 e2
      rcases h4 with h4 | ⟨h4, h5⟩
      · exact .inl h4
      · refine .inr ⟨fun e => hirr c (e ▸ h5), by rw [cellsOf_snoc]; exact List.mem_append_left _ h4, h5, ?_⟩
        rw [pos_old _ h4, pos_new h3]
        exact pos_lt h4
theorem mem_cells {O : List (Nat × Nat)} {c : Nat} (h : c ∈ cellsOf O) : ∃ b, (c, b) ∈ O := by
  obtain ⟨x, hx, rfl⟩ := List.mem_map.1 h
  exact ⟨x.2, hx⟩

/-- The beginning of the search. -/
theorem closed_start : Closed adj op n F T [] F := ⟨fun c hc _ => .inr hc, fun c hc => by simp [cellsOf] at hc, fun c hc => by simp [cellsOf] at hc⟩
theorem queue_start (hF : ∀ c ∈ F, c < n) : Queue adj n F [] (F.map fun c => (c, c)) := by
  intro x hx
  obtain ⟨c, hc, rfl⟩ := List.mem_map.1 hx
  exact ⟨hF c hc, .inl ⟨rfl, hc⟩⟩
theorem Closed.skip {O : List (Nat × Nat)} {c : Nat} {Q : List Nat} (h : Closed adj op n F T O (c :: Q)) (hc : c ∈ cellsOf O ∨ op c = false) : Closed adj op n F T O Q := by
  obtain ⟨h1, h2, h3⟩ := h
  have key : ∀ d, op d = true → d ∈ cellsOf O ∨ d ∈ c :: Q → d ∈ cellsOf O ∨ d ∈ Q := by
    intro d hd h
    rcases h with h | h
    · exact .inl h
    · rcases List.mem_cons.1 h with rfl | h
      · rcases hc with hc | hc
        · exact .inl hc
        · rw [hc] at hd; cases hd
      · exact .inr h
  exact ⟨fun d hd ho => key d ho (h1 d hd ho), fun e he d hdn hd ho => key d ho (h2 e he d hdn hd ho), h3⟩
theorem Closed.take {O : List (Nat × Nat)} {c b : Nat} {Q N : List Nat} (h : Closed adj op n F T O (c :: Q)) (hT : c ∉ T) (hN : ∀ d, d < n → adj c d → d ∈ N) : Closed adj op n F T (O ++ [(c, b)]) (Q ++ N) := by
  obtain ⟨h1, h2, h3⟩ := h
  rw [show Closed adj op n F T (O ++ [(c, b)]) (Q ++ N) = ((∀ d ∈ F, op d = true → d ∈ cellsOf (O ++ [(c, b)]) ∨ d ∈ Q ++ N) ∧ (∀ e ∈ cellsOf (O ++ [(c, b)]), ∀ d, d < n → adj e d → op d = true → d ∈ cellsOf (O ++ [(c, b)]) ∨ d ∈ Q ++ N) ∧ ∀ e ∈ cellsOf (O ++ [(c, b)]), e ∉ T) from rfl, cellsOf_snoc]
  have key : ∀ d, d ∈ cellsOf O ∨ d ∈ c :: Q → d ∈ cellsOf O ++ [c] ∨ d ∈ Q ++ N := by
    intro d h
    rcases h with h | h
    · exact .inl (List.mem_append_left _ h)
    · rcases List.mem_cons.1 h with rfl | h
      · exact .inl (by simp)
      · exact .inr (List.mem_append_left _ h)
  refine ⟨fun d hd ho => key d (h1 d hd ho), fun e he d hdn hd ho => ?_, fun e he => ?_⟩
  · rw [List.mem_append] at he
    rcases he with he | he
    · exact key d (h2 e he d hdn hd ho)
    · simp at he; subst he; exact .inr (List.mem_append_right _ (hN d hdn hd))
  · rw [List.mem_append] at he
    rcases he with he | he
    · exact h3 e he
    · simp at he; subst he; exact hT
theorem Closed.done {O : List (Nat × Nat)} (h : Closed adj op n F T O []) : NoWay adj op n F T := by
  rintro p ⟨h0, h1, h2, h3, h4⟩
  obtain ⟨c1, c2, c3⟩ := h
  have all : ∀ k, k < p.length → gn p k ∈ cellsOf O := by
    intro k
    induction k with
    | zero => intro hk; simpa using c1 _ h1 (h3 0 hk).2
    | succ k ih => intro hk; simpa using c2 _ (ih (by omega)) _ (h3 _ hk).1 (h4 k hk) (h3 _ hk).2
  exact c3 _ (all (p.length - 1) (by omega)) h2
theorem Queue.grow {O Q : List (Nat × Nat)} (h : Queue adj n F O Q) (x : Nat × Nat) : Queue adj n F (O ++ [x]) Q := by
  intro y hy
  obtain ⟨h1, h2⟩ := h y hy
  refine ⟨h1, ?_⟩
  rcases h2 with h2 | ⟨h2, h3⟩
  · exact .inl h2
  · exact .inr ⟨by rw [cellsOf_snoc]; exact List.mem_append_left _ h2, h3⟩
theorem Queue.add {O Q : List (Nat × Nat)} {c d : Nat} (h : Queue adj n F O Q) (hc : c ∈ cellsOf O) (hd : d < n) (ha : adj c d) : Queue adj n F O (Q ++ [(d, c)]) := by
  intro y hy
  rcases List.mem_append.1 hy with hy | hy
  · exact h y hy
  · simp at hy; subst hy; exact ⟨hd, .inr ⟨hc, ha⟩⟩

/-- The way back from a cell. -/
def IsBack (O : List (Nat × Nat)) (last i : Nat) (U : List Nat) : Prop :=
  0 < U.length ∧ gn U 0 = last ∧ gn U (U.length - 1) = i ∧ (∀ k, k < U.length → gn U k ∈ cellsOf O) ∧ ∀ k, k + 1 < U.length → adj (gn U (k + 1)) (gn U k)
theorem gn_snoc_old (U : List Nat) (x k : Nat) (h : k < U.length) : gn (U ++ [x]) k = gn U k := by
  rw [gn_lt _ _ (by simp; omega), gn_lt _ _ h, List.getElem_append_left h]
theorem gn_snoc_new (U : List Nat) (x : Nat) : gn (U ++ [x]) U.length = x := by
  rw [gn_lt _ _ (by simp)]; simp
theorem back_start {O : List (Nat × Nat)} {c : Nat} (h : c ∈ cellsOf O) : IsBack (adj := adj) O c c [c] :=
  ⟨by simp, rfl, rfl, fun k hk => by simp at hk; subst hk; exact h, fun k hk => by simp at hk⟩
theorem IsBack.more {O : List (Nat × Nat)} {last i b : Nat} {U : List Nat} (h : IsBack (adj := adj) O last i U) (hb : b ∈ cellsOf O) (ha : adj b i) : IsBack (adj := adj) O last b (U ++ [b]) := by
  obtain ⟨h1, h2, h3, h4, h5⟩ := h
  refine ⟨by simp, by rw [gn_snoc_old _ _ _ h1]; exact h2, by simp [gn_snoc_new], fun k hk => ?_, fun k hk => ?_⟩
  · rcases Nat.lt_or_ge k U.length with h | h
    · rw [gn_snoc_old _ _ _ h]; exact h4 k h
    · have : k = U.length := by simp at hk; omega
      subst this; rw [gn_snoc_new]; exact hb
  · rcases Nat.lt_or_ge (k + 1) U.length with h | h
    · rw [gn_snoc_old _ _ _ h, gn_snoc_old _ _ _ (by omega)]; exact h5 k h
    · have : k + 1 = U.length := by simp at hk; omega
      rw [this, gn_snoc_new, gn_snoc_old _ _ _ (by omega), show k = U.length - 1 by omega, h3]; exact ha
theorem gn_rev (U : List Nat) (k : Nat) (h : k < U.length) : gn U.reverse k = gn U (U.length - 1 - k) := by
  rw [gn_lt _ _ (by simpa using h), gn_lt _ _ (by omega), List.getElem_reverse]
theorem IsBack.way {O : List (Nat × Nat)} {last i : Nat} {U : List Nat} (h : IsBack (adj := adj) O last i U) (ht : Tree adj op n F O) (hi : i ∈ F) (hl : last ∈ T) : IsWay adj op n F T U.reverse := by
  obtain ⟨h1, h2, h3, h4, h5⟩ := h
  refine ⟨by simpa using h1, ?_, ?_, fun k hk => ?_, fun k hk => ?_⟩
  · rw [gn_rev _ _ h1, Nat.sub_zero, h3]; exact hi
  · rw [List.length_reverse, gn_rev _ _ (by omega), show U.length - 1 - (U.length - 1) = 0 by omega, h2]; exact hl
  · rw [List.length_reverse] at hk
    rw [gn_rev _ _ hk]
    exact ht.lt _ (h4 _ (by omega))
  · rw [List.length_reverse] at hk
    rw [gn_rev _ _ hk, gn_rev _ _ (by omega)]
    have := h5 (U.length - 1 - (k + 1)) (by omega)
    rwa [show U.length - 1 - (k + 1) + 1 = U.length - 1 - k by omega] at this
end
end Go.Proofs.YtgnakeemcccfjaaGreat

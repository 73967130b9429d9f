/- Windows: how they arise minute by minute, and own rows of any pairs of numbers. -/
import Derived.Test.YtblmljcgjibfgaaTrshift
namespace Go.Proofs.Ytblmljcgjibfgaa
open Go Go.RowKit Go.IntWalk Go.Shelf

/-- The windows of the first k minutes from f on, the last one first. -/
def wrev (G : Int → Bool) (f : Int) : Nat → List Pt
  | 0 => []
  | k + 1 => if G (f + (k : Int)) then (match wrev G f k with
      | [] => [⟨f + (k : Int), f + (k : Int)⟩]
      | p :: r => if p.y = f + (k : Int) - 1 then ⟨p.x, f + (k : Int)⟩ :: r else ⟨f + (k : Int), f + (k : Int)⟩ :: p :: r) else wrev G f k
def winL (G : Int → Bool) (f : Int) (k : Nat) : List Pt := (wrev G f k).reverse
theorem winL_zero (G : Int → Bool) (f : Int) : winL G f 0 = [] := rfl
theorem winL_no {G : Int → Bool} {f : Int} {k : Nat} (h : G (f + (k : Int)) = false) : winL G f (k + 1) = winL G f k := by
  unfold winL
  rw [wrev, h]; rfl
theorem winL_first {G : Int → Bool} {f : Int} {k : Nat} (h : G (f + (k : Int)) = true) (h0 : winL G f k = []) : winL G f (k + 1) = [⟨f + (k : Int), f + (k : Int)⟩] := by
  unfold winL at *
  have h1 : wrev G f k = [] := by simpa using h0
  rw [wrev, h, h1]; rfl
theorem winL_more {G : Int → Bool} {f : Int} {k : Nat} {S : List Pt} {p : Pt} (h : G (f + (k : Int)) = true) (h0 : winL G f k = S ++ [p]) (hp : p.y = f + (k : Int) - 1) : winL G f (k + 1) = S ++ [⟨p.x, f + (k : Int)⟩] := by
  unfold winL at *
  have h1 : wrev G f k = p :: S.reverse := by
    have := congrArg List.reverse h0
    simpa using this
  rw [wrev, h, h1]
  simp [hp]
theorem winL_new {G : Int → Bool} {f : Int} {k : Nat} {S : List Pt} {p : Pt} (h : G (f + (k : Int)) = true) (h0 : winL G f k = S ++ [p]) (hp : p.y ≠ f + (k : Int) - 1) : winL G f (k + 1) = S ++ [p] ++ [⟨f + (k : Int), f + (k : Int)⟩] := by
  unfold winL at *
  have h1 : wrev G f k = p :: S.reverse := by
    have := congrArg List.reverse h0
    simpa using this
  rw [wrev, h, h1]
  simp [hp]
/-- What holds of each window. -/
theorem wrev_ok (G : Int → Bool) (f : Int) : ∀ (k : Nat), (wrev G f k).length ≤ k ∧ ∀ p ∈ wrev G f k, f ≤ p.x ∧ p.x ≤ p.y ∧ p.y < f + (k : Int) ∧ ∀ m, p.x ≤ m → m ≤ p.y → G m = true
  | 0 => ⟨Nat.le_refl _, fun p hp => by simp [wrev] at hp⟩
  | k + 1 => by
    obtain ⟨h1, h2⟩ := wrev_ok G f k
    rw [wrev]
    by_cases hG : G (f + (k : Int)) = true
    · rw [if_pos hG]
      cases hw : wrev G f k with
      | nil =>
        refine ⟨by simp, fun p hp => ?_⟩
        have hpe : p = ⟨f + (k : Int), f + (k : Int)⟩ := by simpa using hp
        subst hpe
        refine ⟨by dsimp only; omega, Int.le_refl _, by dsimp only; omega, fun m a b => ?_⟩
        dsimp only at a b
        rw [show m = f + (k : Int) by omega]; exact hG
      | cons q r =>
        rw [hw] at h1 h2
        dsimp only
        obtain ⟨q1, q2, q3, q4⟩ := h2 q (by simp)
        split
        · rename_i hy
          refine ⟨by simp at h1 ⊢; omega, fun p hp => ?_⟩
          rcases List.mem_cons.1 hp with rfl | hp
          · refine ⟨q1, by dsimp only; omega, by dsimp only; omega, fun m a b => ?_⟩
            dsimp only at a b
            by_cases hm : m = f + (k : Int)
            · rw [hm]; exact hG
            · exact q4 m a (by omega)
          · obtain ⟨p1, p2, p3, p4⟩ := h2 p (List.mem_cons_of_mem _ hp)
            exact ⟨p1, p2, by omega, p4⟩
        · refine ⟨by simp at h1 ⊢; omega, fun p hp => ?_⟩
          rcases List.mem_cons.1 hp with rfl | hp
          · refine ⟨by dsimp only; omega, Int.le_refl _, by dsimp only; omega, fun m a b => ?_⟩
            dsimp only at a b
            rw [show m = f + (k : Int) by omega]; exact hG
          · obtain ⟨p1, p2, p3, p4⟩ := h2 p hp
            exact ⟨p1, p2, by omega, p4⟩
    · rw [if_neg hG]
      exact ⟨by omega, fun p hp => by obtain ⟨p1, p2, p3, p4⟩ := h2 p hp; exact ⟨p1, p2, by omega, p4⟩⟩
theorem winL_len (G : Int → Bool) (f : Int) (k : Nat) : (winL G f k).length ≤ k := by
  unfold winL; rw [List.length_reverse]; exact (wrev_ok G f k).1
theorem winL_mem {G : Int → Bool} {f : Int} {k : Nat} {p : Pt} (h : p ∈ winL G f k) : f ≤ p.x ∧ p.x ≤ p.y ∧ p.y < f + (k : Int) ∧ ∀ m, p.x ≤ m → m ≤ p.y → G m = true :=
  (wrev_ok G f k).2 p (by unfold winL at h; simpa using h)
/-- Each window of a list lies within one of another list. -/
def Covers (big small : List Pt) : Prop := ∀ p ∈ small, ∃ q ∈ big, q.x ≤ p.x ∧ p.y ≤ q.y
theorem wrev_cov {G H : Int → Bool} (hGH : ∀ m, G m = true → H m = true) (f : Int) : ∀ k : Nat, Covers (wrev H f k) (wrev G f k) ∧ ∀ p r, wrev G f k = p :: r → p.y = f + (k : Int) - 1 → ∃ q s, wrev H f k = q :: s ∧ q.y = f + (k : Int) - 1 ∧ q.x ≤ p.x
  | 0 => ⟨fun p hp => by simp [wrev] at hp, fun p r h => by simp [wrev] at h⟩
  | k + 1 => by
    obtain ⟨h1, h2⟩ := wrev_cov hGH f k
    have okG := (wrev_ok G f k).2
    have okH := (wrev_ok H f k).2
    have hk : f + ((k + 1 : Nat) : Int) - 1 = f + (k : Int) := by omega
    rw [hk]
    by_cases hG : G (f + (k : Int)) = true
    · have hH := hGH _ hG
      rw [wrev, wrev, if_pos hG, if_pos hH]
      -- the list of H gets a head that ends at this minute
      have hhead : ∃ q s, (match wrev H f k with
          | [] => [⟨f + (k : Int), f + (k : Int)⟩]
          | p :: r => if p.y = f + (k : Int) - 1 then ⟨p.x, f + (k : Int)⟩ :: r else ⟨f + (k : Int), f + (k : Int)⟩ :: p :: r) = q :: s ∧ q.y = f + (k : Int) ∧ q.x ≤ f + (k : Int) ∧ (∀ z ∈ wrev H f k, ∃ z' ∈ q :: s, z'.x ≤ z.x ∧ z.y ≤ z'.y) ∧ (∀ z u, wrev H f k = z :: u → z.y = f + (k : Int) - 1 → q.x ≤ z.x) := by
        cases hw : wrev H f k with
        | nil => exact ⟨_, _, rfl, rfl, Int.le_refl _, fun z hz => absurd hz (by simp), fun z u h => by simp at h⟩
        | cons z u =>
          rw [hw] at okH
          obtain ⟨a1, a2, a3, _⟩ := okH z (by simp)
          dsimp only
          split
          · refine ⟨_, _, rfl, rfl, by dsimp only; omega, fun y hy => ?_, fun y v h _ => ?_⟩
            · rcases List.mem_cons.1 hy with rfl | hy
              · exact ⟨_, List.mem_cons_self .., Int.le_refl _, by dsimp only; omega⟩
              · exact ⟨y, List.mem_cons_of_mem _ hy, Int.le_refl _, Int.le_refl _⟩
            · injection h with h _
              subst h
              exact Int.le_refl _
          · refine ⟨_, _, rfl, rfl, Int.le_refl _, fun y hy => ⟨y, List.mem_cons_of_mem _ hy, Int.le_refl _, Int.le_refl _⟩, fun y v h hy => ?_⟩
            injection h with h _
            subst h
            contradiction
      obtain ⟨q, s, e1, e2, e3, e4, e5⟩ := hhead
      rw [e1]
      have hold : ∀ p ∈ wrev G f k, ∃ q' ∈ q :: s, q'.x ≤ p.x ∧ p.y ≤ q'.y := by
        intro p hp
        obtain ⟨z, hz, z1, z2⟩ := h1 p hp
        obtain ⟨z', hz', y1, y2⟩ := e4 z hz
        exact ⟨z', hz', by omega, by omega⟩
      cases hw : wrev G f k with
      | nil =>
        refine ⟨fun p hp => ?_, fun p r h _ => ?_⟩
        · have hpe : p = ⟨f + (k : Int), f + (k : Int)⟩ := by simpa using hp
          subst hpe
          exact ⟨q, List.mem_cons_self .., e3, by rw [e2]; exact Int.le_refl _⟩
        · injection h with h _
          subst h
          exact ⟨q, s, rfl, e2, e3⟩
      | cons z u =>
        rw [hw] at hold okG h2
        dsimp only
        split
        · rename_i hz
          obtain ⟨q0, s0, g1, g2, g3⟩ := h2 z u rfl hz
          have hqz : q.x ≤ z.x := Int.le_trans (e5 q0 s0 g1 g2) g3
          refine ⟨fun p hp => ?_, fun p r h _ => ?_⟩
          · rcases List.mem_cons.1 hp with rfl | hp
            · exact ⟨q, List.mem_cons_self .., hqz, by rw [e2]; exact Int.le_refl _⟩
            · exact hold p (List.mem_cons_of_mem _ hp)
          · injection h with h _
            subst h
            exact ⟨q, s, rfl, e2, hqz⟩
        · refine ⟨fun p hp => ?_, fun p r h _ => ?_⟩
          · rcases List.mem_cons.1 hp with rfl | hp
            · exact ⟨q, List.mem_cons_self .., e3, by rw [e2]; exact Int.le_refl _⟩
            · exact hold p hp
          · injection h with h _
            subst h
            exact ⟨q, s, rfl, e2, e3⟩
    · have hnot : ∀ p r, wrev G f (k + 1) = p :: r → p.y = f + (k : Int) → False := by
        intro p r h hy
        rw [wrev, if_neg hG] at h
        have := okG p (by rw [h]; simp)
        omega
      refine ⟨fun p hp => ?_, fun p r h hy => (hnot p r h hy).elim⟩
      rw [wrev, if_neg hG] at hp
      obtain ⟨z, hz, z1, z2⟩ := h1 p hp
      rw [wrev]
      by_cases hH : H (f + (k : Int)) = true
      · rw [if_pos hH]
        cases hw : wrev H f k with
        | nil => rw [hw] at hz; simp at hz
        | cons y u =>
          rw [hw] at hz
          dsimp only
          split
          · rcases List.mem_cons.1 hz with rfl | hz
            · exact ⟨_, List.mem_cons_self .., z1, by dsimp only; omega⟩
            · exact ⟨z, List.mem_cons_of_mem _ hz, z1, z2⟩
          · exact ⟨z, List.mem_cons_of_mem _ hz, z1, z2⟩
      · rw [if_neg hH]
        exact ⟨z, hz, z1, z2⟩
theorem winL_cov {G H : Int → Bool} (hGH : ∀ m, G m = true → H m = true) (f : Int) (k : Nat) : Covers (winL H f k) (winL G f k) := by
  intro p hp
  obtain ⟨q, hq, h⟩ := (wrev_cov hGH f k).1 p (by unfold winL at hp; simpa using hp)
  exact ⟨q, by unfold winL; simpa using hq, h⟩

/-- Block g is a row of pairs of type e with room for cap, whose first are l. -/
def OwnG (e : TypeId) (w : World) (g cap : Nat) (l : List Pt) : Prop :=
  ∃ cur, w.heap[g]? = some (.cells cur e (0, 0)) ∧ cur.size = cap * 2 ∧ l.length ≤ cap ∧ cap ≤ maxLen ∧ cur.toList.take (l.length * 2) = l.flatMap encP
theorem OwnG.of_row {e : TypeId} {w : World} {g cap base : Nat} {l : List Pt} (h : w.ownsRow base e 2 (.slice (some ⟨g, 0, none⟩) l.length cap) l.length (l.flatMap encP)) : OwnG e w g cap l ∧ base ≤ g := by
  rcases h.2 with ⟨h', _⟩ | ⟨g', cap', cur, h', hb, hg, hnc, hcm, hcs, htake⟩
  · simp at h'
  · simp only [Value.slice.injEq, Option.some.injEq, Addr.mk.injEq, and_true, true_and] at h'
    obtain ⟨rfl, rfl⟩ := h'
    exact ⟨⟨cur, hg, hcs, hnc, hcm, htake⟩, hb⟩
theorem OwnG.to_row {e : TypeId} {w : World} {g cap base : Nat} {l : List Pt} (h : OwnG e w g cap l) (hb : base ≤ g) : w.ownsRow base e 2 (.slice (some ⟨g, 0, none⟩) l.length cap) l.length (l.flatMap encP) := by
  obtain ⟨cur, h1, h2, h3, h4, h5⟩ := h
  exact ⟨flat_len l, .inr ⟨g, cap, cur, rfl, hb, h1, h3, h4, h2, h5⟩⟩
theorem OwnG.lt {e : TypeId} {w : World} {g cap : Nat} {l : List Pt} (h : OwnG e w g cap l) : g < w.heap.size := by
  obtain ⟨cur, h1, _⟩ := h
  rcases Nat.lt_or_ge g w.heap.size with h | h
  · exact h
  · rw [Array.getElem?_eq_none h] at h1; cases h1
theorem OwnG.ext {e : TypeId} {w w' : World} {g cap : Nat} {l : List Pt} (h : OwnG e w g cap l) (hw : Ext w w') : OwnG e w' g cap l := by
  have hl := h.lt
  obtain ⟨cur, h1, h2⟩ := h
  exact ⟨cur, (hw.block g hl).trans h1, h2⟩
theorem OwnG.cells {e : TypeId} {w : World} {g cap : Nat} {l : List Pt} (h : OwnG e w g cap l) (j : Nat) (v : Value) (hv : (l.flatMap encP)[j]? = some v) : w.cell? ⟨g, j, none⟩ = some v := by
  have := (h.to_row (Nat.zero_le g)).cellAt j (by have := (List.getElem?_eq_some_iff.1 hv).1; rw [flat_len] at this; exact this)
  rw [this]; exact hv
theorem OwnG.frozen {e : TypeId} {w : World} {g cap : Nat} {l : List Pt} (h : OwnG e w g cap l) (j : Nat) : w.frozen? ⟨g, j, none⟩ = false := (h.to_row (Nat.zero_le g)).frozenAt j
theorem OwnG.row {e : TypeId} {w : World} {g cap : Nat} {l : List Pt} (h : OwnG e w g cap l) : Row 2 encP w (some ⟨g, 0, none⟩) l :=
  .inr ⟨g, 0, rfl, h.lt, fun i hi j v hv => by rw [Nat.zero_add]; exact h.cells _ _ (flat_get encP_len l i hi j v hv)⟩
theorem OwnG.setY {e : TypeId} {w : World} {g cap : Nat} {l : List Pt} (h : OwnG e w g cap l) (i : Nat) (hi : i < l.length) (y : Int) : OwnG e (w.setCell ⟨g, i * 2 + 1, none⟩ (.int .i64 y)) g cap (l.set i ⟨l[i].x, y⟩) ∧ Touch g w (w.setCell ⟨g, i * 2 + 1, none⟩ (.int .i64 y)) := by
  have h1 := (h.to_row (Nat.zero_le g)).stored (i * 2 + 1) (.int .i64 y)
  rw [flat_set l i hi y] at h1
  exact ⟨(OwnG.of_row (l := l.set i ⟨l[i].x, y⟩) (by simpa using h1.1)).1, h1.2⟩
theorem OwnG.other {e : TypeId} {w : World} {g cap : Nat} {l : List Pt} (h : OwnG e w g cap l) {a : Addr} (ha : g ≠ a.block) (v : Value) : OwnG e (w.setCell a v) g cap l := by
  obtain ⟨cur, h1, h2⟩ := h
  exact ⟨cur, (Below.heap_setCell w a v g ha).trans h1, h2⟩
theorem ownG_cases {e : TypeId} {w : World} {base : Nat} {v : Value} {L : List Pt} (h : w.ownsRow base e 2 v L.length (L.flatMap encP)) :
    ∃ A' c', v = .slice A' L.length c' ∧ ((L = [] ∧ A' = none ∧ c' = 0) ∨ ∃ g, A' = some ⟨g, 0, none⟩ ∧ base ≤ g ∧ OwnG e w g c' L) := by
  rcases h.2 with ⟨h', h''⟩ | ⟨g', cap', cur, h', hb, hg, hnc, hcm, hcs, htake⟩
  · have hn : L = [] := by
      cases L with
      | nil => rfl
      | cons p L => simp at h''
    subst hn
    exact ⟨none, 0, h', .inl ⟨rfl, rfl, rfl⟩⟩
  · exact ⟨_, _, h', .inr ⟨g', rfl, hb, ⟨cur, hg, hcs, hnc, hcm, htake⟩⟩⟩
theorem list_last {L : List Pt} (h : 0 < L.length) : ∃ S p, L = S ++ [p] ∧ S.length = L.length - 1 := by
  refine ⟨L.dropLast, L.getLast (by intro e; subst e; simp at h), (List.dropLast_concat_getLast _).symm, by simp⟩
theorem set_last (S : List Pt) (p q : Pt) : (S ++ [p]).set S.length q = S ++ [q] := by simp
end Go.Proofs.Ytblmljcgjibfgaa

/- What a right route is: the least highest level of a way. -/
import Derived.Test.YtgnakeemcccfjaaGreatBcc
namespace Go.Proofs.YtgnakeemcccfjaaGreat
open Go

theorem knB_iff {l : List Int} {k : Nat} : knB l k = true ↔ gi l k ≠ 30000 := by simp [knB]
theorem hiL_ge (L : List Int) (p : List Nat) : ∀ n k, k < n → gi L (gn p k) ≤ hiL L p n
  | 0, _, h => by omega
  | n + 1, k, h => by
    unfold hiL
    rcases Nat.lt_succ_iff_lt_or_eq.1 h with h | h
    · have := hiL_ge L p n k h; omega
    · subst h; omega
theorem hiL_mem (L : List Int) (p : List Nat) : ∀ n, (∀ k, k < n → -20000 ≤ gi L (gn p k)) → 0 < n → ∃ k, k < n ∧ hiL L p n = gi L (gn p k)
  | 0, _, h => by omega
  | n + 1, hl, _ => by
    by_cases h0 : n = 0
    · subst h0
      have := hl 0 (by omega)
      exact ⟨0, by omega, by unfold hiL hiL; omega⟩
    obtain ⟨k, h1, h2⟩ := hiL_mem L p n (fun k hk => hl k (by omega)) (by omega)
    unfold hiL
    by_cases h3 : hiL L p n ≤ gi L (gn p n)
    · exact ⟨n, by omega, by omega⟩
    · exact ⟨k, by omega, by omega⟩
theorem hiL_congr (L : List Int) (p q : List Nat) (h : ∀ k, gn p k = gn q k) : ∀ n, hiL L p n = hiL L q n
  | 0 => rfl
  | n + 1 => by unfold hiL; rw [hiL_congr L p q h n, h n]
theorem zl_nat (p : List Nat) : (zl p).map Int.toNat = p := by
  unfold zl
  rw [List.map_map]
  calc p.map _ = p.map id := List.map_congr_left (fun x _ => rfl)
    _ = p := List.map_id p
theorem zl_mem {p : List Nat} {k : Nat} : ((k : Int) ∈ zl p) ↔ k ∈ p := by
  unfold zl
  rw [List.mem_map]
  constructor
  · rintro ⟨a, h1, h2⟩
    have h2 : (a : Int) = (k : Int) := h2
    have : a = k := by omega
    exact this ▸ h1
  · intro h
    exact ⟨k, h, rfl⟩
theorem chs_mem {P : Nat → Bool} {n k : Nat} : k ∈ chs P n ↔ k < n ∧ P k = true := by
  unfold chs
  rw [List.mem_filter, List.mem_range]
section
variable {g : Gr} {cn rn : Nat} {F T : List Nat}
/-- A way over known cells has a highest level, which is a cell's. -/
theorem way_top (E : EndsOk g cn rn F T) (v : VG g) {op : Nat → Bool} (hop : ∀ k, k < cn * rn → op k = true → gi g.L k ≠ 30000) {p : List Nat} (h : IsWay (adjN cn rn) op (cn * rn) F T p) :
    hiL g.L p p.length ∈ g.L ∧ hiL g.L p p.length ≠ 30000 ∧ IsWay (adjN cn rn) (naP g (hiL g.L p p.length)) (cn * rn) F T p ∧ ∃ k, k < p.length ∧ hiL g.L p p.length = gi g.L (gn p k) := by
  obtain ⟨h1, h2, h3, h4, h5⟩ := h
  have hk : ∀ k, k < p.length → gn p k < g.L.length ∧ gi g.L (gn p k) ≠ 30000 := fun k hk => ⟨by rw [E.len]; exact (h4 k hk).1, hop _ (h4 k hk).1 (h4 k hk).2⟩
  obtain ⟨k, h6, h7⟩ := hiL_mem g.L p p.length (fun k hk' => by
    rcases v.lev _ (hk k hk').1 with h | h
    · exact absurd h (hk k hk').2
    · exact h.1) h1
  refine ⟨?_, by rw [h7]; exact (hk k h6).2, ⟨h1, h2, h3, fun j hj => ⟨(h4 j hj).1, ?_⟩, h5⟩, k, h6, h7⟩
  · rw [h7, gi_lt _ _ (hk k h6).1]; exact List.getElem_mem _
  · unfold naP
    rw [Bool.and_eq_true, knB_iff, decide_eq_true_eq]
    exact ⟨(hk j hj).2, hiL_ge g.L p _ j hj⟩
theorem naP_iff {lev : Int} {k : Nat} : naP g lev k = true ↔ gi g.L k ≠ 30000 ∧ gi g.L k ≤ lev := by unfold naP; rw [Bool.and_eq_true, knB_iff, decide_eq_true_eq]
theorem nbP_iff {lev : Int} {k : Nat} : nbP g lev k = true ↔ gi g.L k ≠ 30000 ∧ lev ≤ gi g.L k := by unfold nbP; rw [Bool.and_eq_true, knB_iff, decide_eq_true_eq]
theorem opB_iff {Q : List Int} {k : Nat} : opB g Q k = true ↔ gi g.L k ≠ 30000 ∧ (k : Int) ∉ Q := by unfold opB; rw [Bool.and_eq_true, knB_iff]; simp
/-- The steps of a path of cells. -/
theorem isWayB_zl (E : EndsOk g cn rn F T) (p : List Nat) : isWayB g cn rn (zl F) (zl T) (zl p) = true ↔ IsWay (adjN cn rn) (fun k => knB g.L k) (cn * rn) F T p := by
  unfold isWayB IsWay
  simp only [Bool.and_eq_true, decide_eq_true_eq, zl_len]
  by_cases h0 : p = []
  · subst h0
    simp [zl]
  have hl : 0 < p.length := List.length_pos_iff.2 h0
  have hz : zl p ≠ [] := by intro h; apply h0; have := congrArg List.length h; simpa [zl] using this
  rw [gi_zl p 0 hl, gi_zl p _ (by omega), zl_mem, zl_mem]
  have hst : ∀ k, k < p.length → (stepB g cn rn (zl p) k = true ↔ (gn p k < cn * rn ∧ knB g.L (gn p k) = true) ∧ (k = 0 ∨ adjN cn rn (gn p (k - 1)) (gn p k))) := by
    intro k hk
    unfold stepB
    rw [gi_zl p k hk, gi_zl p (k - 1) (by omega), E.len]
    simp only [Bool.and_eq_true, decide_eq_true_eq, Bool.or_eq_true, beq_iff_eq, Int.toNat_natCast]
    rw [zl_mem]
    unfold adjN
    constructor
    · rintro ⟨⟨_, h1⟩, h2, h3⟩; exact ⟨⟨by omega, h2⟩, h3⟩
    · rintro ⟨⟨h1, h2⟩, h3⟩; exact ⟨⟨by omega, by omega⟩, h2, h3⟩
  have hn : (!(anyN (fun k => !(stepB g cn rn (zl p) k)) p.length)) = true ↔ ∀ k, k < p.length → stepB g cn rn (zl p) k = true := by
    rw [Bool.not_eq_true', anyN_no]
    constructor
    · intro h k hk; simpa using h k hk
    · intro h k hk; simpa using h k hk
  rw [hn]
  constructor
  · rintro ⟨_, h1, h2, h3⟩
    refine ⟨hl, h1, h2, fun k hk => ((hst k hk).1 (h3 k hk)).1, fun k hk => ?_⟩
    rcases ((hst (k + 1) hk).1 (h3 (k + 1) hk)).2 with h | h
    · omega
    · exact h
  · rintro ⟨_, h1, h2, h3, h4⟩
    refine ⟨hz, h1, h2, fun k hk => (hst k hk).2 ⟨h3 k hk, ?_⟩⟩
    by_cases hk0 : k = 0
    · exact .inl hk0
    · refine .inr ?_
      have := h4 (k - 1) (by omega)
      rwa [show k - 1 + 1 = k by omega] at this
/-- The barrier that Clear gives is right. -/
theorem barOk_chs (_E : EndsOk g cn rn F T) (lev : Int) (k : Nat) (hk : k < (chs (nbP g lev) g.L.length).length) : barOk g lev (zl (chs (nbP g lev) g.L.length)) k = true := by
  have hm : gn (chs (nbP g lev) g.L.length) k ∈ chs (nbP g lev) g.L.length := by rw [gn_lt _ _ hk]; exact List.getElem_mem hk
  obtain ⟨h1, h2⟩ := chs_mem.1 hm
  obtain ⟨h3, h4⟩ := nbP_iff.1 h2
  unfold barOk
  rw [gi_zl _ _ hk]
  simp only [Bool.and_eq_true, decide_eq_true_eq, Int.toNat_natCast, knB_iff]
  exact ⟨⟨by omega, by omega⟩, h3, h4⟩
/-- What Clear returns is right. -/
theorem right_of_clear (E : EndsOk g cn rn F T) (v : VG g) {lev : Int} {p : List Nat} (hw : IsWay (adjN cn rn) (naP g lev) (cn * rn) F T p) (hmin : ∀ x, x ∈ g.L → x ≠ 30000 → x < lev → ¬ wayA g cn rn F T x) :
    Right g cn rn F T lev (zl p) (zl (chs (nbP g lev) g.L.length)) := by
  obtain ⟨t1, t2, t3, k, t4, t5⟩ := way_top E v (fun k _ h => (naP_iff.1 h).1) hw
  refine ⟨(isWayB_zl E p).2 ⟨hw.1, hw.2.1, hw.2.2.1, fun k hk => ⟨(hw.2.2.2.1 k hk).1, knB_iff.2 (naP_iff.1 (hw.2.2.2.1 k hk).2).1⟩, hw.2.2.2.2⟩, ?_, ?_, ?_⟩
  · rw [zl_nat, zl_len]
    have h1 := (naP_iff.1 (hw.2.2.2.1 k t4).2).2
    by_cases h2 : hiL g.L p p.length < lev
    · exact absurd ⟨p, t3⟩ (hmin _ t1 t2 h2)
    · omega
  · rw [zl_len, anyN_no]
    intro k hk
    rw [barOk_chs E lev k hk]; rfl
  · intro q hq
    obtain ⟨u1, u2, u3, j, u4, u5⟩ := way_top E v (fun k _ h => (opB_iff.1 h).1) hq
    refine hmin _ u1 u2 ?_ ⟨q, u3⟩
    have h1 := hq.2.2.2.1 j u4
    have h2 := (opB_iff.1 h1.2).2
    rw [zl_mem, chs_mem, nbP_iff, E.len] at h2
    have h3 := (opB_iff.1 h1.2).1
    rw [u5]
    by_cases h4 : lev ≤ gi g.L (gn q j)
    · exact absurd ⟨h1.1, h3, h4⟩ h2
    · omega
/-- A right route has a way at its level, which is a cell's, and there is none below. -/
theorem right_least (E : EndsOk g cn rn F T) (v : VG g) {lev : Int} {P Q : List Int} (h : Right g cn rn F T lev P Q) :
    (lev ∈ g.L ∧ lev ≠ 30000) ∧ (∃ p, P = zl p ∧ IsWay (adjN cn rn) (naP g lev) (cn * rn) F T p) ∧ ∀ x, x < lev → ¬ wayA g cn rn F T x := by
  obtain ⟨h1, h2, h3, h4⟩ := h
  obtain ⟨c1, c2⟩ := isWayB_cells h1
  generalize P.map Int.toNat = p at *
  subst c1
  rw [zl_len] at h2
  have hw := (isWayB_zl E p).1 h1
  obtain ⟨t1, t2, t3, k, t4, t5⟩ := way_top E v (fun k _ h => knB_iff.1 h) hw
  rw [h2] at t1 t2 t3
  refine ⟨⟨t1, t2⟩, ⟨p, rfl, t3⟩, fun x hx hwx => ?_⟩
  obtain ⟨q, hq⟩ := hwx
  refine h4 q ⟨hq.1, hq.2.1, hq.2.2.1, fun j hj => ⟨(hq.2.2.2.1 j hj).1, ?_⟩, hq.2.2.2.2⟩
  obtain ⟨n1, n2⟩ := naP_iff.1 (hq.2.2.2.1 j hj).2
  refine opB_iff.2 ⟨n1, fun hm => ?_⟩
  obtain ⟨i, hi, he⟩ := List.mem_iff_getElem.1 hm
  have hb : barOk g lev Q i = true := by simpa using (anyN_no _ _).1 h3 i hi
  unfold barOk at hb
  rw [gi_lt _ _ hi, he] at hb
  simp only [Bool.and_eq_true, decide_eq_true_eq, Int.toNat_natCast] at hb
  omega
end
end Go.Proofs.YtgnakeemcccfjaaGreat

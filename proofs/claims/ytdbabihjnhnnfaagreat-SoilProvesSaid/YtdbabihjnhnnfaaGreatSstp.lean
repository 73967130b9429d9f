/- What a slumped bed is: it is valid, stable, and slumps to itself. Nothing of the program but its names. -/
import Derived.Test.YtdbabihjnhnnfaaGreatSrsteep
namespace Go.Proofs.YtdbabihjnhnnfaaGreat
open Go Go.RowKit Go.IntWalk

theorem withL_ok {g : Gr} {L : List Int} (h0 : chkG g = 0) (hl : L.length = g.L.length) (hv : ∀ i, i < L.length → gi L i = 30000 ∨ (-20000 ≤ gi L i ∧ gi L i ≤ 20000)) : chkG (withL g L) = 0 := by
  have v := chkG_ok h0
  have h1 : headB (withL g L) = true := (headB_iff _).2 ⟨⟨v.hx, v.hy⟩, v.hs, v.hc, v.hr⟩
  have h2 := v.hn
  have h3 := v.hxe
  have h4 := v.hye
  have h5 := v.len
  have h6 : anyN (badL L) L.length = false := (anyN_no _ _).2 fun i hi => badL_no.2 (hv i hi)
  unfold chkG
  rw [if_neg (by rw [h1]; decide)]
  show (if 1024 < g.C * g.R then (8 : Int) else if 1000000 < g.X + g.C * g.S ∨ 1000000 < g.Y + g.R * g.S then 2 else if (L.length : Int) ≠ g.C * g.R then 10 else if anyN (badL L) L.length = true then 2 else 0) = 0
  rw [if_neg (by omega), if_neg (by omega), if_neg (by rw [hl]; omega), if_neg (by rw [h6]; decide)]
theorem cbE_gr {soils : List So} {bos : List Bo} {g : Gr} (h : cbE soils bos g = 0) : chkGr soils bos = 0 := by
  unfold cbE at h
  by_cases h1 : chkGr soils bos = 0
  · exact h1
  · rw [if_pos h1] at h; exact absurd h h1
theorem cbE_mk {soils : List So} {bos : List Bo} {g : Gr} (h1 : chkGr soils bos = 0) (h2 : chkG g = 0) : cbE soils bos g = 0 := by unfold cbE; rw [if_neg (by omega), h2]
theorem rL_withL (soils : List So) (bos : List Bo) (g : Gr) (cn : Nat) {L : List Int} (hl : L.length = g.L.length) : rL soils bos (withL g L) cn = rL soils bos g cn := by
  show mkI (rF soils bos g cn) L.length = mkI (rF soils bos g cn) g.L.length
  rw [hl]
theorem same_withL {g h : Gr} (hs : sameB g h = true) : h = withL g h.L := by
  obtain ⟨X, Y, S, C, R, L⟩ := g
  obtain ⟨X2, Y2, S2, C2, R2, L2⟩ := h
  obtain ⟨h1, h2, h3, h4, h5⟩ := (sameB_iff _ _).1 hs
  simp only at h1 h2 h3 h4 h5
  subst h1 h2 h3 h4 h5
  rfl
theorem sameB_withL (g : Gr) (L M : List Int) : sameB (withL g L) (withL g M) = true := (sameB_iff _ _).2 ⟨rfl, rfl, rfl, rfl, rfl⟩
theorem sameB_withL1 (g : Gr) (L : List Int) : sameB (withL g L) g = true := (sameB_iff _ _).2 ⟨rfl, rfl, rfl, rfl, rfl⟩
theorem Falls.kn {ps : List (Nat × Nat)} {al : Nat → Nat → Int} {M L : List Int} (h : Falls ps al M L) (hv : ∀ i, i < M.length → gi M i = 30000 ∨ (-20000 ≤ gi M i ∧ gi M i ≤ 20000)) : knB L = knB M := by
  funext i
  unfold knB
  by_cases hq : gi M i = 30000
  · rw [hq, h.unk i hq]
  · have h1 := h.le i
    have h2 : gi L i ≠ 30000 := by
      by_cases hi : i < M.length
      · rcases hv i hi with h3 | h3 <;> omega
      · rw [gi_out _ _ (by rw [h.len]; omega)]; decide
    rw [decide_eq_true h2, decide_eq_true hq]
theorem Falls.lev {ps : List (Nat × Nat)} {al : Nat → Nat → Int} {M L : List Int} (h : Falls ps al M L) (hv : ∀ i, i < M.length → gi M i = 30000 ∨ (-20000 ≤ gi M i ∧ gi M i ≤ 20000)) : ∀ i, i < L.length → gi L i = 30000 ∨ (-20000 ≤ gi L i ∧ gi L i ≤ 20000) := by
  intro i hi
  by_cases hq : gi M i = 30000
  · exact .inl (h.unk i hq)
  · have h1 := h.le i
    have h2 := h.lo i hq
    rw [h.len] at hi
    rcases hv i hi with h3 | h3 <;> omega
theorem ov_ok {L : List Int} {al : Nat → Nat → Int} (hc : ∀ a b, al a b = al b a) (p : Nat × Nat) : ovP L al p ≤ 0 ↔ okP L p.1 p.2 (al p.1 p.2) := by
  unfold ovP hiP loP okP
  have h1 := hc p.1 p.2
  by_cases h : gi L p.1 < gi L p.2
  · rw [if_pos h, if_pos h, ← h1]; omega
  · rw [if_neg h, if_neg h]; omega
theorem st_nil {L : List Int} {al : Nat → Nat → Int} (hc : ∀ a b, al a b = al b a) (ps : List (Nat × Nat)) : stN L al ps ps.length = [] ↔ ∀ p ∈ ps, okP L p.1 p.2 (al p.1 p.2) := by
  rw [stN_all, List.flatMap_eq_nil_iff]
  constructor
  · intro h p hp
    have h1 := h p hp
    unfold stOne at h1
    rw [← ov_ok hc]
    by_cases h2 : 0 < ovP L al p
    · rw [if_pos h2] at h1; cases h1
    · omega
  · intro h p hp
    unfold stOne
    rw [if_neg (by have := (ov_ok hc p).2 (h p hp); omega)]
theorem dfN_self (L : List Int) : ∀ n, dfN L L n = 0
  | 0 => rfl
  | n + 1 => by
    have h := dfN_self L n
    unfold dfN at h ⊢
    rw [sumN, h]
    omega
theorem dfN_pos {L M : List Int} (h : ∀ i, gi M i ≤ gi L i) : ∀ n, 0 ≤ dfN L M n
  | 0 => Int.le_refl _
  | n + 1 => by
    have h1 := dfN_pos h n
    have h2 := h n
    unfold dfN at h1 ⊢
    rw [sumN]
    omega
/-- The pairs and the allowed differences of a bed. -/
def psG (g : Gr) (cn : Nat) : List (Nat × Nat) := prsN cn g.L.length (knB g.L) g.L.length
def alG (soils : List So) (bos : List Bo) (g : Gr) (cn : Nat) : Nat → Nat → Int := alw g.S (rL soils bos g cn)
theorem psG_withL (g : Gr) (cn : Nat) {L : List Int} (hl : L.length = g.L.length) (hk : knB L = knB g.L) : psG (withL g L) cn = psG g cn := by
  show prsN cn L.length (knB L) L.length = prsN cn g.L.length (knB g.L) g.L.length
  rw [hl, hk]
theorem alG_withL (soils : List So) (bos : List Bo) (g : Gr) (cn : Nat) {L : List Int} (hl : L.length = g.L.length) : alG soils bos (withL g L) cn = alG soils bos g cn := by
  show alw g.S (rL soils bos (withL g L) cn) = alw g.S (rL soils bos g cn)
  rw [rL_withL soils bos g cn hl]
theorem alG_comm (soils : List So) (bos : List Bo) (g : Gr) (cn : Nat) (a b : Nat) : alG soils bos g cn a b = alG soils bos g cn b a := alw_comm _ _ _ _
theorem stL6_nil (soils : List So) (bos : List Bo) (g : Gr) (cn : Nat) : stL6 soils bos g cn = [] ↔ ∀ p ∈ psG g cn, okP g.L p.1 p.2 (alG soils bos g cn p.1 p.2) := st_nil (alG_comm soils bos g cn) (psG g cn)
/-- What the law asks of the bed to which g slumps. -/
structure Slm (soils : List So) (bos : List Bo) (g : Gr) (cn : Nat) (L : List Int) : Prop where
  ok : cbE soils bos (withL g L) = 0
  len : L.length = g.L.length
  kn : knB L = knB g.L
  le : ∀ i, gi L i ≤ gi g.L i
  stb : stL6 soils bos (withL g L) cn = []
  one : ∀ K, IsSl (psG (withL g L) cn) (alG soils bos (withL g L) cn) L K → K = L
  top : ∀ X : List Int, (∀ i, gi X i ≤ gi g.L i) → (∀ p ∈ psG g cn, okP X p.1 p.2 (alG soils bos g cn p.1 p.2)) → ∀ i, gi X i ≤ gi L i
theorem Slm.of {soils : List So} {bos : List Bo} {g : Gr} {cn : Nat} {L : List Int} (h0 : cbE soils bos g = 0) (h : IsSl (psG g cn) (alG soils bos g cn) g.L L) : Slm soils bos g cn L := by
  have hg := (cbE_ok h0).2
  have vg := chkG_ok hg
  have hk := h.1.kn vg.lev
  have hlv := h.1.lev vg.lev
  have e1 := psG_withL g cn h.1.len hk
  have e2 := alG_withL soils bos g cn h.1.len
  refine ⟨cbE_mk (cbE_gr h0) (withL_ok hg h.1.len hlv), h.1.len, hk, h.1.le, ?_, ?_, h.1.top⟩
  · rw [stL6_nil, e1, e2]
    exact h.2
  · intro K hK
    rw [e1, e2] at hK
    exact hK.one ⟨Falls.start _ _ hlv, h.2⟩
end Go.Proofs.YtdbabihjnhnnfaaGreat

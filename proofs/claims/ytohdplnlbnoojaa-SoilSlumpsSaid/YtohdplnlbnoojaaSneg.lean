/- Beds upside down, and a bed on which one cell is pulled down beside another. Nothing of the program but its names. -/
import Derived.Test.YtohdplnlbnoojaaSstp
namespace Go.Proofs.Ytohdplnlbnoojaa
open Go Go.RowKit Go.IntWalk

def LvOk (L : List Int) : Prop := ∀ i, i < L.length → gi L i = 30000 ∨ (-20000 ≤ gi L i ∧ gi L i ≤ 20000)
def ngV (x : Int) : Int := if x = 30000 then 30000 else -x
def ngL (L : List Int) : List Int := L.map ngV
theorem ngL_len (L : List Int) : (ngL L).length = L.length := by simp [ngL]
theorem gi_ngL (L : List Int) (i : Nat) : gi (ngL L) i = ngV (gi L i) := by
  by_cases h : i < L.length
  · rw [gi_lt _ _ (by rw [ngL_len]; exact h), gi_lt _ _ h]; simp [ngL]
  · rw [gi_out _ _ (by rw [ngL_len]; omega), gi_out _ _ (by omega)]; rfl
theorem ngV_u : ngV 30000 = 30000 := rfl
theorem ngV_k {x : Int} (h : x ≠ 30000) : ngV x = -x := by unfold ngV; rw [if_neg h]
theorem LvOk.all {L : List Int} (h : LvOk L) (i : Nat) : gi L i = 30000 ∨ (-20000 ≤ gi L i ∧ gi L i ≤ 20000) := by
  by_cases hi : i < L.length
  · exact h i hi
  · rw [gi_out _ _ (by omega)]; omega
theorem ngV_ok {x : Int} (h : x = 30000 ∨ (-20000 ≤ x ∧ x ≤ 20000)) : ngV x = 30000 ∨ (-20000 ≤ ngV x ∧ ngV x ≤ 20000) := by
  rcases h with h | h
  · subst h; exact .inl rfl
  · rw [ngV_k (by omega)]; omega
theorem ngV_ngV {x : Int} (h : x = 30000 ∨ (-20000 ≤ x ∧ x ≤ 20000)) : ngV (ngV x) = x := by
  rcases h with h | h
  · subst h; rfl
  · rw [ngV_k (show x ≠ 30000 by omega), ngV_k (by omega)]; omega
theorem ngL_ok {L : List Int} (h : LvOk L) : LvOk (ngL L) := fun i hi => by
  rw [gi_ngL]
  exact ngV_ok (h.all i)
theorem ngL_ngL {L : List Int} (h : LvOk L) : ngL (ngL L) = L := by
  refine gi_ext (by rw [ngL_len, ngL_len]) fun i _ => ?_
  rw [gi_ngL, gi_ngL]
  exact ngV_ngV (h.all i)
theorem kn_ngL {L : List Int} (h : LvOk L) : knB (ngL L) = knB L := by
  funext i
  unfold knB
  rw [gi_ngL, Bool.eq_iff_iff, decide_eq_true_eq, decide_eq_true_eq]
  rcases h.all i with h1 | h1
  · rw [h1]; simp [ngV_u]
  · rw [ngV_k (by omega)]; omega
theorem ngL_set (L : List Int) (i : Nat) (x : Int) : ngL (L.set i x) = (ngL L).set i (ngV x) := by simp [ngL, List.map_set]
theorem set_self (L : List Int) (i : Nat) : L.set i (gi L i) = L := by
  by_cases h : i < L.length
  · refine gi_ext (by simp) fun j _ => ?_
    rw [gi_set _ _ _ h]
    split
    · rename_i e; rw [e]
    · rfl
  · exact List.set_eq_of_length_le (by omega)
/-- Cell a beside cell b is pulled down to what b allows. -/
theorem Falls.pull {ps : List (Nat × Nat)} {al : Nat → Nat → Int} {M L : List Int} (h : Falls ps al M L) (hc : ∀ a b, al a b = al b a) {a b : Nat} (hp : (a, b) ∈ ps ∨ (b, a) ∈ ps) (hd : 0 ≤ al a b) (ha : a < M.length) (hka : gi M a ≠ 30000) (hkb : gi M b ≠ 30000) :
    Falls ps al M (L.set a (min (gi L a) (gi L b + al a b))) := by
  by_cases hx : gi L b + al a b < gi L a
  · rw [show min (gi L a) (gi L b + al a b) = gi L b + al a b by omega]
    refine h.set a _ ha hka hx (by have := h.lo b hkb; omega) fun X h1 h2 => ?_
    have h3 := h.top X h1 h2 b
    have h4 : okP X a b (al a b) := by
      rcases hp with hp | hp
      · exact h2 _ hp
      · have h5 := h2 _ hp
        unfold okP at h5 ⊢
        simp only at h5
        rw [hc b a] at h5
        omega
    unfold okP at h4
    omega
  · rw [show min (gi L a) (gi L b + al a b) = gi L a by omega, set_self]
    exact h
theorem pull_sum {L : List Int} {a : Nat} (ha : a < L.length) (x : Int) : sumL (L.set a (min (gi L a) x)) ≤ sumL L ∧ (x < gi L a → sumL (L.set a (min (gi L a) x)) < sumL L) := by
  rw [sumL_set _ _ _ ha]
  omega
theorem st_mem {L : List Int} {al : Nat → Nat → Int} {ps : List (Nat × Nat)} {e : St} (h : e ∈ stN L al ps ps.length) : ∃ p ∈ ps, 0 < ovP L al p ∧ e = ⟨hiP L p, loP L p, ovP L al p⟩ := by
  rw [stN_all, List.mem_flatMap] at h
  obtain ⟨p, hp, he⟩ := h
  unfold stOne at he
  by_cases h2 : 0 < ovP L al p
  · rw [if_pos h2] at he
    exact ⟨p, hp, h2, List.mem_singleton.1 he⟩
  · rw [if_neg h2] at he; simp at he
theorem st_pair {L : List Int} {al : Nat → Nat → Int} {ps : List (Nat × Nat)} {e : St} (h : e ∈ stN L al ps ps.length) : ((e.h, e.l) ∈ ps ∨ (e.l, e.h) ∈ ps) ∧ gi L e.l + al e.h e.l < gi L e.h := by
  obtain ⟨p, hp, h1, rfl⟩ := st_mem h
  unfold ovP at h1
  refine ⟨?_, by simp only; omega⟩
  unfold hiP loP
  simp only
  by_cases h2 : gi L p.1 < gi L p.2
  · rw [if_pos h2, if_pos h2]; exact .inr hp
  · rw [if_neg h2, if_neg h2]; exact .inl hp
theorem Falls.ok {ps : List (Nat × Nat)} {al : Nat → Nat → Int} {M L : List Int} (h : Falls ps al M L) (hv : LvOk M) : LvOk L := h.lev hv
end Go.Proofs.Ytohdplnlbnoojaa

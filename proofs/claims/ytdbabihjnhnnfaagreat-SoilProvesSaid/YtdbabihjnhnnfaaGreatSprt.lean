/- What CheckSlump asks is what it is to be the bed to which one slumps. -/
import Derived.Test.YtdbabihjnhnnfaaGreatSprc
import Derived.Test.YtdbabihjnhnnfaaGreatSstp
namespace Go.Proofs.YtdbabihjnhnnfaaGreat
open Go Go.RowKit Go.IntWalk

theorem succ_mod {c : Nat} (hc : 0 < c) (i : Nat) : (i + 1) % c ≠ 0 ↔ i % c + 1 < c := by
  have d1 := Nat.div_add_mod i c
  have m1 := Nat.mod_lt i hc
  rcases Nat.lt_or_ge (i % c + 1) c with h | h
  · have : (i + 1) % c = i % c + 1 := by
      conv => lhs; rw [← d1, Nat.add_assoc, Nat.mul_add_mod]
      exact Nat.mod_eq_of_lt h
    omega
  · have h1 : i % c + 1 = c := by omega
    have : (i + 1) % c = 0 := by
      conv => lhs; rw [← d1, Nat.add_assoc, h1, Nat.mul_add_mod]
      exact Nat.mod_self c
    omega
def stepP (c i j : Nat) : Prop := ((i + 1) % c ≠ 0 ∧ j = i + 1) ∨ j = i + c
theorem step_nbB {c : Nat} (hc : 0 < c) {i j : Nat} (h : stepP c i j) : nbB c i j = true := by
  have d1 := Nat.div_add_mod i c
  have m1 := Nat.mod_lt i hc
  have key : ∀ a b : Nat, a < c → c * b + a = j → j % c = a ∧ j / c = b := by
    intro a b ha hk
    subst hk
    exact ⟨by rw [Nat.mul_add_mod]; exact Nat.mod_eq_of_lt ha, by rw [Nat.mul_add_div hc, Nat.div_eq_of_lt ha]; rfl⟩
  unfold nbB
  simp only [decide_eq_true_eq]
  rcases h with ⟨h1, h2⟩ | h2
  · obtain ⟨e1, e2⟩ := key (i % c + 1) (i / c) ((succ_mod hc i).1 h1) (by omega)
    rw [e1, e2]
    omega
  · obtain ⟨e1, e2⟩ := key (i % c) (i / c + 1) m1 (by rw [Nat.mul_succ]; omega)
    rw [e1, e2]
    omega
theorem nbB_step {c : Nat} (hc : 0 < c) {i j : Nat} : nbB c i j = true ↔ (stepP c i j ∨ stepP c j i) := by
  constructor
  · intro h
    have d1 := Nat.div_add_mod i c
    have d2 := Nat.div_add_mod j c
    have m1 := Nat.mod_lt i hc
    have m2 := Nat.mod_lt j hc
    have s1 := succ_mod hc i
    have s2 := succ_mod hc j
    unfold nbB at h
    simp only [decide_eq_true_eq] at h
    unfold stepP
    rw [s1, s2]
    clear s1 s2
    generalize j / c = kq at *
    generalize j % c = km at *
    generalize i / c = iq at *
    generalize i % c = im at *
    rcases (by omega : (kq + 1 = iq ∧ km = im) ∨ (kq = iq ∧ km + 1 = im) ∨ (kq = iq ∧ km = im + 1) ∨ (kq = iq + 1 ∧ km = im)) with ⟨e1, e2⟩ | ⟨e1, e2⟩ | ⟨e1, e2⟩ | ⟨e1, e2⟩
    · rw [← e1, Nat.mul_succ] at d1
      exact .inr (.inr (by omega))
    · rw [e1] at d2
      exact .inr (.inl ⟨by omega, by omega⟩)
    · rw [e1] at d2
      exact .inl (.inl ⟨by omega, by omega⟩)
    · rw [e1, Nat.mul_succ] at d2
      exact .inl (.inr (by omega))
  · rintro (h | h)
    · exact step_nbB hc h
    · rw [nbB_symm]; exact step_nbB hc h
theorem nb_ps {m : Gr} {cn rn : Nat} {i j : Nat} (h0 : 0 < cn) (hn : m.L.length = cn * rn) (hi : i < cn * rn) (ki : knB m.L i = true) : ((i, j) ∈ psG m cn ∨ (j, i) ∈ psG m cn) ↔ (j ∈ nbr cn rn i ∧ knB m.L j = true) := by
  unfold psG
  rw [hn, prs_mem, prs_mem, nbr_mem h0 hi, nbB_step h0]
  show (_ ∧ _ ∧ _ ∧ _ ∧ stepP cn i j) ∨ (_ ∧ _ ∧ _ ∧ _ ∧ stepP cn j i) ↔ _
  simp only [ki, hi, true_and]
  constructor
  · rintro (⟨h1, h2, h3⟩ | ⟨h1, h2, h3⟩)
    · exact ⟨⟨h1, .inl h3⟩, h2⟩
    · exact ⟨⟨h1, .inr h3⟩, h2⟩
  · rintro ⟨⟨h1, h2 | h2⟩, h3⟩
    · exact .inl ⟨h1, h3, h2⟩
    · exact .inr ⟨h1, h3, h2⟩
theorem kn_ext {L M : List Int} (hl : L.length = M.length) (h : ∀ k, k < M.length → knB M k = knB L k) : knB L = knB M := by
  funext k
  by_cases hk : k < M.length
  · exact (h k hk).symm
  · unfold knB
    rw [gi_out _ _ (by omega), gi_out _ _ (by omega)]
theorem okS_sl {soils : List So} {bos : List Bo} {m : Gr} {cn rn : Nat} {L : List Int} (v : VGd soils bos) (hg : chkG m = 0) (hk : chkG (withL m L) = 0) (hl : L.length = m.L.length) (hC : m.C = cn) (hR : m.R = rn) :
    okS soils bos m (withL m L) cn rn = true ↔ IsSl (psG m cn) (alG soils bos m cn) m.L L := by
  have vg := chkG_ok hg
  have vk := chkG_ok hk
  obtain ⟨cn', rn', e1, e2, e3, e4, e5, e6, e7, e8⟩ := vg.nat
  have hcc : cn' = cn := by omega
  have hrr : rn' = rn := by omega
  subst hcc hrr
  have eal : alw (withL m L).S (rL soils bos (withL m L) cn') = alG soils bos m cn' := alG_withL soils bos m cn' hl
  have hpos : ∀ p ∈ psG m cn', 0 < alG soils bos m cn' p.1 p.2 := by
    intro p hp
    unfold psG at hp
    rw [e7] at hp
    have h1 := prs_mem.1 hp
    rw [← e7] at h1
    have h2 := alw_pos (S := m.S) (r := rL soils bos m cn') (a := p.1) (b := p.2) vg.hs (by rw [gi_mkI_rF _ _ _ _ _ h1.1]; exact runB_pos v _ _) (by rw [gi_mkI_rF _ _ _ _ _ h1.2.1]; exact runB_pos v _ _)
    unfold alG
    omega
  have hLv := vk.lev
  have hlev : ∀ i, i < L.length → gi L i = 30000 ∨ (-20000 ≤ gi L i ∧ gi L i ≤ 20000) := hLv
  unfold okS stZ
  rw [eal]
  show (!anyN (lwF m (withL m L)) m.L.length && (decide ((stN L (alG soils bos m cn') (psG (withL m L) cn') (psG (withL m L) cn').length).length = 0) && !anyN (nhF L m.L (alG soils bos m cn') (nbr cn' rn')) L.length)) = true ↔ _
  simp only [Bool.and_eq_true, Bool.not_eq_true', decide_eq_true_eq, List.length_eq_zero_iff]
  rw [anyN_no, anyN_no, st_nil (alG_comm soils bos m cn')]
  have hout : ∀ i, ¬ i < m.L.length → gi L i = 0 ∧ gi m.L i = 0 := fun i hi => ⟨gi_out _ _ (by omega), gi_out _ _ (by omega)⟩
  constructor
  · rintro ⟨hlw, hst, hnh⟩
    have hlw' : ∀ k, k < m.L.length → knB m.L k = knB L k ∧ gi L k ≤ gi m.L k := by
      intro k hk
      have h1 := hlw k hk
      unfold lwF at h1
      rw [Bool.or_eq_false_iff] at h1
      have h3 : (knB m.L k != knB L k) = false := h1.1
      refine ⟨by simpa using h3, ?_⟩
      have h2 := h1.2
      rw [decide_eq_false_iff_not] at h2
      exact Int.not_lt.1 h2
    have hkn : knB L = knB m.L := kn_ext hl (fun k hk => (hlw' k hk).1)
    rw [psG_withL m cn' hl hkn] at hst
    have hu : ∀ i, gi m.L i = 30000 → gi L i = 30000 := by
      intro i hi
      have h1 := congrFun hkn i
      unfold knB at h1
      rw [hi] at h1
      simpa using h1
    refine held_sl (alG_comm _ _ _ _) hpos hl (fun i => ?_) hu (fun i => ?_) hst (fun i hne => ?_)
    · by_cases hi : i < m.L.length
      · exact (hlw' i hi).2
      · have := hout i hi; omega
    · by_cases hi : i < m.L.length
      · have := hlev i (by omega); omega
      · have := hout i hi; omega
    · have hi : i < m.L.length := by
        apply Classical.byContradiction
        intro h1
        have := hout i h1
        omega
      have ki : knB m.L i = true := by
        unfold knB
        rw [decide_eq_true_eq]
        intro h1
        exact hne ((hu i h1).trans h1.symm)
      have h1 := hnh i (by rw [hl]; exact hi)
      unfold nhF at h1
      rw [decide_eq_false hne] at h1
      have h2 : anyN (fun k => hsF L (alG soils bos m cn') i (el (nbr cn' rn' i) k)) (nbr cn' rn' i).length = true := by simpa using h1
      obtain ⟨k, hk, h3⟩ := (anyN_iff _ _).1 h2
      have hmem : el (nbr cn' rn' i) k ∈ nbr cn' rn' i := by rw [el_lt _ _ hk]; exact List.getElem_mem hk
      unfold hsF at h3
      rw [Bool.and_eq_true, decide_eq_true_eq] at h3
      exact ⟨_, (nb_ps e3 e7 (by rw [← e7]; exact hi) ki).2 ⟨hmem, by rw [← hkn]; exact h3.1⟩, by omega⟩
  · intro h
    have hkn := h.1.kn vg.lev
    refine ⟨fun k _ => ?_, by rw [psG_withL m cn' hl hkn]; exact h.2, fun i hi => ?_⟩
    · unfold lwF
      have h1 := h.1.le k
      show ((knB m.L k != knB L k) || decide (gi m.L k < gi L k)) = false
      rw [hkn, decide_eq_false (by omega)]
      simp
    · unfold nhF
      by_cases hq : gi L i = gi m.L i
      · rw [decide_eq_true hq]; rfl
      · obtain ⟨j, hj, he⟩ := sl_held (alG_comm _ _ _ _) hpos h (by omega) hq
        have ki : knB m.L i = true := by
          unfold knB
          rw [decide_eq_true_eq]
          intro h1
          exact hq ((h.1.unk i h1).trans h1.symm)
        obtain ⟨hmem, kj⟩ := (nb_ps e3 e7 (by omega) ki).1 hj
        obtain ⟨k, hk, rfl⟩ := List.getElem_of_mem hmem
        rw [decide_eq_false hq, anyN_at (fun k => hsF L (alG soils bos m cn') i (el (nbr cn' rn' i) k)) hk (by
          show hsF L (alG soils bos m cn') i (el (nbr cn' rn' i) k) = true
          rw [el_lt _ _ hk]
          unfold hsF
          rw [hkn, kj, decide_eq_true (by omega)]
          rfl)]
        rfl
end Go.Proofs.YtdbabihjnhnnfaaGreat

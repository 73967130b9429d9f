/- BedRoutes: the law returns true for every input. Conditions: none. -/
import Derived.Test.YtgnakeemcccfjaaBlawpr
namespace Go.Proofs.Ytgnakeemcccfjaa
open Go Go.RowKit Go.IntWalk

theorem leI_ex (g : Gr) (cn rn : Nat) (F T : List Nat) : ∀ m, ∃ best found, LeI g cn rn F T m best found
  | 0 => ⟨0, false, .inl ⟨rfl, rfl, fun i hi => by omega⟩⟩
  | m + 1 => by
    obtain ⟨best, found, h⟩ := leI_ex g cn rn F T m
    by_cases hk : knB g.L m = true ∧ (found = true → gi g.L m < best) ∧ wayA g cn rn F T (gi g.L m)
    · exact ⟨_, _, h.take hk.1 hk.2.1 hk.2.2⟩
    · exact ⟨best, found, h.skip fun h1 h2 h3 => hk ⟨h1, h2, h3⟩⟩
theorem leI_one {g : Gr} {cn rn : Nat} {F T : List Nat} {m : Nat} {b b' : Int} {f f' : Bool} (h : LeI g cn rn F T m b f) (h' : LeI g cn rn F T m b' f') : b = b' ∧ f = f' := by
  rcases h with ⟨h1, h2, h3⟩ | ⟨h1, ⟨i, h2, h3, h4⟩, h5, h6⟩
  · rcases h' with ⟨h1', h2', _⟩ | ⟨_, ⟨i, k2, k3, k4⟩, k5, _⟩
    · exact ⟨by omega, by rw [h1, h1']⟩
    · exact absurd (k4 ▸ k5) (h3 i k2 k3)
  · rcases h' with ⟨_, _, k3⟩ | ⟨k1, ⟨j, k2, k3, k4⟩, k5, k6⟩
    · exact absurd (h4 ▸ h5) (k3 i h2 h3)
    · refine ⟨?_, by rw [h1, k1]⟩
      have a1 : ¬ b < b' := fun h => k6 i h2 h3 (by omega) (h4 ▸ h5)
      have a2 : ¬ b' < b := fun h => h6 j k2 k3 (by omega) (k4 ▸ k5)
      omega
theorem adjN_symm {cn rn a b : Nat} (h0 : 0 < cn) (ha : a < cn * rn) (h : adjN cn rn a b) : adjN cn rn b a := by
  unfold adjN at h ⊢
  have h1 := (nbr_mem h0 ha b).1 h
  rw [nbr_mem h0 h1.1 a, nbB_symm]
  exact ⟨ha, h1.2⟩
theorem wayA_rev {g : Gr} {cn rn : Nat} {F T : List Nat} {x : Int} (h0 : 0 < cn) (h : wayA g cn rn F T x) : wayA g cn rn T F x := by
  obtain ⟨p, h1, h2, h3, h4, h5⟩ := h
  refine ⟨p.reverse, by simpa using h1, ?_, ?_, fun k hk => ?_, fun k hk => ?_⟩
  · rw [gn_rev p 0 h1]; simpa using h3
  · rw [List.length_reverse, gn_rev p _ (by omega), show p.length - 1 - (p.length - 1) = 0 by omega]; exact h2
  · rw [List.length_reverse] at hk
    rw [gn_rev p k hk]
    exact h4 _ (by omega)
  · rw [List.length_reverse] at hk
    rw [gn_rev p k (by omega), gn_rev p (k + 1) hk]
    have := h5 (p.length - 1 - (k + 1)) (by omega)
    rw [show p.length - 1 - (k + 1) + 1 = p.length - 1 - k by omega] at this
    exact adjN_symm h0 (h4 _ (by omega)).1 this
/-- What Clear answers: the route with its level. -/
def OutR (base : Nat) (g : Gr) (cn rn : Nat) (F T : List Nat) (lev : Int) (e : Ending) (w' : World) : Prop :=
  ∃ (p q : List Int) (Ap Aq : Option Addr) (cp cq : Nat), e = .returned (.tuple #[.agg #[.int .i64 lev, .slice Ap p.length cp, .slice Aq q.length cq], .int .i64 0]) ∧ p.length ≤ 50000 ∧ q.length ≤ 50000 ∧ NewZ base w' Ap cp p ∧ NewZ base w' Aq cq q ∧ Right g cn rn F T lev p q
section
variable {g : Gr} {cn rn : Nat} {F T : List Nat}
theorem clear_no_c (E : EndsOk g cn rn F T) (hno : ∀ i, i < g.L.length → knB g.L i = true → ¬ wayA g cn rn F T (gi g.L i)) (w : World) (A B D : Option Addr) (c cB cD : Nat) (hA : Row 1 encZ w A g.L) (hB : Row 1 encZ w B (zl F)) (hD : Row 1 encZ w D (zl T)) (h0 : endsE g (zl F) (zl T) = 0) :
    Calls Try.prog 56 #[.agg #[.int .i64 g.X, .int .i64 g.Y, .int .i64 g.S, .int .i64 g.C, .int .i64 g.R, .slice A g.L.length c], .slice B F.length cB, .slice D T.length cD] w fun e w' => e = .returned (.tuple #[.agg #[.int .i64 0, .slice none 0 0, .slice none 0 0], .int .i64 11]) ∧ Ext w w' := by
  refine (clear_ok_c E w A B D c cB cD hA hB hD h0).mono fun e w' h => ⟨?_, h.2⟩
  rcases h.1 with ⟨h1, _⟩ | ⟨l, p, _, _, _, _, _, h1, h2, _⟩
  · exact h1
  · obtain ⟨i, hi, hl⟩ := List.mem_iff_getElem.1 h1.1
    have e1 : gi g.L i = l := by rw [gi_lt _ _ hi]; exact hl
    exact absurd (e1 ▸ ⟨p, h2⟩) (hno i hi (knB_iff.2 (by rw [e1]; exact h1.2)))
theorem clear_yes_c (E : EndsOk g cn rn F T) (v : VG g) {lev : Int} (hl : lev ∈ g.L ∧ lev ≠ 30000) (hw : wayA g cn rn F T lev) (hmin : ∀ x, x ∈ g.L → x ≠ 30000 → x < lev → ¬ wayA g cn rn F T x) (w : World) (A B D : Option Addr) (c cB cD : Nat) (hA : Row 1 encZ w A g.L) (hB : Row 1 encZ w B (zl F)) (hD : Row 1 encZ w D (zl T)) (h0 : endsE g (zl F) (zl T) = 0) :
    Calls Try.prog 56 #[.agg #[.int .i64 g.X, .int .i64 g.Y, .int .i64 g.S, .int .i64 g.C, .int .i64 g.R, .slice A g.L.length c], .slice B F.length cB, .slice D T.length cD] w fun e w' => OutR w.heap.size g cn rn F T lev e w' ∧ Ext w w' := by
  refine (clear_ok_c E w A B D c cB cD hA hB hD h0).mono fun e w' h => ⟨?_, h.2⟩
  rcases h.1 with ⟨_, h1⟩ | ⟨l, p, Ap, cp, Ab, cb, he, h1, h2, h3, h4, h5, h6⟩
  · exact absurd hw (h1 _ hl.1 hl.2)
  · have : l = lev := by
      have a1 : ¬ l < lev := fun h => hmin l h1.1 h1.2 h ⟨p, h2⟩
      have a2 : ¬ lev < l := fun h => h4 lev hl.1 hl.2 h hw
      omega
    subst this
    have hn1 := E.n1
    have hlen := E.len
    have h10 := chs_len (nbP g l) g.L.length
    refine ⟨zl p, zl (chs (nbP g l) g.L.length), Ap, Ab, cp, cb, ?_, by rw [zl_len]; omega, by rw [zl_len]; omega, h5, h6, right_of_clear E v h2 h4⟩
    rw [zl_len, zl_len]; exact he
end
theorem endsE_swap {g : Gr} {F T : List Int} (h : endsE g F T = 0) : endsE g T F = 0 := by
  obtain ⟨h1, h2⟩ := endsE_yes h
  rw [endsE_R, if_neg (by omega)]
  unfold endR at h2 ⊢
  by_cases h3 : F.length = 0 ∨ T.length = 0
  · rw [if_pos h3] at h2; cases h2
  rw [if_neg h3] at h2
  rw [if_neg (by omega)]
  by_cases h4 : cellsE g.L.length F ≠ 0
  · rw [if_pos h4] at h2; exact absurd h2 h4
  rw [if_neg h4] at h2
  rw [if_neg (by omega)]
  omega
theorem ends_rev {g : Gr} {cn rn : Nat} {F T : List Nat} (E : EndsOk g cn rn F T) : EndsOk g cn rn T F := ⟨E.hC, E.hR, E.c0, E.c1, E.r1, E.n1, E.len, E.fT, E.fF, E.lT, E.lF⟩
set_option maxHeartbeats 16000000 in
set_option maxRecDepth 100000 in
theorem ro_walk (g : Gr) (F T : List Int) (w : World) (A B D : Option Addr) (c cB cD : Nat) (hl : g.L.length ≤ maxLen) (_hFm : F.length ≤ maxLen) (_hTm : T.length ≤ maxLen) (hA : Row 1 encZ w A g.L) (hB : Row 1 encZ w B F) (hD : Row 1 encZ w D T) :
    Calls Try.prog 12 #[.agg #[.int .i64 g.X, .int .i64 g.Y, .int .i64 g.S, .int .i64 g.C, .int .i64 g.R, .slice A g.L.length c], .slice B F.length cB, .slice D T.length cD] w fun e w' => e = .returned (.bool true) ∧ Ext w w' := by
  have HF := Lib.hid (fun w' (hw : Ext w w') => few_c g w' A c hl (hA.ext hw))
  have HR := Lib.hid (fun w' (hw : Ext w w') => rcheck_c g w' A c hl (hA.ext hw))
  cases hf : fewB g
  · rw [hf] at HF
    clear hf
    go_enter Try.func12, Try.ntmps12
    go_wp2_with (first | (go_at_call 16; with_reducible refine Calls.mono (awake_c _) ?_; rintro e wa ⟨rfl, hb⟩; have hc := hb.ccell; have hf := hb.frz; have hs := hb.sz; (try simp at hs); (try have t0 := hs (w.heap.size) (by first | assumption | omega)); (try have t1 := hs (w.heap.size) (by first | assumption | omega)); (try have t2 := hs (w.heap.size) (by first | assumption | omega)); (try have t3 := hs (w.heap.size) (by first | assumption | omega)); (try have t4 := hs (w.heap.size) (by first | assumption | omega)); (try have t5 := hs (w.heap.size) (by first | assumption | omega))) | (go_at_call 17; with_reducible refine Calls.mono (HF.out _ (by (repeat (first | with_reducible exact Ext.rfl' _ | with_reducible assumption | with_reducible refine Ext.al ?_ _ | with_reducible refine Ext.dr ?_ | with_reducible refine Ext.st ?_ (by simp) _ | with_reducible refine Ext.tr ?_ (by assumption))))) ?_; rintro e wf ⟨rfl, hb⟩; have hc := hb.ccell; have hf := hb.frz; have hs := hb.sz; (try simp at hs); (try have t0 := hs (w.heap.size) (by first | assumption | omega)); (try have t1 := hs (w.heap.size) (by first | assumption | omega)); (try have t2 := hs (w.heap.size) (by first | assumption | omega)); (try have t3 := hs (w.heap.size) (by first | assumption | omega)); (try have t4 := hs (w.heap.size) (by first | assumption | omega)); (try have t5 := hs (w.heap.size) (by first | assumption | omega))))
    go_ret
    exact ⟨rfl, by (repeat (first | with_reducible exact Ext.rfl' _ | with_reducible assumption | with_reducible refine Ext.al ?_ _ | with_reducible refine Ext.dr ?_ | with_reducible refine Ext.st ?_ (by simp) _ | with_reducible refine Ext.tr ?_ (by assumption)))⟩
  have hl2 := fewB_len hf
  rw [hf] at HF
  clear hf
  by_cases hl1 : (F.length : Int) ≤ 8
  case neg =>
    go_enter Try.func12, Try.ntmps12
    go_wp2_with (first | (go_at_call 16; with_reducible refine Calls.mono (awake_c _) ?_; rintro e wa ⟨rfl, hb⟩; have hc := hb.ccell; have hf := hb.frz; have hs := hb.sz; (try simp at hs); (try have t0 := hs (w.heap.size) (by first | assumption | omega)); (try have t1 := hs (w.heap.size) (by first | assumption | omega)); (try have t2 := hs (w.heap.size) (by first | assumption | omega)); (try have t3 := hs (w.heap.size) (by first | assumption | omega)); (try have t4 := hs (w.heap.size) (by first | assumption | omega)); (try have t5 := hs (w.heap.size) (by first | assumption | omega))) | (go_at_call 17; with_reducible refine Calls.mono (HF.out _ (by (repeat (first | with_reducible exact Ext.rfl' _ | with_reducible assumption | with_reducible refine Ext.al ?_ _ | with_reducible refine Ext.dr ?_ | with_reducible refine Ext.st ?_ (by simp) _ | with_reducible refine Ext.tr ?_ (by assumption))))) ?_; rintro e wf ⟨rfl, hb⟩; have hc := hb.ccell; have hf := hb.frz; have hs := hb.sz; (try simp at hs); (try have t0 := hs (w.heap.size) (by first | assumption | omega)); (try have t1 := hs (w.heap.size) (by first | assumption | omega)); (try have t2 := hs (w.heap.size) (by first | assumption | omega)); (try have t3 := hs (w.heap.size) (by first | assumption | omega)); (try have t4 := hs (w.heap.size) (by first | assumption | omega)); (try have t5 := hs (w.heap.size) (by first | assumption | omega))))
    go_ret
    exact ⟨rfl, by (repeat (first | with_reducible exact Ext.rfl' _ | with_reducible assumption | with_reducible refine Ext.al ?_ _ | with_reducible refine Ext.dr ?_ | with_reducible refine Ext.st ?_ (by simp) _ | with_reducible refine Ext.tr ?_ (by assumption)))⟩
  by_cases hl2 : (T.length : Int) ≤ 8
  case neg =>
    go_enter Try.func12, Try.ntmps12
    go_wp2_with (first | (go_at_call 16; with_reducible refine Calls.mono (awake_c _) ?_; rintro e wa ⟨rfl, hb⟩; have hc := hb.ccell; have hf := hb.frz; have hs := hb.sz; (try simp at hs); (try have t0 := hs (w.heap.size) (by first | assumption | omega)); (try have t1 := hs (w.heap.size) (by first | assumption | omega)); (try have t2 := hs (w.heap.size) (by first | assumption | omega)); (try have t3 := hs (w.heap.size) (by first | assumption | omega)); (try have t4 := hs (w.heap.size) (by first | assumption | omega)); (try have t5 := hs (w.heap.size) (by first | assumption | omega))) | (go_at_call 17; with_reducible refine Calls.mono (HF.out _ (by (repeat (first | with_reducible exact Ext.rfl' _ | with_reducible assumption | with_reducible refine Ext.al ?_ _ | with_reducible refine Ext.dr ?_ | with_reducible refine Ext.st ?_ (by simp) _ | with_reducible refine Ext.tr ?_ (by assumption))))) ?_; rintro e wf ⟨rfl, hb⟩; have hc := hb.ccell; have hf := hb.frz; have hs := hb.sz; (try simp at hs); (try have t0 := hs (w.heap.size) (by first | assumption | omega)); (try have t1 := hs (w.heap.size) (by first | assumption | omega)); (try have t2 := hs (w.heap.size) (by first | assumption | omega)); (try have t3 := hs (w.heap.size) (by first | assumption | omega)); (try have t4 := hs (w.heap.size) (by first | assumption | omega)); (try have t5 := hs (w.heap.size) (by first | assumption | omega))))
    go_ret
    exact ⟨rfl, by (repeat (first | with_reducible exact Ext.rfl' _ | with_reducible assumption | with_reducible refine Ext.al ?_ _ | with_reducible refine Ext.dr ?_ | with_reducible refine Ext.st ?_ (by simp) _ | with_reducible refine Ext.tr ?_ (by assumption)))⟩
  have HC1 := Lib.hid (fun w' (hw : Ext w w') => copyInts_c F w' B cB (by omega) (hB.ext hw))
  have HC2 := Lib.hid (fun w' (hw : Ext w w') => copyInts_c T w' D cD (by omega) (hD.ext hw))
  have HEN := Lib.hid (fun w' (hw : Ext w w') => rends_c g F T w' A B D c cB cD (by omega) (by omega) (hB.ext hw) (hD.ext hw))
  by_cases h0 : endsE g F T = 0
  case neg =>
    have HCL := Lib.hid (fun w' (hw : Ext w w') B' cB' D' cD' (hB' : Row 1 encZ w' B' F) (hD' : Row 1 encZ w' D' T) => clear_err_c g F T w' A B' D' c cB' cD' (by omega) (by omega) (by omega) (hA.ext hw) hB' hD' h0)
    obtain ⟨X, hX⟩ : ∃ X, endsE g F T = X := ⟨_, rfl⟩
    rw [hX] at HCL
    have HX := Lib.hid (And.intro hX h0)
    clear hX h0 hA hB hD
    go_enter Try.func12, Try.ntmps12
    go_upto_region 5 with (first | (go_at_call 16; with_reducible refine Calls.mono (awake_c _) ?_; rintro e wa ⟨rfl, hb⟩; have hc := hb.ccell; have hf := hb.frz; have hs := hb.sz; (try simp at hs); (try have t0 := hs (w.heap.size) (by first | assumption | omega)); (try have t1 := hs (w.heap.size) (by first | assumption | omega)); (try have t2 := hs (w.heap.size) (by first | assumption | omega)); (try have t3 := hs (w.heap.size) (by first | assumption | omega)); (try have t4 := hs (w.heap.size) (by first | assumption | omega)); (try have t5 := hs (w.heap.size) (by first | assumption | omega))) | (go_at_call 17; with_reducible refine Calls.mono (HF.out _ (by (repeat (first | with_reducible exact Ext.rfl' _ | with_reducible assumption | with_reducible refine Ext.al ?_ _ | with_reducible refine Ext.dr ?_ | with_reducible refine Ext.st ?_ (by simp) _ | with_reducible refine Ext.tr ?_ (by assumption))))) ?_; rintro e wf ⟨rfl, hb⟩; have hc := hb.ccell; have hf := hb.frz; have hs := hb.sz; (try simp at hs); (try have t0 := hs (w.heap.size) (by first | assumption | omega)); (try have t1 := hs (w.heap.size) (by first | assumption | omega)); (try have t2 := hs (w.heap.size) (by first | assumption | omega)); (try have t3 := hs (w.heap.size) (by first | assumption | omega)); (try have t4 := hs (w.heap.size) (by first | assumption | omega)); (try have t5 := hs (w.heap.size) (by first | assumption | omega))))
    have hEW : Ext w wf := by (repeat (first | with_reducible exact Ext.rfl' _ | with_reducible assumption | with_reducible refine Ext.al ?_ _ | with_reducible refine Ext.dr ?_ | with_reducible refine Ext.st ?_ (by simp) _ | with_reducible refine Ext.tr ?_ (by assumption)))
    have kg : CellsAt wf w.heap.size 0 [.int .i64 g.X, .int .i64 g.Y, .int .i64 g.S, .int .i64 g.C, .int .i64 g.R, .slice A g.L.length c] := by
      refine cells_six ⟨?_, ?_, ?_, ?_, ?_, ?_⟩ <;> simp [*, go_sem]
    have zg : w.heap.size < wf.heap.size := by assumption
    clear hb hc hf hs t0 t1 t2 t3 t4 t5
    go_cut [7, 8] (fun s7 s8 wx => ∃ b7 : Nat, s7 = .pointer (some ⟨b7, 0, none⟩) ∧ s8 = .int .i64 X ∧ Ext wf wx ∧ b7 < wx.heap.size ∧ CellsAt wx b7 0 [.int .i64 0, .slice none 0 0, .slice none 0 0])
    case first =>
      clear HEN HR HF
      obtain ⟨g0, g1, g2, g3, g4, g5⟩ := kg.six
      go_region_held3 (fun w' => (∀ j : Nat, w'.cell? ⟨w.heap.size, j, none⟩ = wf.cell? ⟨w.heap.size, j, none⟩) ∧ Ext wf w') ((refine keepB1 ?_ zg; (repeat (first | with_reducible exact Ext.rfl' _ | with_reducible assumption | with_reducible refine Ext.al ?_ _ | with_reducible refine Ext.dr ?_ | with_reducible refine Ext.st ?_ (by first | (simp; done) | (have h9 := Below.size hb2; have h8 := Below.size hb3; have h7 := Below.size hb4; simp at h9 h8 h7 ⊢; omega)) _ | with_reducible refine Ext.tr ?_ (by assumption))))) (first | (go_at_call 47; (with_reducible refine Calls.mono (HC1.out _ (by (repeat (first | with_reducible exact Ext.rfl' _ | with_reducible assumption | with_reducible refine Ext.al ?_ _ | with_reducible refine Ext.dr ?_ | with_reducible refine Ext.st ?_ (by simp) _ | with_reducible refine Ext.tr ?_ (by assumption))))) ?_); rintro e w2 ⟨⟨A2, c2, rfl, hN2⟩, hb2⟩; have hc2 := hb2.ccell; have hf2 := hb2.frz; have hs2 := hb2.sz; (try have t2 := hs2 wf.heap.size (by first | assumption | (simp; done) | (simp; omega)))) | (go_at_call 47; (with_reducible refine Calls.mono (HC2.out _ (by (repeat (first | with_reducible exact Ext.rfl' _ | with_reducible assumption | with_reducible refine Ext.al ?_ _ | with_reducible refine Ext.dr ?_ | with_reducible refine Ext.st ?_ (by simp) _ | with_reducible refine Ext.tr ?_ (by assumption))))) ?_); rintro e w3 ⟨⟨A3, c3, rfl, hN3⟩, hb3⟩; have hc3 := hb3.ccell; have hf3 := hb3.frz; have hs3 := hb3.sz; (try have t3 := hs3 wf.heap.size (by first | assumption | (simp; done) | (simp; omega))); (try have t3' := hs3 w2.heap.size (by first | assumption | (simp; done) | (simp; omega)))) | (go_at_call 56; (with_reducible refine Calls.mono (HCL.out _ (by (repeat (first | with_reducible exact Ext.rfl' _ | with_reducible assumption | with_reducible refine Ext.al ?_ _ | with_reducible refine Ext.dr ?_ | with_reducible refine Ext.st ?_ (by simp) _ | with_reducible refine Ext.tr ?_ (by assumption)))) _ _ _ _ (hN2.row.ext (by (repeat (first | with_reducible exact Ext.rfl' _ | with_reducible assumption | with_reducible refine Ext.al ?_ _ | with_reducible refine Ext.dr ?_ | with_reducible refine Ext.st ?_ (by simp) _ | with_reducible refine Ext.tr ?_ (by assumption))))) (hN3.row.ext (by (repeat (first | with_reducible exact Ext.rfl' _ | with_reducible assumption | with_reducible refine Ext.al ?_ _ | with_reducible refine Ext.dr ?_ | with_reducible refine Ext.st ?_ (by simp) _ | with_reducible refine Ext.tr ?_ (by assumption)))))) ?_); rintro e w4 ⟨rfl, hb4⟩; have hc4 := hb4.ccell; have hf4 := hb4.frz; have hs4 := hb4.sz; (try have t4 := hs4 wf.heap.size (by first | assumption | (simp; done) | (simp; omega))); (try have t4' := hs4 w2.heap.size (by first | assumption | (simp; done) | (simp; omega))); (try have t4'' := hs4 w3.heap.size (by first | assumption | (simp; done) | (simp; omega)))))
      all_goals
        rename_i hJ hK h1 h2 hH
        clear hH
        refine h2 _ _ (Met.intro (h1 _ _ ?_))
        (repeat apply Exists.intro)
        refine ⟨?_, rfl⟩
        refine ⟨_, rfl, rfl, ?_, ?_, ?_⟩
        · (repeat (first | with_reducible exact Ext.rfl' _ | with_reducible assumption | with_reducible refine Ext.al ?_ _ | with_reducible refine Ext.dr ?_ | with_reducible refine Ext.st ?_ (by first | (simp; done) | (have h9 := Below.size hb2; have h8 := Below.size hb3; have h7 := Below.size hb4; simp at h9 h8 h7 ⊢; omega)) _ | with_reducible refine Ext.tr ?_ (by assumption)))
        · first
            | (simp; done)
            | (have h9 := Below.size hb2; have h8 := Below.size hb3; have h7 := Below.size hb4; (try simp at h9); (try simp at h8); (try simp at h7); (try simp); omega)
        · first
            | (refine cells_three ⟨?_, ?_, ?_⟩ <;> (simp [go_sem]; done))
            | (refine cells_three ⟨?_, ?_, ?_⟩ <;> (simp [*, go_sem]; done))
    case rest =>
      obtain ⟨b7, rfl, rfl, hx, hz7, k7⟩ := hcut
      have hEc := hEW.tr hx
      obtain ⟨g0, g1, g2, g3, g4, g5⟩ := (kg.ext hx zg).six
      obtain ⟨r0, r1, r2⟩ := k7.three
      have zgc := hx.sz _ zg
      clear kg zg k7 hx hEW HC1 HC2 HCL
      obtain ⟨hX, h0⟩ := HX.out
      have x1 : (X == 0) = false := by rw [← hX]; simp [h0]
      have x2 : (X != 0) = true := by rw [← hX]; simp [h0]
      rcases endsE_no h0 with ⟨k1, k2⟩ | ⟨k1, k2⟩
      · rw [show chkG g = X by rw [← k2, hX]] at HR
        clear k1 k2 hX h0 HX HEN
        go_wp2_with (first | (go_at_call 20; with_reducible refine Calls.mono (HR.out _ (by (repeat (first | with_reducible exact Ext.rfl' _ | with_reducible assumption | with_reducible refine Ext.al ?_ _ | with_reducible refine Ext.dr ?_ | with_reducible refine Ext.st ?_ (by simp) _ | with_reducible refine Ext.tr ?_ (by assumption))))) ?_; rintro e wr ⟨rfl, hb⟩; have hc := hb.ccell; have hf := hb.frz; have hs := hb.sz; (try simp at hs); (try have t0 := hs (w.heap.size) (by first | assumption | omega)); (try have t1 := hs (b7) (by first | assumption | omega)); (try have t2 := hs (w.heap.size) (by first | assumption | omega)); (try have t3 := hs (b7) (by first | assumption | omega)); (try have t4 := hs (w.heap.size) (by first | assumption | omega)); (try have t5 := hs (b7) (by first | assumption | omega))))
        go_ret
        exact ⟨rfl, by (repeat (first | with_reducible exact Ext.rfl' _ | with_reducible assumption | with_reducible refine Ext.al ?_ _ | with_reducible refine Ext.dr ?_ | with_reducible refine Ext.st ?_ (by simp) _ | with_reducible refine Ext.tr ?_ (by assumption)))⟩
      · rw [k1] at HR
        rw [show endR g F T = X by rw [← k2, hX]] at HEN
        clear k1 k2 hX h0 HX
        go_wp2_with (first | (go_at_call 20; with_reducible refine Calls.mono (HR.out _ (by (repeat (first | with_reducible exact Ext.rfl' _ | with_reducible assumption | with_reducible refine Ext.al ?_ _ | with_reducible refine Ext.dr ?_ | with_reducible refine Ext.st ?_ (by simp) _ | with_reducible refine Ext.tr ?_ (by assumption))))) ?_; rintro e wr ⟨rfl, hb⟩; have hc := hb.ccell; have hf := hb.frz; have hs := hb.sz; (try simp at hs); (try have t0 := hs (w.heap.size) (by first | assumption | omega)); (try have t1 := hs (b7) (by first | assumption | omega)); (try have t2 := hs (w.heap.size) (by first | assumption | omega)); (try have t3 := hs (b7) (by first | assumption | omega)); (try have t4 := hs (w.heap.size) (by first | assumption | omega)); (try have t5 := hs (b7) (by first | assumption | omega))) | (go_at_call 57; with_reducible refine Calls.mono (HEN.out _ (by (repeat (first | with_reducible exact Ext.rfl' _ | with_reducible assumption | with_reducible refine Ext.al ?_ _ | with_reducible refine Ext.dr ?_ | with_reducible refine Ext.st ?_ (by simp) _ | with_reducible refine Ext.tr ?_ (by assumption))))) ?_; rintro e we ⟨rfl, hb⟩; have hc := hb.ccell; have hf := hb.frz; have hs := hb.sz; (try simp at hs); (try have t0 := hs (w.heap.size) (by first | assumption | omega)); (try have t1 := hs (b7) (by first | assumption | omega)); (try have t2 := hs (w.heap.size) (by first | assumption | omega)); (try have t3 := hs (b7) (by first | assumption | omega)); (try have t4 := hs (w.heap.size) (by first | assumption | omega)); (try have t5 := hs (b7) (by first | assumption | omega))))
        go_ret
        exact ⟨rfl, by (repeat (first | with_reducible exact Ext.rfl' _ | with_reducible assumption | with_reducible refine Ext.al ?_ _ | with_reducible refine Ext.dr ?_ | with_reducible refine Ext.st ?_ (by simp) _ | with_reducible refine Ext.tr ?_ (by assumption)))⟩
  obtain ⟨hc0, hr0⟩ := endsE_yes h0
  rw [hr0] at HEN
  rw [hc0] at HR
  have h0s := endsE_swap h0
  obtain ⟨cn, rn, F', T', E, hF', hT', v, _, _⟩ := ends_ok h0 (by omega) (by omega)
  have e1 : F'.length = F.length := by rw [hF', zl_len]
  have e2 : T'.length = T.length := by rw [hT', zl_len]
  have HLE := Lib.hid (fun v1 v2 v3 w' (hw : Ext w w') => rleast_c E v1 v2 v3 w' A B D c cB cD (hA.ext hw) (hF' ▸ hB.ext hw) (hT' ▸ hD.ext hw))
  obtain ⟨best, found, hLe⟩ := leI_ex g cn rn F' T' g.L.length
  have HL1 : Hid (∀ v1 v2 v3 w', Ext w w' → Calls Try.prog 58 #[.agg #[.int .i64 g.X, .int .i64 g.Y, .int .i64 g.S, .int .i64 g.C, .int .i64 g.R, .slice A g.L.length c], .agg #[.slice B F.length cB, .slice D T.length cD, v1, v2, v3]] w' fun e w'' => e = .returned (.tuple #[.int .i64 best, .bool found]) ∧ Ext w' w'') := Lib.hid fun v1 v2 v3 w' hw => by
    have h := HLE.out v1 v2 v3 w' hw
    rw [e1, e2] at h
    refine h.mono fun e w'' h => ?_
    obtain ⟨⟨b, f, h1, h2⟩, h3⟩ := h
    obtain ⟨rfl, rfl⟩ := leI_one h2 hLe
    exact ⟨h1, h3⟩
  clear HLE
  rcases hLe with ⟨rfl, rfl, hno⟩ | ⟨rfl, ⟨i, hi1, hi2, hi3⟩, hwy, hmn⟩
  · have HCL := Lib.hid (fun w' (hw : Ext w w') B' cB' D' cD' (hB' : Row 1 encZ w' B' F) (hD' : Row 1 encZ w' D' T) => by
      have h := clear_no_c E hno w' A B' D' c cB' cD' (hA.ext hw) (hF' ▸ hB') (hT' ▸ hD') (by rw [← hF', ← hT']; exact h0)
      rw [e1, e2] at h
      exact h)
    obtain ⟨X, hX⟩ : ∃ X : Int, 11 = X := ⟨_, rfl⟩
    rw [hX] at HCL
    have HX := Lib.hid hX
    clear h0 hc0 hr0 h0s E hF' hT' v e1 e2 hA hB hD hX hno
    go_enter Try.func12, Try.ntmps12
    go_upto_region 5 with (first | (go_at_call 16; with_reducible refine Calls.mono (awake_c _) ?_; rintro e wa ⟨rfl, hb⟩; have hc := hb.ccell; have hf := hb.frz; have hs := hb.sz; (try simp at hs); (try have t0 := hs (w.heap.size) (by first | assumption | omega)); (try have t1 := hs (w.heap.size) (by first | assumption | omega)); (try have t2 := hs (w.heap.size) (by first | assumption | omega)); (try have t3 := hs (w.heap.size) (by first | assumption | omega)); (try have t4 := hs (w.heap.size) (by first | assumption | omega)); (try have t5 := hs (w.heap.size) (by first | assumption | omega))) | (go_at_call 17; with_reducible refine Calls.mono (HF.out _ (by (repeat (first | with_reducible exact Ext.rfl' _ | with_reducible assumption | with_reducible refine Ext.al ?_ _ | with_reducible refine Ext.dr ?_ | with_reducible refine Ext.st ?_ (by simp) _ | with_reducible refine Ext.tr ?_ (by assumption))))) ?_; rintro e wf ⟨rfl, hb⟩; have hc := hb.ccell; have hf := hb.frz; have hs := hb.sz; (try simp at hs); (try have t0 := hs (w.heap.size) (by first | assumption | omega)); (try have t1 := hs (w.heap.size) (by first | assumption | omega)); (try have t2 := hs (w.heap.size) (by first | assumption | omega)); (try have t3 := hs (w.heap.size) (by first | assumption | omega)); (try have t4 := hs (w.heap.size) (by first | assumption | omega)); (try have t5 := hs (w.heap.size) (by first | assumption | omega))))
    have hEW : Ext w wf := by (repeat (first | with_reducible exact Ext.rfl' _ | with_reducible assumption | with_reducible refine Ext.al ?_ _ | with_reducible refine Ext.dr ?_ | with_reducible refine Ext.st ?_ (by simp) _ | with_reducible refine Ext.tr ?_ (by assumption)))
    have kg : CellsAt wf w.heap.size 0 [.int .i64 g.X, .int .i64 g.Y, .int .i64 g.S, .int .i64 g.C, .int .i64 g.R, .slice A g.L.length c] := by
      refine cells_six ⟨?_, ?_, ?_, ?_, ?_, ?_⟩ <;> simp [*, go_sem]
    have zg : w.heap.size < wf.heap.size := by assumption
    clear hb hc hf hs t0 t1 t2 t3 t4 t5
    go_cut [7, 8] (fun s7 s8 wx => ∃ b7 : Nat, s7 = .pointer (some ⟨b7, 0, none⟩) ∧ s8 = .int .i64 X ∧ Ext wf wx ∧ b7 < wx.heap.size ∧ CellsAt wx b7 0 [.int .i64 0, .slice none 0 0, .slice none 0 0])
    case first =>
      clear HEN HR HF
      obtain ⟨g0, g1, g2, g3, g4, g5⟩ := kg.six
      go_region_held3 (fun w' => (∀ j : Nat, w'.cell? ⟨w.heap.size, j, none⟩ = wf.cell? ⟨w.heap.size, j, none⟩) ∧ Ext wf w') ((refine keepB1 ?_ zg; (repeat (first | with_reducible exact Ext.rfl' _ | with_reducible assumption | with_reducible refine Ext.al ?_ _ | with_reducible refine Ext.dr ?_ | with_reducible refine Ext.st ?_ (by first | (simp; done) | (have h9 := Below.size hb2; have h8 := Below.size hb3; have h7 := Below.size hb4; simp at h9 h8 h7 ⊢; omega)) _ | with_reducible refine Ext.tr ?_ (by assumption))))) (first | (go_at_call 47; (with_reducible refine Calls.mono (HC1.out _ (by (repeat (first | with_reducible exact Ext.rfl' _ | with_reducible assumption | with_reducible refine Ext.al ?_ _ | with_reducible refine Ext.dr ?_ | with_reducible refine Ext.st ?_ (by simp) _ | with_reducible refine Ext.tr ?_ (by assumption))))) ?_); rintro e w2 ⟨⟨A2, c2, rfl, hN2⟩, hb2⟩; have hc2 := hb2.ccell; have hf2 := hb2.frz; have hs2 := hb2.sz; (try have t2 := hs2 wf.heap.size (by first | assumption | (simp; done) | (simp; omega)))) | (go_at_call 47; (with_reducible refine Calls.mono (HC2.out _ (by (repeat (first | with_reducible exact Ext.rfl' _ | with_reducible assumption | with_reducible refine Ext.al ?_ _ | with_reducible refine Ext.dr ?_ | with_reducible refine Ext.st ?_ (by simp) _ | with_reducible refine Ext.tr ?_ (by assumption))))) ?_); rintro e w3 ⟨⟨A3, c3, rfl, hN3⟩, hb3⟩; have hc3 := hb3.ccell; have hf3 := hb3.frz; have hs3 := hb3.sz; (try have t3 := hs3 wf.heap.size (by first | assumption | (simp; done) | (simp; omega))); (try have t3' := hs3 w2.heap.size (by first | assumption | (simp; done) | (simp; omega)))) | (go_at_call 56; (with_reducible refine Calls.mono (HCL.out _ (by (repeat (first | with_reducible exact Ext.rfl' _ | with_reducible assumption | with_reducible refine Ext.al ?_ _ | with_reducible refine Ext.dr ?_ | with_reducible refine Ext.st ?_ (by simp) _ | with_reducible refine Ext.tr ?_ (by assumption)))) _ _ _ _ (hN2.row.ext (by (repeat (first | with_reducible exact Ext.rfl' _ | with_reducible assumption | with_reducible refine Ext.al ?_ _ | with_reducible refine Ext.dr ?_ | with_reducible refine Ext.st ?_ (by simp) _ | with_reducible refine Ext.tr ?_ (by assumption))))) (hN3.row.ext (by (repeat (first | with_reducible exact Ext.rfl' _ | with_reducible assumption | with_reducible refine Ext.al ?_ _ | with_reducible refine Ext.dr ?_ | with_reducible refine Ext.st ?_ (by simp) _ | with_reducible refine Ext.tr ?_ (by assumption)))))) ?_); rintro e w4 ⟨rfl, hb4⟩; have hc4 := hb4.ccell; have hf4 := hb4.frz; have hs4 := hb4.sz; (try have t4 := hs4 wf.heap.size (by first | assumption | (simp; done) | (simp; omega))); (try have t4' := hs4 w2.heap.size (by first | assumption | (simp; done) | (simp; omega))); (try have t4'' := hs4 w3.heap.size (by first | assumption | (simp; done) | (simp; omega)))))
      all_goals
        rename_i hJ hK h1 h2 hH
        clear hH
        refine h2 _ _ (Met.intro (h1 _ _ ?_))
        (repeat apply Exists.intro)
        refine ⟨?_, rfl⟩
        refine ⟨_, rfl, rfl, ?_, ?_, ?_⟩
        · (repeat (first | with_reducible exact Ext.rfl' _ | with_reducible assumption | with_reducible refine Ext.al ?_ _ | with_reducible refine Ext.dr ?_ | with_reducible refine Ext.st ?_ (by first | (simp; done) | (have h9 := Below.size hb2; have h8 := Below.size hb3; have h7 := Below.size hb4; simp at h9 h8 h7 ⊢; omega)) _ | with_reducible refine Ext.tr ?_ (by assumption)))
        · first
            | (simp; done)
            | (have h9 := Below.size hb2; have h8 := Below.size hb3; have h7 := Below.size hb4; (try simp at h9); (try simp at h8); (try simp at h7); (try simp); omega)
        · first
            | (refine cells_three ⟨?_, ?_, ?_⟩ <;> (simp [go_sem]; done))
            | (refine cells_three ⟨?_, ?_, ?_⟩ <;> (simp [*, go_sem]; done))
    case rest =>
      obtain ⟨b7, rfl, rfl, hx, hz7, k7⟩ := hcut
      have hEc := hEW.tr hx
      obtain ⟨g0, g1, g2, g3, g4, g5⟩ := (kg.ext hx zg).six
      obtain ⟨r0, r1, r2⟩ := k7.three
      have zgc := hx.sz _ zg
      clear kg zg k7 hx hEW HC1 HC2 HCL
      have hX := HX.out
      subst hX
      go_wp2_with (first | (go_at_call 20; with_reducible refine Calls.mono (HR.out _ (by (repeat (first | with_reducible exact Ext.rfl' _ | with_reducible assumption | with_reducible refine Ext.al ?_ _ | with_reducible refine Ext.dr ?_ | with_reducible refine Ext.st ?_ (by simp) _ | with_reducible refine Ext.tr ?_ (by assumption))))) ?_; rintro e wr ⟨rfl, hb⟩; have hc := hb.ccell; have hf := hb.frz; have hs := hb.sz; (try simp at hs); (try have t0 := hs (w.heap.size) (by first | assumption | omega)); (try have t1 := hs (b7) (by first | assumption | omega)); (try have t2 := hs (w.heap.size) (by first | assumption | omega)); (try have t3 := hs (b7) (by first | assumption | omega)); (try have t4 := hs (w.heap.size) (by first | assumption | omega)); (try have t5 := hs (b7) (by first | assumption | omega))) | (go_at_call 57; with_reducible refine Calls.mono (HEN.out _ (by (repeat (first | with_reducible exact Ext.rfl' _ | with_reducible assumption | with_reducible refine Ext.al ?_ _ | with_reducible refine Ext.dr ?_ | with_reducible refine Ext.st ?_ (by simp) _ | with_reducible refine Ext.tr ?_ (by assumption))))) ?_; rintro e we ⟨rfl, hb⟩; have hc := hb.ccell; have hf := hb.frz; have hs := hb.sz; (try simp at hs); (try have t0 := hs (w.heap.size) (by first | assumption | omega)); (try have t1 := hs (b7) (by first | assumption | omega)); (try have t2 := hs (w.heap.size) (by first | assumption | omega)); (try have t3 := hs (b7) (by first | assumption | omega)); (try have t4 := hs (w.heap.size) (by first | assumption | omega)); (try have t5 := hs (b7) (by first | assumption | omega))) | (go_at_call 58; with_reducible refine Calls.mono (HL1.out _ _ _ _ (by (repeat (first | with_reducible exact Ext.rfl' _ | with_reducible assumption | with_reducible refine Ext.al ?_ _ | with_reducible refine Ext.dr ?_ | with_reducible refine Ext.st ?_ (by simp) _ | with_reducible refine Ext.tr ?_ (by assumption))))) ?_; rintro e wl ⟨rfl, hb⟩; have hc := hb.ccell; have hf := hb.frz; have hs := hb.sz; (try simp at hs); (try have t0 := hs (w.heap.size) (by first | assumption | omega)); (try have t1 := hs (b7) (by first | assumption | omega)); (try have t2 := hs (w.heap.size) (by first | assumption | omega)); (try have t3 := hs (b7) (by first | assumption | omega)); (try have t4 := hs (w.heap.size) (by first | assumption | omega)); (try have t5 := hs (b7) (by first | assumption | omega))))
      go_ret
      exact ⟨rfl, by (repeat (first | with_reducible exact Ext.rfl' _ | with_reducible assumption | with_reducible refine Ext.al ?_ _ | with_reducible refine Ext.dr ?_ | with_reducible refine Ext.st ?_ (by simp) _ | with_reducible refine Ext.tr ?_ (by assumption)))⟩
  · have hlv : best ∈ g.L ∧ best ≠ 30000 := by
      have h1 := knB_iff.1 hi2
      rw [hi3] at h1
      rw [gi_lt _ _ hi1] at hi3
      exact ⟨hi3 ▸ List.getElem_mem hi1, h1⟩
    have hmin : ∀ x, x ∈ g.L → x ≠ 30000 → x < best → ¬ wayA g cn rn F' T' x := by
      intro x hx hne hlt
      obtain ⟨j, hj, rfl⟩ := List.mem_iff_getElem.1 hx
      have h1 := hmn j hj (knB_iff.2 (by rw [gi_lt _ _ hj]; exact hne))
      rw [gi_lt _ _ hj] at h1
      exact h1 hlt
    have HCL := Lib.hid (fun w' (hw : Ext w w') B' cB' D' cD' (hB' : Row 1 encZ w' B' F) (hD' : Row 1 encZ w' D' T) => by
      have h := clear_yes_c E v hlv hwy hmin w' A B' D' c cB' cD' (hA.ext hw) (hF' ▸ hB') (hT' ▸ hD') (by rw [← hF', ← hT']; exact h0)
      rw [e1, e2] at h
      exact h)
    have HBK : Hid ((∀ x, x < best → ¬ wayA g cn rn F' T' x) → ∀ w', Ext w w' → Calls Try.prog 56 #[.agg #[.int .i64 g.X, .int .i64 g.Y, .int .i64 g.S, .int .i64 g.C, .int .i64 g.R, .slice A g.L.length c], .slice D T.length cD, .slice B F.length cB] w' fun e w'' => OutLev best e ∧ Ext w' w'') := Lib.hid fun hm w' hw => by
      have h := clear_lev_c (ends_rev E) hlv (wayA_rev E.c0 hwy) (fun x hx h => hm x hx (wayA_rev E.c0 h)) w' A D B c cD cB (hA.ext hw) (hT' ▸ hD.ext hw) (hF' ▸ hB.ext hw) (by rw [← hF', ← hT']; exact h0s)
      rw [e1, e2] at h
      exact h
    have HPR : Hid (∀ (p q : List Int) Ap Aq cp cq, p.length ≤ 50000 → q.length ≤ 50000 → Right g cn rn F' T' best p q → ∀ w', Ext w w' → Row 1 encZ w' Ap p → Row 1 encZ w' Aq q → Calls Try.prog 59 #[.agg #[.int .i64 g.X, .int .i64 g.Y, .int .i64 g.S, .int .i64 g.C, .int .i64 g.R, .slice A g.L.length c], .agg #[.slice B F.length cB, .slice D T.length cD, .int .i64 best, .slice Ap p.length cp, .slice Aq q.length cq]] w' fun e w'' => e = .returned (.bool true) ∧ Ext w' w'') := Lib.hid fun p q Ap Aq cp cq hp hq hri w' hw h1 h2 => by
      have h := proved_c E v p q best w' A B D Ap Aq c cB cD cp cq hp hq (hA.ext hw) (hF' ▸ hB.ext hw) (hT' ▸ hD.ext hw) h1 h2
      rw [e1, e2] at h
      refine h.mono fun e w'' h => ?_
      rcases h with ⟨⟨h3, _⟩ | ⟨_, h3⟩, h4⟩
      · exact ⟨h3, h4⟩
      · exact absurd hri h3
    have HCC : Hid (∀ (p q : List Int) Ap Aq cp cq, p.length ≤ 50000 → q.length ≤ 50000 → Right g cn rn F' T' best p q → ∀ w', Ext w w' → Row 1 encZ w' Ap p → Row 1 encZ w' Aq q → Calls Try.prog 60 #[.agg #[.int .i64 g.X, .int .i64 g.Y, .int .i64 g.S, .int .i64 g.C, .int .i64 g.R, .slice A g.L.length c], .agg #[.slice B F.length cB, .slice D T.length cD, .int .i64 best, .slice Ap p.length cp, .slice Aq q.length cq]] w' fun e w'' => e = .returned (.int .i64 0) ∧ Ext w' w'') := Lib.hid fun p q Ap Aq cp cq hp hq hri w' hw h1 h2 => by
      have h := checkClear_c E p q best w' A B D Ap Aq c cB cD cp cq hp hq (hA.ext hw) (hF' ▸ hB.ext hw) (hT' ▸ hD.ext hw) h1 h2 (by rw [← hF', ← hT']; exact h0)
      rw [e1, e2] at h
      refine h.mono fun e w'' h => ?_
      rcases h with ⟨⟨h3, _⟩ | ⟨_, h3⟩, h4⟩
      · exact ⟨h3, h4⟩
      · exact absurd hri h3
    have HRL : Hid (∀ p q, Right g cn rn F' T' best p q → ∀ x, x < best → ¬ wayA g cn rn F' T' x) := Lib.hid fun p q h => (right_least E v h).2.2
    clear h0 hc0 hr0 h0s E hF' hT' v e1 e2 hA hB hD hmin hmn hwy hlv hi1 hi2 hi3
    obtain ⟨lev, hlev⟩ : ∃ lev, best = lev := ⟨_, rfl⟩
    subst hlev
    go_enter Try.func12, Try.ntmps12
    go_upto_region 5 with (first | (go_at_call 16; with_reducible refine Calls.mono (awake_c _) ?_; rintro e wa ⟨rfl, hb⟩; have hc := hb.ccell; have hf := hb.frz; have hs := hb.sz; (try simp at hs); (try have t0 := hs (w.heap.size) (by first | assumption | omega)); (try have t1 := hs (w.heap.size) (by first | assumption | omega)); (try have t2 := hs (w.heap.size) (by first | assumption | omega)); (try have t3 := hs (w.heap.size) (by first | assumption | omega)); (try have t4 := hs (w.heap.size) (by first | assumption | omega)); (try have t5 := hs (w.heap.size) (by first | assumption | omega))) | (go_at_call 17; with_reducible refine Calls.mono (HF.out _ (by (repeat (first | with_reducible exact Ext.rfl' _ | with_reducible assumption | with_reducible refine Ext.al ?_ _ | with_reducible refine Ext.dr ?_ | with_reducible refine Ext.st ?_ (by simp) _ | with_reducible refine Ext.tr ?_ (by assumption))))) ?_; rintro e wf ⟨rfl, hb⟩; have hc := hb.ccell; have hf := hb.frz; have hs := hb.sz; (try simp at hs); (try have t0 := hs (w.heap.size) (by first | assumption | omega)); (try have t1 := hs (w.heap.size) (by first | assumption | omega)); (try have t2 := hs (w.heap.size) (by first | assumption | omega)); (try have t3 := hs (w.heap.size) (by first | assumption | omega)); (try have t4 := hs (w.heap.size) (by first | assumption | omega)); (try have t5 := hs (w.heap.size) (by first | assumption | omega))))
    have hEW : Ext w wf := by (repeat (first | with_reducible exact Ext.rfl' _ | with_reducible assumption | with_reducible refine Ext.al ?_ _ | with_reducible refine Ext.dr ?_ | with_reducible refine Ext.st ?_ (by simp) _ | with_reducible refine Ext.tr ?_ (by assumption)))
    have kg : CellsAt wf w.heap.size 0 [.int .i64 g.X, .int .i64 g.Y, .int .i64 g.S, .int .i64 g.C, .int .i64 g.R, .slice A g.L.length c] := by
      refine cells_six ⟨?_, ?_, ?_, ?_, ?_, ?_⟩ <;> simp [*, go_sem]
    have zg : w.heap.size < wf.heap.size := by assumption
    clear hb hc hf hs t0 t1 t2 t3 t4 t5
    go_cut [7, 8] (fun s7 s8 wx => ∃ (b7 : Nat) (p q : List Int) (Ap Aq : Option Addr) (cp cq : Nat), s7 = .pointer (some ⟨b7, 0, none⟩) ∧ s8 = .int .i64 0 ∧ Ext wf wx ∧ b7 < wx.heap.size ∧ CellsAt wx b7 0 [.int .i64 best, .slice Ap p.length cp, .slice Aq q.length cq] ∧ Hid ((Row 1 encZ wx Ap p ∧ Row 1 encZ wx Aq q) ∧ Right g cn rn F' T' best p q ∧ p.length ≤ 50000 ∧ q.length ≤ 50000))
    case first =>
      clear HEN HR HF
      obtain ⟨g0, g1, g2, g3, g4, g5⟩ := kg.six
      go_region_held3 (fun w' => (∀ j : Nat, w'.cell? ⟨w.heap.size, j, none⟩ = wf.cell? ⟨w.heap.size, j, none⟩) ∧ Ext wf w') ((refine keepB1 ?_ zg; (repeat (first | with_reducible exact Ext.rfl' _ | with_reducible assumption | with_reducible refine Ext.al ?_ _ | with_reducible refine Ext.dr ?_ | with_reducible refine Ext.st ?_ (by first | (simp; done) | (have h9 := Below.size hb2; have h8 := Below.size hb3; have h7 := Below.size hb4; simp at h9 h8 h7 ⊢; omega)) _ | with_reducible refine Ext.tr ?_ (by assumption))))) (first | (go_at_call 47; (with_reducible refine Calls.mono (HC1.out _ (by (repeat (first | with_reducible exact Ext.rfl' _ | with_reducible assumption | with_reducible refine Ext.al ?_ _ | with_reducible refine Ext.dr ?_ | with_reducible refine Ext.st ?_ (by simp) _ | with_reducible refine Ext.tr ?_ (by assumption))))) ?_); rintro e w2 ⟨⟨A2, c2, rfl, hN2⟩, hb2⟩; have hc2 := hb2.ccell; have hf2 := hb2.frz; have hs2 := hb2.sz; (try have t2 := hs2 wf.heap.size (by first | assumption | (simp; done) | (simp; omega)))) | (go_at_call 47; (with_reducible refine Calls.mono (HC2.out _ (by (repeat (first | with_reducible exact Ext.rfl' _ | with_reducible assumption | with_reducible refine Ext.al ?_ _ | with_reducible refine Ext.dr ?_ | with_reducible refine Ext.st ?_ (by simp) _ | with_reducible refine Ext.tr ?_ (by assumption))))) ?_); rintro e w3 ⟨⟨A3, c3, rfl, hN3⟩, hb3⟩; have hc3 := hb3.ccell; have hf3 := hb3.frz; have hs3 := hb3.sz; (try have t3 := hs3 wf.heap.size (by first | assumption | (simp; done) | (simp; omega))); (try have t3' := hs3 w2.heap.size (by first | assumption | (simp; done) | (simp; omega)))) | (go_at_call 56; (with_reducible refine Calls.mono (HCL.out _ (by (repeat (first | with_reducible exact Ext.rfl' _ | with_reducible assumption | with_reducible refine Ext.al ?_ _ | with_reducible refine Ext.dr ?_ | with_reducible refine Ext.st ?_ (by simp) _ | with_reducible refine Ext.tr ?_ (by assumption)))) _ _ _ _ (hN2.row.ext (by (repeat (first | with_reducible exact Ext.rfl' _ | with_reducible assumption | with_reducible refine Ext.al ?_ _ | with_reducible refine Ext.dr ?_ | with_reducible refine Ext.st ?_ (by simp) _ | with_reducible refine Ext.tr ?_ (by assumption))))) (hN3.row.ext (by (repeat (first | with_reducible exact Ext.rfl' _ | with_reducible assumption | with_reducible refine Ext.al ?_ _ | with_reducible refine Ext.dr ?_ | with_reducible refine Ext.st ?_ (by simp) _ | with_reducible refine Ext.tr ?_ (by assumption)))))) ?_); rintro e w4 ⟨⟨p, q, Ap, Aq, cp, cq, rfl, hpl, hql, hNp, hNq, hri⟩, hb4⟩; have HNP := Lib.hid hNp; have HNQ := Lib.hid hNq; have HRI := Lib.hid (And.intro hri (And.intro hpl hql)); clear hpl hql hNp hNq hri; have hc4 := hb4.ccell; have hf4 := hb4.frz; have hs4 := hb4.sz; (try have t4 := hs4 wf.heap.size (by first | assumption | (simp; done) | (simp; omega))); (try have t4' := hs4 w2.heap.size (by first | assumption | (simp; done) | (simp; omega))); (try have t4'' := hs4 w3.heap.size (by first | assumption | (simp; done) | (simp; omega)))))
      all_goals
        rename_i hJ hK h1 h2 hH
        clear hH
        refine h2 _ _ (Met.intro (h1 _ _ ?_))
        (repeat apply Exists.intro)
        refine ⟨?_, rfl⟩
        refine ⟨_, p, q, Ap, Aq, cp, cq, rfl, rfl, ?_, ?_, ?_, ?_⟩
        · (repeat (first | with_reducible exact Ext.rfl' _ | with_reducible assumption | with_reducible refine Ext.al ?_ _ | with_reducible refine Ext.dr ?_ | with_reducible refine Ext.st ?_ (by first | (simp; done) | (have h9 := Below.size hb2; have h8 := Below.size hb3; have h7 := Below.size hb4; simp at h9 h8 h7 ⊢; omega)) _ | with_reducible refine Ext.tr ?_ (by assumption)))
        · first
            | (simp; done)
            | (have h9 := Below.size hb2; have h8 := Below.size hb3; have h7 := Below.size hb4; (try simp at h9); (try simp at h8); (try simp at h7); (try simp); omega)
        · first
            | (refine cells_three ⟨?_, ?_, ?_⟩ <;> (simp [go_sem]; done))
            | (refine cells_three ⟨?_, ?_, ?_⟩ <;> (simp [*, go_sem]; done))
        · first
            | exact Lib.hid ⟨⟨(HNP.out.ext (Ext.al (Ext.rfl' _) _)).row, (HNQ.out.ext (Ext.al (Ext.rfl' _) _)).row⟩, HRI.out⟩
            | exact Lib.hid ⟨⟨(((HNP.out.st (by first | assumption | (simp; done) | (simp; omega)) _).st (by first | assumption | (simp; done) | (simp; omega)) _).st (by first | assumption | (simp; done) | (simp; omega)) _).row, (((HNQ.out.st (by first | assumption | (simp; done) | (simp; omega)) _).st (by first | assumption | (simp; done) | (simp; omega)) _).st (by first | assumption | (simp; done) | (simp; omega)) _).row⟩, HRI.out⟩
    case rest =>
      obtain ⟨b7, p, q, Ap, Aq, cp, cq, rfl, rfl, hx, hz7, k7, HQ⟩ := hcut
      have hEc := hEW.tr hx
      obtain ⟨g0, g1, g2, g3, g4, g5⟩ := (kg.ext hx zg).six
      obtain ⟨r0, r1, r2⟩ := k7.three
      have zgc := hx.sz _ zg
      clear kg zg k7 hx hEW HC1 HC2 HCL
      have HB1 := Lib.hid (HBK.out (HRL.out p q HQ.out.2.1))
      have HP1 := Lib.hid (HPR.out p q Ap Aq cp cq HQ.out.2.2.1 HQ.out.2.2.2 HQ.out.2.1)
      have HC1 := Lib.hid (HCC.out p q Ap Aq cp cq HQ.out.2.2.1 HQ.out.2.2.2 HQ.out.2.1)
      clear HBK HPR HCC HRL
      go_wp2_with (first | (go_at_call 20; with_reducible refine Calls.mono (HR.out _ (by (repeat (first | with_reducible exact Ext.rfl' _ | with_reducible assumption | with_reducible refine Ext.al ?_ _ | with_reducible refine Ext.dr ?_ | with_reducible refine Ext.st ?_ (by simp) _ | with_reducible refine Ext.tr ?_ (by assumption))))) ?_; rintro e wr ⟨rfl, hb⟩; have hc := hb.ccell; have hf := hb.frz; have hs := hb.sz; (try simp at hs); (try have t0 := hs (w.heap.size) (by first | assumption | omega)); (try have t1 := hs (b7) (by first | assumption | omega)); (try have t2 := hs (w.heap.size) (by first | assumption | omega)); (try have t3 := hs (b7) (by first | assumption | omega)); (try have t4 := hs (w.heap.size) (by first | assumption | omega)); (try have t5 := hs (b7) (by first | assumption | omega))) | (go_at_call 57; with_reducible refine Calls.mono (HEN.out _ (by (repeat (first | with_reducible exact Ext.rfl' _ | with_reducible assumption | with_reducible refine Ext.al ?_ _ | with_reducible refine Ext.dr ?_ | with_reducible refine Ext.st ?_ (by simp) _ | with_reducible refine Ext.tr ?_ (by assumption))))) ?_; rintro e we ⟨rfl, hb⟩; have hc := hb.ccell; have hf := hb.frz; have hs := hb.sz; (try simp at hs); (try have t0 := hs (w.heap.size) (by first | assumption | omega)); (try have t1 := hs (b7) (by first | assumption | omega)); (try have t2 := hs (w.heap.size) (by first | assumption | omega)); (try have t3 := hs (b7) (by first | assumption | omega)); (try have t4 := hs (w.heap.size) (by first | assumption | omega)); (try have t5 := hs (b7) (by first | assumption | omega))) | (go_at_call 58; with_reducible refine Calls.mono (HL1.out _ _ _ _ (by (repeat (first | with_reducible exact Ext.rfl' _ | with_reducible assumption | with_reducible refine Ext.al ?_ _ | with_reducible refine Ext.dr ?_ | with_reducible refine Ext.st ?_ (by simp) _ | with_reducible refine Ext.tr ?_ (by assumption))))) ?_; rintro e wl ⟨rfl, hb⟩; have hc := hb.ccell; have hf := hb.frz; have hs := hb.sz; (try simp at hs); (try have t0 := hs (w.heap.size) (by first | assumption | omega)); (try have t1 := hs (b7) (by first | assumption | omega)); (try have t2 := hs (we.heap.size) (by first | assumption | omega)); (try have t3 := hs (wk.heap.size) (by first | assumption | omega)); (try have t4 := hs (w.heap.size) (by first | assumption | omega)); (try have t5 := hs (b7) (by first | assumption | omega))) | (go_at_call 56; (with_reducible refine Calls.mono (HB1.out _ (by (repeat (first | with_reducible exact Ext.rfl' _ | with_reducible assumption | with_reducible refine Ext.al ?_ _ | with_reducible refine Ext.dr ?_ | with_reducible refine Ext.st ?_ (by simp) _ | with_reducible refine Ext.tr ?_ (by assumption))))) ?_); rintro e wk ⟨⟨pk, qk, Apk, Aqk, cpk, cqk, rfl⟩, hb⟩; have hc := hb.ccell; have hf := hb.frz; have hs := hb.sz; (try simp at hs); (try have t0 := hs (w.heap.size) (by first | assumption | omega)); (try have t1 := hs (b7) (by first | assumption | omega)); (try have t2 := hs (we.heap.size) (by first | assumption | omega)); (try have t3 := hs (wk.heap.size) (by first | assumption | omega)); (try have t4 := hs (w.heap.size) (by first | assumption | omega)); (try have t5 := hs (b7) (by first | assumption | omega))) | (go_at_call 59; with_reducible refine Calls.mono (HP1.out _ (by (repeat (first | with_reducible exact Ext.rfl' _ | with_reducible assumption | with_reducible refine Ext.al ?_ _ | with_reducible refine Ext.dr ?_ | with_reducible refine Ext.st ?_ (by simp) _ | with_reducible refine Ext.tr ?_ (by assumption)))) (HQ.out.1.1.ext (by (repeat (first | with_reducible exact Ext.rfl' _ | with_reducible assumption | with_reducible refine Ext.al ?_ _ | with_reducible refine Ext.dr ?_ | with_reducible refine Ext.st ?_ (by simp) _ | with_reducible refine Ext.tr ?_ (by assumption))))) (HQ.out.1.2.ext (by (repeat (first | with_reducible exact Ext.rfl' _ | with_reducible assumption | with_reducible refine Ext.al ?_ _ | with_reducible refine Ext.dr ?_ | with_reducible refine Ext.st ?_ (by simp) _ | with_reducible refine Ext.tr ?_ (by assumption)))))) ?_; rintro e wp ⟨rfl, hb⟩; have hc := hb.ccell; have hf := hb.frz; have hs := hb.sz; (try simp at hs); (try have t0 := hs (w.heap.size) (by first | assumption | omega)); (try have t1 := hs (b7) (by first | assumption | omega)); (try have t2 := hs (we.heap.size) (by first | assumption | omega)); (try have t3 := hs (wk.heap.size) (by first | assumption | omega)); (try have t4 := hs (w.heap.size) (by first | assumption | omega)); (try have t5 := hs (b7) (by first | assumption | omega))) | (go_at_call 60; with_reducible refine Calls.mono (HC1.out _ (by (repeat (first | with_reducible exact Ext.rfl' _ | with_reducible assumption | with_reducible refine Ext.al ?_ _ | with_reducible refine Ext.dr ?_ | with_reducible refine Ext.st ?_ (by simp) _ | with_reducible refine Ext.tr ?_ (by assumption)))) (HQ.out.1.1.ext (by (repeat (first | with_reducible exact Ext.rfl' _ | with_reducible assumption | with_reducible refine Ext.al ?_ _ | with_reducible refine Ext.dr ?_ | with_reducible refine Ext.st ?_ (by simp) _ | with_reducible refine Ext.tr ?_ (by assumption))))) (HQ.out.1.2.ext (by (repeat (first | with_reducible exact Ext.rfl' _ | with_reducible assumption | with_reducible refine Ext.al ?_ _ | with_reducible refine Ext.dr ?_ | with_reducible refine Ext.st ?_ (by simp) _ | with_reducible refine Ext.tr ?_ (by assumption)))))) ?_; rintro e wq ⟨rfl, hb⟩; have hc := hb.ccell; have hf := hb.frz; have hs := hb.sz; (try simp at hs); (try have t0 := hs (w.heap.size) (by first | assumption | omega)); (try have t1 := hs (b7) (by first | assumption | omega)); (try have t2 := hs (we.heap.size) (by first | assumption | omega)); (try have t3 := hs (wk.heap.size) (by first | assumption | omega)); (try have t4 := hs (w.heap.size) (by first | assumption | omega)); (try have t5 := hs (b7) (by first | assumption | omega))))
      go_ret
      exact ⟨rfl, by (repeat (first | with_reducible exact Ext.rfl' _ | with_reducible assumption | with_reducible refine Ext.al ?_ _ | with_reducible refine Ext.dr ?_ | with_reducible refine Ext.st ?_ (by simp) _ | with_reducible refine Ext.tr ?_ (by assumption)))⟩
end Go.Proofs.Ytgnakeemcccfjaa

/- Contracts: checks of lists of points, of patches. -/
import Derived.Test.YtcdbekmcobghbaaHull2
import Derived.Test.YtcdbekmcobghbaaTri2
namespace Go.Proofs.Ytcdbekmcobghbaa
open Go Go.RowKit Go.Sort Go.Shelf

theorem cloneNil_c (w : World) (A : Option Addr) (c : Nat) :
    Calls Try.prog 119 #[.slice A 0 c] w
      fun e w' => ∃ A' c', e = .returned (.slice A' 0 c') ∧ Ext w w' := by
  cases A with
  | none =>
    refine Calls.mono (show Calls Try.prog 119 _ w _ from AnyE.slices_Clone_nil Try.cloneP 0 c w) ?_
    rintro e w' ⟨he, rfl⟩
    exact ⟨none, 0, he, Ext.rfl' _⟩
  | some a =>
    have hq := fun (w : World) (a : Option Addr) (n c n' c' : Nat) => Lib.run_eql_slice_nil (P := Try.prog) w _ _ a n c n' c' Try.underlying37
    go_enter Try.func119, Try.ntmps119
    go_wp2
    go_ret
    exact ⟨_, _, rfl, by (repeat (first | with_reducible exact Ext.rfl' _ | with_reducible assumption | with_reducible refine Ext.al ?_ _ | with_reducible refine Ext.dr ?_ | with_reducible refine Ext.st ?_ (by simp) _ | with_reducible refine Ext.tr ?_ (by assumption)))⟩

theorem check_c (l : List Pt) (w : World) (A : Option Addr) (c : Nat) (hl : l.length ≤ maxLen) (hA : Row 2 encP w A l) :
    Calls Try.prog 52 #[.slice A l.length c] w
      fun e w' => e = .returned (.int .i64 (if 64 < l.length then 8 else if allGood l then 0 else 2)) ∧ Ext w w' := by
  by_cases h : 64 < l.length
  · have h' : (64 : Int) < (l.length : Int) := by omega
    rw [if_pos h]
    go_enter Try.func52, Try.ntmps52
    go_wp2
    go_ret
    exact ⟨rfl, Ext.rfl' _⟩
  · have h' : (l.length : Int) ≤ 64 := by omega
    rw [if_neg h]
    have HL := Lib.hid hl
    clear hl
    cases h2 : allGood l
    all_goals
      go_enter Try.func52, Try.ntmps52
      go_wp2_with (first | (go_at_call 73; refine Calls.mono (inRange_c l _ _ _ HL.out hA) ?_; rintro e w1 ⟨rfl, hb⟩; have hc := hb.ccell; have hf := hb.frz; have hs := hb.sz; (try simp at hs); (try have hs0 := hs w.heap.size (by omega)); (try have hs1 := hs (w.heap.size + 1) (by omega)); (try have hs2 := hs (w.heap.size + 1 + 1) (by omega)); (try have hs3 := hs (w.heap.size + 1 + 1 + 1) (by omega))))
      go_ret
      exact ⟨rfl, by (repeat (first | with_reducible exact Ext.rfl' _ | with_reducible assumption | with_reducible refine Ext.al ?_ _ | with_reducible refine Ext.dr ?_ | with_reducible refine Ext.st ?_ (by simp) _ | with_reducible refine Ext.tr ?_ (by assumption)))⟩

theorem nodup_no (l : List Pt) (k : Nat) (hk : k < l.length) (h : l[k] ∈ l.take k) : ¬ l.Nodup := by
  intro hn
  rw [List.nodup_iff_pairwise_ne, List.pairwise_iff_getElem] at hn
  obtain ⟨i, hi, e⟩ := List.getElem_of_mem h
  rw [List.length_take] at hi
  rw [List.getElem_take] at e
  exact hn i k (by omega) hk (by omega) e
theorem nodup_yes (l : List Pt) (h : ∀ j (h : j < l.length), l[j] ∉ l.take j) : l.Nodup := by
  rw [List.nodup_iff_pairwise_ne, List.pairwise_iff_getElem]
  intro i j hi hj hij e
  refine h j hj ?_
  rw [← e]
  have : (l.take j)[i]'(by rw [List.length_take]; omega) = l[i] := List.getElem_take
  rw [← this]
  exact List.getElem_mem _

theorem hasEqual_c (l : List Pt) (w : World) (A : Option Addr) (c : Nat) (hl : l.length ≤ 1000) (hc : l.length ≤ c) (hA : Row 2 encP w A l) :
    Calls Try.prog 125 #[.slice A l.length c] w
      fun e w' => e = .returned (.bool (!decide l.Nodup)) ∧ Ext w w' := by
  go_enter Try.func125, Try.ntmps125
  go_wp2
  go_loopw [3, 6] (fun _ i wr => Ext w wr ∧ ∃ k : Nat, k ≤ l.length ∧ i = .int .i64 k ∧ Hid (∀ j (h : j < l.length), j < k → l[j] ∉ l.take j)) (fun _ i _ => l.length - (intOf i).toNat)
  case atStart => exact ⟨Ext.rfl' _, 0, Nat.zero_le _, rfl, fun j _ h => absurd h (by omega)⟩
  case round =>
    obtain ⟨hE, k, hk, rfl, hK⟩ := hrel
    by_cases hlt : k < l.length
    · obtain ⟨b, off, rfl, hb0, hcell⟩ := hA.p2 hlt
      have cc := hcell _ hE
      have hz := hE.sz _ hb0
      have hA' := hA.ext hE
      have k1 : (k : Int) ≤ (c : Int) := by omega
      have k2 : k ≤ c := by omega
      clear hcell
      cases hin : decide ((⟨l[k].x, l[k].y⟩ : Pt) ∈ l.take k)
      all_goals
        have HIN := Lib.hid hin
        clear hin
        go_wp2_with fail
        refine region_grow (by kernel_rfl) (by kernel_rfl) ?_
        repeat (first | go_big_quiet_step (first | (go_at_call 133; exact callsGrow ((HIN.out ▸ contains_c _ b off c k l _ _ (small_len hl) (hA'.ext (Grow.ok _)) (by omega)))) | fail) | quiet_step (first | (go_at_call 133; exact callsGrow ((HIN.out ▸ contains_c _ b off c k l _ _ (small_len hl) (hA'.ext (Grow.ok _)) (by omega)))) | fail))
        refine wpQuiet_nil ?_
        intro w1 hb
        have hc := hb.ccell
        have hf := hb.frz
        have hs := hb.sz
        (try simp at hs); (try have hs0 := hs w.heap.size (by omega)); (try have hs1 := hs (w.heap.size + 1) (by omega)); (try have hs2 := hs (w.heap.size + 1 + 1) (by omega)); (try have hs3 := hs (w.heap.size + 1 + 1 + 1) (by omega))
        (try simp only [IntWalk.i64_left])
        go_wp2
      · refine ⟨⟨by (repeat (first | with_reducible exact Ext.rfl' _ | with_reducible assumption | with_reducible refine Ext.al ?_ _ | with_reducible refine Ext.dr ?_ | with_reducible refine Ext.st ?_ (by simp) _ | with_reducible refine Ext.tr ?_ (by assumption))), k + 1, by omega, by go_num, ?_⟩, by simp [intOf]; omega⟩
        intro j hj hjk
        have hin := HIN.out
        by_cases e : j = k
        · subst e
          have : (⟨l[j].x, l[j].y⟩ : Pt) = l[j] := rfl
          rw [this] at hin
          simpa using hin
        · exact hK.out j hj (by omega)
      · go_ret
        have hin := HIN.out
        have : (⟨l[k].x, l[k].y⟩ : Pt) = l[k] := rfl
        rw [this] at hin
        exact ⟨ret_bool (by simp [nodup_no l k hlt (by simpa using hin)]), by (repeat (first | with_reducible exact Ext.rfl' _ | with_reducible assumption | with_reducible refine Ext.al ?_ _ | with_reducible refine Ext.dr ?_ | with_reducible refine Ext.st ?_ (by simp) _ | with_reducible refine Ext.tr ?_ (by assumption)))⟩
    · go_wp2
      go_ret
      have e : l.Nodup := nodup_yes l fun j hj => hK.out j hj (by omega)
      exact ⟨ret_bool (by simp [e]), hE⟩

theorem hullNil_c (w : World) (A : Option Addr) (c : Nat) :
    Calls Try.prog 96 #[.slice A 0 c] w
      fun e w' => ∃ v, e = .returned v ∧ RowV w' v [] ∧ Ext w w' := by
  go_enter Try.func96, Try.ntmps96
  go_wp2_with fail
  refine Calls.mono (cloneNil_c w A c) ?_
  rintro e w1 ⟨A', c', rfl, hE⟩
  go_wp2_with fail
  refine Calls.mono (show Calls Try.prog 120 _ w1 _ from AnyF.slices_SortFunc_none { Try.sortP with } A' c' _ w1) ?_
  rintro e w2 ⟨rfl, rfl⟩
  go_wp2_with fail
  refine Calls.mono (compact_c [] w2 A' c' (by simp) (.inl rfl) (by intro k h; simp at h)) ?_
  rintro e w3 ⟨rfl, hE3⟩
  go_wp2
  go_ret
  exact ⟨_, rfl, ⟨A', c', rfl, .inl rfl⟩, by (repeat (first | with_reducible exact Ext.rfl' _ | with_reducible assumption | with_reducible refine Ext.al ?_ _ | with_reducible refine Ext.dr ?_ | with_reducible refine Ext.st ?_ (by simp) _ | with_reducible refine Ext.tr ?_ (by assumption)))⟩

theorem hullAny_c (l : List Pt) (w : World) (A : Option Addr) (c : Nat) (hl : l.length ≤ 64) (hA : Row 2 encP w A l) (hd : l.Nodup) :
    Calls Try.prog 96 #[.slice A l.length c] w
      fun e w' => ∃ v, e = .returned v ∧ RowV w' v (hullS (sortL l)) ∧ Ext w w' := by
  rcases Nat.eq_zero_or_pos l.length with h | h
  · have : l = [] := List.eq_nil_of_length_eq_zero h
    subst this
    have e : hullS (sortL []) = [] := by simp [sortL, hullS]
    rw [e]
    exact hullNil_c w A c
  · obtain ⟨b, off, rfl, _, _⟩ := hA.addr h
    exact hull_c l w b off c hl h hA hd

/-- The error of a patch. -/
def patchE (l : List Pt) : Int := if 64 < l.length then 8 else if !allGood l then 2 else if !decide l.Nodup then 5 else if !closeB l then 8 else if (hullS (sortL l)).length < 3 then 10 else 0

theorem checkPatch_c (l : List Pt) (w : World) (A : Option Addr) (c : Nat) (hl : l.length ≤ maxLen) (hc : l.length ≤ c) (hA : Row 2 encP w A l) :
    Calls Try.prog 98 #[.slice A l.length c] w
      fun e w' => e = .returned (.int .i64 (patchE l)) ∧ Ext w w' := by
  unfold patchE
  have HL := Lib.hid hl
  clear hl
  have HCK := Lib.hid (check_c l w A c HL.out hA)
  by_cases h1 : 64 < l.length
  · rw [if_pos h1] at HCK ⊢
    go_enter Try.func98, Try.ntmps98
    go_wp2_with (first | (go_at_call 52; refine Calls.mono (HCK.out) ?_; rintro e w1 ⟨rfl, hb⟩; have hc := hb.ccell; have hf := hb.frz; have hs := hb.sz; (try simp at hs); (try have hs0 := hs w.heap.size (by omega)); (try have hs1 := hs (w.heap.size + 1) (by omega)); (try have hs2 := hs (w.heap.size + 1 + 1) (by omega)); (try have hs3 := hs (w.heap.size + 1 + 1 + 1) (by omega))))
    go_ret
    exact ⟨rfl, by (repeat (first | with_reducible exact Ext.rfl' _ | with_reducible assumption | with_reducible refine Ext.al ?_ _ | with_reducible refine Ext.dr ?_ | with_reducible refine Ext.st ?_ (by simp) _ | with_reducible refine Ext.tr ?_ (by assumption)))⟩
  rw [if_neg h1] at HCK ⊢
  cases h2 : allGood l
  · rw [h2] at HCK
    clear h2
    go_enter Try.func98, Try.ntmps98
    go_wp2_with (first | (go_at_call 52; refine Calls.mono (HCK.out) ?_; rintro e w1 ⟨rfl, hb⟩; have hc := hb.ccell; have hf := hb.frz; have hs := hb.sz; (try simp at hs); (try have hs0 := hs w.heap.size (by omega)); (try have hs1 := hs (w.heap.size + 1) (by omega)); (try have hs2 := hs (w.heap.size + 1 + 1) (by omega)); (try have hs3 := hs (w.heap.size + 1 + 1 + 1) (by omega))))
    go_ret
    exact ⟨rfl, by (repeat (first | with_reducible exact Ext.rfl' _ | with_reducible assumption | with_reducible refine Ext.al ?_ _ | with_reducible refine Ext.dr ?_ | with_reducible refine Ext.st ?_ (by simp) _ | with_reducible refine Ext.tr ?_ (by assumption)))⟩
  rw [h2] at HCK
  clear h2
  have HC := Lib.hid hc
  clear hc
  cases h3 : decide l.Nodup
  · have H3 := Lib.hid h3
    clear h3
    go_enter Try.func98, Try.ntmps98
    go_wp2_with (first | (go_at_call 52; refine Calls.mono (HCK.out) ?_; rintro e w1 ⟨rfl, hb⟩; have hc := hb.ccell; have hf := hb.frz; have hs := hb.sz; (try simp at hs); (try have hs0 := hs w.heap.size (by omega)); (try have hs1 := hs (w.heap.size + 1) (by omega)); (try have hs2 := hs (w.heap.size + 1 + 1) (by omega)); (try have hs3 := hs (w.heap.size + 1 + 1 + 1) (by omega))) | (go_at_call 125; refine Calls.mono ((H3.out ▸ hasEqual_c l _ _ _ (by omega) HC.out (hA.ext (by assumption)))) ?_; rintro e w1 ⟨rfl, hb⟩; have hc := hb.ccell; have hf := hb.frz; have hs := hb.sz; (try simp at hs); (try have hs0 := hs w.heap.size (by omega)); (try have hs1 := hs (w.heap.size + 1) (by omega)); (try have hs2 := hs (w.heap.size + 1 + 1) (by omega)); (try have hs3 := hs (w.heap.size + 1 + 1 + 1) (by omega))))
    go_ret
    exact ⟨rfl, by (repeat (first | with_reducible exact Ext.rfl' _ | with_reducible assumption | with_reducible refine Ext.al ?_ _ | with_reducible refine Ext.dr ?_ | with_reducible refine Ext.st ?_ (by simp) _ | with_reducible refine Ext.tr ?_ (by assumption)))⟩
  have H3 := Lib.hid h3
  have HHU := Lib.hid (fun w' (hw : Ext w w') => hullAny_c l w' A c (by omega) (hA.ext hw) (of_decide_eq_true h3))
  clear h3
  have h1' := Lib.hid (show l.length ≤ 1000 by omega)
  cases h4 : closeB l
  · have H4 := Lib.hid h4
    clear h4
    go_enter Try.func98, Try.ntmps98
    go_wp2_with (first | (go_at_call 52; refine Calls.mono (HCK.out) ?_; rintro e w1 ⟨rfl, hb⟩; have hc := hb.ccell; have hf := hb.frz; have hs := hb.sz; (try simp at hs); (try have hs0 := hs w.heap.size (by omega)); (try have hs1 := hs (w.heap.size + 1) (by omega)); (try have hs2 := hs (w.heap.size + 1 + 1) (by omega)); (try have hs3 := hs (w.heap.size + 1 + 1 + 1) (by omega))) | (go_at_call 125; refine Calls.mono ((H3.out ▸ hasEqual_c l _ _ _ h1'.out HC.out (hA.ext (by assumption)))) ?_; rintro e w1 ⟨rfl, hb⟩; have hc := hb.ccell; have hf := hb.frz; have hs := hb.sz; (try simp at hs); (try have hs0 := hs w.heap.size (by omega)); (try have hs1 := hs (w.heap.size + 1) (by omega)); (try have hs2 := hs (w.heap.size + 1 + 1) (by omega)); (try have hs3 := hs (w.heap.size + 1 + 1 + 1) (by omega))) | (go_at_call 87; refine Calls.mono ((H4.out ▸ isClose_c l _ _ _ HL.out (hA.ext (by (repeat (first | with_reducible exact Ext.rfl' _ | with_reducible assumption | with_reducible refine Ext.al ?_ _ | with_reducible refine Ext.dr ?_ | with_reducible refine Ext.st ?_ (by simp) _ | with_reducible refine Ext.tr ?_ (by assumption))))))) ?_; rintro e w1 ⟨rfl, hb⟩; have hc := hb.ccell; have hf := hb.frz; have hs := hb.sz; (try simp at hs); (try have hs0 := hs w.heap.size (by omega)); (try have hs1 := hs (w.heap.size + 1) (by omega)); (try have hs2 := hs (w.heap.size + 1 + 1) (by omega)); (try have hs3 := hs (w.heap.size + 1 + 1 + 1) (by omega))))
    go_ret
    exact ⟨rfl, by (repeat (first | with_reducible exact Ext.rfl' _ | with_reducible assumption | with_reducible refine Ext.al ?_ _ | with_reducible refine Ext.dr ?_ | with_reducible refine Ext.st ?_ (by simp) _ | with_reducible refine Ext.tr ?_ (by assumption)))⟩
  · have H4 := Lib.hid h4
    clear h4
    by_cases h5 : (hullS (sortL l)).length < 3
    all_goals
      go_enter Try.func98, Try.ntmps98
      go_wp2_with (first | (go_at_call 52; refine Calls.mono (HCK.out) ?_; rintro e w1 ⟨rfl, hb⟩; have hc := hb.ccell; have hf := hb.frz; have hs := hb.sz; (try simp at hs); (try have hs0 := hs w.heap.size (by omega)); (try have hs1 := hs (w.heap.size + 1) (by omega)); (try have hs2 := hs (w.heap.size + 1 + 1) (by omega)); (try have hs3 := hs (w.heap.size + 1 + 1 + 1) (by omega))) | (go_at_call 125; refine Calls.mono ((H3.out ▸ hasEqual_c l _ _ _ h1'.out HC.out (hA.ext (by assumption)))) ?_; rintro e w1 ⟨rfl, hb⟩; have hc := hb.ccell; have hf := hb.frz; have hs := hb.sz; (try simp at hs); (try have hs0 := hs w.heap.size (by omega)); (try have hs1 := hs (w.heap.size + 1) (by omega)); (try have hs2 := hs (w.heap.size + 1 + 1) (by omega)); (try have hs3 := hs (w.heap.size + 1 + 1 + 1) (by omega))) | (go_at_call 87; refine Calls.mono ((H4.out ▸ isClose_c l _ _ _ HL.out (hA.ext (by (repeat (first | with_reducible exact Ext.rfl' _ | with_reducible assumption | with_reducible refine Ext.al ?_ _ | with_reducible refine Ext.dr ?_ | with_reducible refine Ext.st ?_ (by simp) _ | with_reducible refine Ext.tr ?_ (by assumption))))))) ?_; rintro e w1 ⟨rfl, hb⟩; have hc := hb.ccell; have hf := hb.frz; have hs := hb.sz; (try simp at hs); (try have hs0 := hs w.heap.size (by omega)); (try have hs1 := hs (w.heap.size + 1) (by omega)); (try have hs2 := hs (w.heap.size + 1 + 1) (by omega)); (try have hs3 := hs (w.heap.size + 1 + 1 + 1) (by omega))) | (go_at_call 96; refine Calls.mono (HHU.out _ (by (repeat (first | with_reducible exact Ext.rfl' _ | with_reducible assumption | with_reducible refine Ext.al ?_ _ | with_reducible refine Ext.dr ?_ | with_reducible refine Ext.st ?_ (by simp) _ | with_reducible refine Ext.tr ?_ (by assumption))))) ?_; rintro e w1 ⟨v, rfl, ⟨A', c', rfl, hrow⟩, hb⟩))
    · go_ret
      exact ⟨by simp, by (repeat (first | with_reducible exact Ext.rfl' _ | with_reducible assumption | with_reducible refine Ext.al ?_ _ | with_reducible refine Ext.dr ?_ | with_reducible refine Ext.st ?_ (by simp) _ | with_reducible refine Ext.tr ?_ (by assumption)))⟩
    · go_ret
      exact ⟨by simp, by (repeat (first | with_reducible exact Ext.rfl' _ | with_reducible assumption | with_reducible refine Ext.al ?_ _ | with_reducible refine Ext.dr ?_ | with_reducible refine Ext.st ?_ (by simp) _ | with_reducible refine Ext.tr ?_ (by assumption)))⟩

end Go.Proofs.Ytcdbekmcobghbaa

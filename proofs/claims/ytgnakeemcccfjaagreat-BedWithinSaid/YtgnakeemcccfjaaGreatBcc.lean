/- The contract of CheckClear. -/
import Derived.Test.YtgnakeemcccfjaaGreatBproof
namespace Go.Proofs.YtgnakeemcccfjaaGreat
open Go Go.RowKit Go.IntWalk

/-- A route is right, with its proof. -/
def Right (g : Gr) (cn rn : Nat) (F T : List Nat) (lev : Int) (P Q : List Int) : Prop :=
  isWayB g cn rn (zl F) (zl T) P = true ∧ hiL g.L (P.map Int.toNat) P.length = lev ∧ BarP g cn rn F T lev Q
theorem isWayB_cells {g : Gr} {cn rn : Nat} {F T P : List Int} (h : isWayB g cn rn F T P = true) : P = zl (P.map Int.toNat) ∧ ∀ x ∈ P.map Int.toNat, x < g.L.length := by
  refine zl_of g.L.length ?_
  unfold isWayB at h
  simp only [Bool.and_eq_true] at h
  have h1 : anyN (fun k => !(stepB g cn rn P k)) P.length = false := by simpa using h.2.2.2
  have h2 := (anyN_no _ _).1 h1
  have h3 : anyN (noCell g.L.length P) P.length = false := by
    rw [anyN_no]
    intro i hi
    have h4 : stepB g cn rn P i = true := by simpa using h2 i hi
    unfold stepB at h4
    rw [Bool.and_eq_true] at h4
    unfold noCell
    rw [h4.1]; rfl
  unfold cellsE
  rw [h3]; rfl
set_option maxHeartbeats 4000000 in
theorem checkClear_err_c (g : Gr) (F T P Q : List Int) (lev : Int) (w : World) (A B D Ap Aq : Option Addr) (c cB cD cP cQ : Nat) (hl : g.L.length ≤ 2000) (hFl : F.length ≤ 100000) (hTl : T.length ≤ 100000) (hA : Row 1 encZ w A g.L) (hB : Row 1 encZ w B F) (hD : Row 1 encZ w D T) (h0 : endsE g F T ≠ 0) :
    Calls Tryz.prog 27 #[.agg #[.int .i64 g.X, .int .i64 g.Y, .int .i64 g.S, .int .i64 g.C, .int .i64 g.R, .slice A g.L.length c], .agg #[.slice B F.length cB, .slice D T.length cD, .int .i64 lev, .slice Ap P.length cP, .slice Aq Q.length cQ]] w fun e w' => e = .returned (.int .i64 (endsE g F T)) ∧ Ext w w' := by
  have HC := Lib.hid (fun w' (hw : Ext w w') => checkEnds_c g F T w' A B D c cB cD hl hFl hTl (hA.ext hw) (hB.ext hw) (hD.ext hw))
  have h0' : (endsE g F T != 0) = true := by rw [bne_iff_ne]; exact h0
  generalize endsE g F T = E at *
  clear h0
  go_enter Tryz.func27, Tryz.ntmps27
  go_wp2_with (first | (go_at_call 61; with_reducible refine Calls.mono (HC.out _ (by (repeat (first | with_reducible exact Ext.rfl' _ | with_reducible assumption | with_reducible refine Ext.al ?_ _ | with_reducible refine Ext.dr ?_ | with_reducible refine Ext.st ?_ (by simp) _ | with_reducible refine Ext.tr ?_ (by assumption))))) ?_; rintro e w1 ⟨rfl, hb⟩; have hc := hb.ccell; have hf := hb.frz; have hs := hb.sz; (try simp at hs); (try have hs0 := hs w.heap.size (by omega)); (try have hs1 := hs (w.heap.size + 1) (by omega)); (try have hs2 := hs (w.heap.size + 1 + 1) (by omega)); (try have hs3 := hs (w.heap.size + 1 + 1 + 1) (by omega))))
  go_ret
  exact ⟨rfl, by (repeat (first | with_reducible exact Ext.rfl' _ | with_reducible assumption | with_reducible refine Ext.al ?_ _ | with_reducible refine Ext.dr ?_ | with_reducible refine Ext.st ?_ (by simp) _ | with_reducible refine Ext.tr ?_ (by assumption)))⟩
def OutRight (P : Prop) (e : Ending) : Prop := (e = .returned (.int .i64 0) ∧ P) ∨ (e = .returned (.int .i64 21) ∧ ¬ P)
set_option maxHeartbeats 8000000 in
theorem checkClear_c {g : Gr} {cn rn : Nat} {F T : List Nat} (E : EndsOk g cn rn F T) (P Q : List Int) (lev : Int) (w : World) (A B D Ap Aq : Option Addr) (c cB cD cP cQ : Nat)
    (hPl : P.length ≤ 50000) (hQl : Q.length ≤ 50000) (hA : Row 1 encZ w A g.L) (hB : Row 1 encZ w B (zl F)) (hD : Row 1 encZ w D (zl T)) (hP : Row 1 encZ w Ap P) (hQ : Row 1 encZ w Aq Q) (h0 : endsE g (zl F) (zl T) = 0) :
    Calls Tryz.prog 27 #[.agg #[.int .i64 g.X, .int .i64 g.Y, .int .i64 g.S, .int .i64 g.C, .int .i64 g.R, .slice A g.L.length c], .agg #[.slice B F.length cB, .slice D T.length cD, .int .i64 lev, .slice Ap P.length cP, .slice Aq Q.length cQ]] w fun e w' => OutRight (Right g cn rn F T lev P Q) e ∧ Ext w w' := by
  have hn1 := E.n1
  have hlen := E.len
  have HC := Lib.hid (fun w' (hw : Ext w w') => by
    have h := checkEnds_c g (zl F) (zl T) w' A B D c cB cD (by omega) (by rw [zl_len]; have := E.lF; omega) (by rw [zl_len]; have := E.lT; omega) (hA.ext hw) (hB.ext hw) (hD.ext hw)
    rw [h0, zl_len, zl_len] at h
    exact h)
  have HW := Lib.hid (fun w' (hw : Ext w w') => by
    have h := isWay_c g cn rn (zl F) (zl T) P Q lev w' A B D Ap Aq c cB cD cP cQ E.hC E.hR E.c0 E.c1 E.r1 E.n1 E.len (by rw [zl_len]; exact E.lF) (by rw [zl_len]; exact E.lT) hPl (hA.ext hw) (hB.ext hw) (hD.ext hw) (hP.ext hw)
    rw [zl_len, zl_len] at h
    exact h)
  have HB := Lib.hid (fun w' (hw : Ext w w') => isBarrier_c E P Q lev w' A B D Ap Aq c cB cD cP cQ hQl (hA.ext hw) (hB.ext hw) (hD.ext hw) (hQ.ext hw))
  have HH : Hid (isWayB g cn rn (zl F) (zl T) P = true → ∀ w', Ext w w' → Calls Tryz.prog 69 #[.agg #[.int .i64 g.X, .int .i64 g.Y, .int .i64 g.S, .int .i64 g.C, .int .i64 g.R, .slice A g.L.length c], .slice Ap P.length cP] w' fun e w'' => e = .returned (.int .i64 (hiL g.L (P.map Int.toNat) P.length)) ∧ Ext w' w'') := Lib.hid (fun h w' hw => by
    obtain ⟨h1, h2⟩ := isWayB_cells h
    have h3 := highestLevel_c g (P.map Int.toNat) w' A Ap c cP (by omega) (by simp; omega) (hA.ext hw) (by rw [← h1]; exact hP.ext hw) h2
    rw [List.length_map] at h3
    exact h3)
  unfold Right
  generalize hiL g.L (P.map Int.toNat) P.length = H at *
  generalize isWayB g cn rn (zl F) (zl T) P = b1 at *
  clear hn1 hlen hA hB hD hP hQ E h0 hPl hQl
  cases b1
  · clear HH HB
    go_enter Tryz.func27, Tryz.ntmps27
    go_wp2_with (first | (go_at_call 61; with_reducible refine Calls.mono (HC.out _ (by (repeat (first | with_reducible exact Ext.rfl' _ | with_reducible assumption | with_reducible refine Ext.al ?_ _ | with_reducible refine Ext.dr ?_ | with_reducible refine Ext.st ?_ (by simp) _ | with_reducible refine Ext.tr ?_ (by assumption))))) ?_; rintro e w1 ⟨rfl, hb⟩; have hc := hb.ccell; have hf := hb.frz; have hs := hb.sz; (try simp at hs); (try have hs0 := hs w.heap.size (by omega)); (try have hs1 := hs (w.heap.size + 1) (by omega)); (try have hs2 := hs (w.heap.size + 1 + 1) (by omega)); (try have hs3 := hs (w.heap.size + 1 + 1 + 1) (by omega))))
    refine region_grow (by kernel_rfl) (by kernel_rfl) ?_
    repeat (first | go_big_quiet_step (first | (go_at_call 68; with_reducible exact callsGrow (HW.out _ (Ext.tr (by (repeat (first | with_reducible exact Ext.rfl' _ | with_reducible assumption | with_reducible refine Ext.al ?_ _ | with_reducible refine Ext.dr ?_ | with_reducible refine Ext.st ?_ (by simp) _ | with_reducible refine Ext.tr ?_ (by assumption)))) (Grow.ok _)))) | fail) | quiet_step (first | (go_at_call 68; with_reducible exact callsGrow (HW.out _ (Ext.tr (by (repeat (first | with_reducible exact Ext.rfl' _ | with_reducible assumption | with_reducible refine Ext.al ?_ _ | with_reducible refine Ext.dr ?_ | with_reducible refine Ext.st ?_ (by simp) _ | with_reducible refine Ext.tr ?_ (by assumption)))) (Grow.ok _)))) | fail))
    refine wpQuiet_nil ?_
    intro w1 hb
    have hc := hb.ccell
    have hf := hb.frz
    have hs := hb.sz
    (try simp at hs); (try have hs0 := hs w.heap.size (by omega)); (try have hs1 := hs (w.heap.size + 1) (by omega)); (try have hs2 := hs (w.heap.size + 1 + 1) (by omega)); (try have hs3 := hs (w.heap.size + 1 + 1 + 1) (by omega))
    (try simp only [IntWalk.i64_left])
    go_wp2
    go_ret
    exact ⟨.inr ⟨rfl, by simp⟩, by (repeat (first | with_reducible exact Ext.rfl' _ | with_reducible assumption | with_reducible refine Ext.al ?_ _ | with_reducible refine Ext.dr ?_ | with_reducible refine Ext.st ?_ (by simp) _ | with_reducible refine Ext.tr ?_ (by assumption)))⟩
  have HH2 := Lib.hid (fun w' (hw : Ext w w') => HH.out rfl w' hw)
  clear HH
  by_cases hH : H = lev
  case neg =>
    have hne : (H != lev) = true := by rw [bne_iff_ne]; exact hH
    clear HB
    go_enter Tryz.func27, Tryz.ntmps27
    go_wp2_with (first | (go_at_call 61; with_reducible refine Calls.mono (HC.out _ (by (repeat (first | with_reducible exact Ext.rfl' _ | with_reducible assumption | with_reducible refine Ext.al ?_ _ | with_reducible refine Ext.dr ?_ | with_reducible refine Ext.st ?_ (by simp) _ | with_reducible refine Ext.tr ?_ (by assumption))))) ?_; rintro e w1 ⟨rfl, hb⟩; have hc := hb.ccell; have hf := hb.frz; have hs := hb.sz; (try simp at hs); (try have hs0 := hs w.heap.size (by omega)); (try have hs1 := hs (w.heap.size + 1) (by omega)); (try have hs2 := hs (w.heap.size + 1 + 1) (by omega)); (try have hs3 := hs (w.heap.size + 1 + 1 + 1) (by omega))))
    refine region_grow (by kernel_rfl) (by kernel_rfl) ?_
    repeat (first | go_big_quiet_step (first | (go_at_call 68; with_reducible exact callsGrow (HW.out _ (Ext.tr (by (repeat (first | with_reducible exact Ext.rfl' _ | with_reducible assumption | with_reducible refine Ext.al ?_ _ | with_reducible refine Ext.dr ?_ | with_reducible refine Ext.st ?_ (by simp) _ | with_reducible refine Ext.tr ?_ (by assumption)))) (Grow.ok _)))) | (go_at_call 69; with_reducible exact callsGrow (HH2.out _ (Ext.tr (by (repeat (first | with_reducible exact Ext.rfl' _ | with_reducible assumption | with_reducible refine Ext.al ?_ _ | with_reducible refine Ext.dr ?_ | with_reducible refine Ext.st ?_ (by simp) _ | with_reducible refine Ext.tr ?_ (by assumption)))) (Grow.ok _)))) | fail) | quiet_step (first | (go_at_call 68; with_reducible exact callsGrow (HW.out _ (Ext.tr (by (repeat (first | with_reducible exact Ext.rfl' _ | with_reducible assumption | with_reducible refine Ext.al ?_ _ | with_reducible refine Ext.dr ?_ | with_reducible refine Ext.st ?_ (by simp) _ | with_reducible refine Ext.tr ?_ (by assumption)))) (Grow.ok _)))) | (go_at_call 69; with_reducible exact callsGrow (HH2.out _ (Ext.tr (by (repeat (first | with_reducible exact Ext.rfl' _ | with_reducible assumption | with_reducible refine Ext.al ?_ _ | with_reducible refine Ext.dr ?_ | with_reducible refine Ext.st ?_ (by simp) _ | with_reducible refine Ext.tr ?_ (by assumption)))) (Grow.ok _)))) | fail))
    refine wpQuiet_nil ?_
    intro w1 hb
    have hc := hb.ccell
    have hf := hb.frz
    have hs := hb.sz
    (try simp at hs); (try have hs0 := hs w.heap.size (by omega)); (try have hs1 := hs (w.heap.size + 1) (by omega)); (try have hs2 := hs (w.heap.size + 1 + 1) (by omega)); (try have hs3 := hs (w.heap.size + 1 + 1 + 1) (by omega))
    (try simp only [IntWalk.i64_left])
    go_wp2
    go_ret
    exact ⟨.inr ⟨rfl, fun h => hH h.2.1⟩, by (repeat (first | with_reducible exact Ext.rfl' _ | with_reducible assumption | with_reducible refine Ext.al ?_ _ | with_reducible refine Ext.dr ?_ | with_reducible refine Ext.st ?_ (by simp) _ | with_reducible refine Ext.tr ?_ (by assumption)))⟩
  subst hH
  have hne : (H != H) = false := by simp
  by_cases hB : BarP g cn rn F T H Q
  · have HB2 := Lib.hid (fun w' (hw : Ext w w') => (HB.out w' hw).mono fun e w'' (h : BoolOf (BarP g cn rn F T H Q) e ∧ Ext w' w'') => (⟨by obtain ⟨⟨b, h1, h2⟩, _⟩ := h; rw [h1, h2.2 hB], h.2⟩ : e = .returned (.bool true) ∧ Ext w' w''))
    have HBH := Lib.hid hB
    clear hB HB
    go_enter Tryz.func27, Tryz.ntmps27
    go_wp2_with (first | (go_at_call 61; with_reducible refine Calls.mono (HC.out _ (by (repeat (first | with_reducible exact Ext.rfl' _ | with_reducible assumption | with_reducible refine Ext.al ?_ _ | with_reducible refine Ext.dr ?_ | with_reducible refine Ext.st ?_ (by simp) _ | with_reducible refine Ext.tr ?_ (by assumption))))) ?_; rintro e w1 ⟨rfl, hb⟩; have hc := hb.ccell; have hf := hb.frz; have hs := hb.sz; (try simp at hs); (try have hs0 := hs w.heap.size (by omega)); (try have hs1 := hs (w.heap.size + 1) (by omega)); (try have hs2 := hs (w.heap.size + 1 + 1) (by omega)); (try have hs3 := hs (w.heap.size + 1 + 1 + 1) (by omega))))
    refine region_grow (by kernel_rfl) (by kernel_rfl) ?_
    repeat (first | go_big_quiet_step (first | (go_at_call 68; with_reducible exact callsGrow (HW.out _ (Ext.tr (by (repeat (first | with_reducible exact Ext.rfl' _ | with_reducible assumption | with_reducible refine Ext.al ?_ _ | with_reducible refine Ext.dr ?_ | with_reducible refine Ext.st ?_ (by simp) _ | with_reducible refine Ext.tr ?_ (by assumption)))) (Grow.ok _)))) | (go_at_call 69; with_reducible exact callsGrow (HH2.out _ (Ext.tr (by (repeat (first | with_reducible exact Ext.rfl' _ | with_reducible assumption | with_reducible refine Ext.al ?_ _ | with_reducible refine Ext.dr ?_ | with_reducible refine Ext.st ?_ (by simp) _ | with_reducible refine Ext.tr ?_ (by assumption)))) (Grow.ok _)))) | (go_at_call 70; with_reducible exact callsGrow (HB2.out _ (Ext.tr (by (repeat (first | with_reducible exact Ext.rfl' _ | with_reducible assumption | with_reducible refine Ext.al ?_ _ | with_reducible refine Ext.dr ?_ | with_reducible refine Ext.st ?_ (by simp) _ | with_reducible refine Ext.tr ?_ (by assumption)))) (Grow.ok _)))) | fail) | quiet_step (first | (go_at_call 68; with_reducible exact callsGrow (HW.out _ (Ext.tr (by (repeat (first | with_reducible exact Ext.rfl' _ | with_reducible assumption | with_reducible refine Ext.al ?_ _ | with_reducible refine Ext.dr ?_ | with_reducible refine Ext.st ?_ (by simp) _ | with_reducible refine Ext.tr ?_ (by assumption)))) (Grow.ok _)))) | (go_at_call 69; with_reducible exact callsGrow (HH2.out _ (Ext.tr (by (repeat (first | with_reducible exact Ext.rfl' _ | with_reducible assumption | with_reducible refine Ext.al ?_ _ | with_reducible refine Ext.dr ?_ | with_reducible refine Ext.st ?_ (by simp) _ | with_reducible refine Ext.tr ?_ (by assumption)))) (Grow.ok _)))) | (go_at_call 70; with_reducible exact callsGrow (HB2.out _ (Ext.tr (by (repeat (first | with_reducible exact Ext.rfl' _ | with_reducible assumption | with_reducible refine Ext.al ?_ _ | with_reducible refine Ext.dr ?_ | with_reducible refine Ext.st ?_ (by simp) _ | with_reducible refine Ext.tr ?_ (by assumption)))) (Grow.ok _)))) | fail))
    refine wpQuiet_nil ?_
    intro w1 hb
    have hc := hb.ccell
    have hf := hb.frz
    have hs := hb.sz
    (try simp at hs); (try have hs0 := hs w.heap.size (by omega)); (try have hs1 := hs (w.heap.size + 1) (by omega)); (try have hs2 := hs (w.heap.size + 1 + 1) (by omega)); (try have hs3 := hs (w.heap.size + 1 + 1 + 1) (by omega))
    (try simp only [IntWalk.i64_left])
    go_wp2
    go_ret
    exact ⟨.inl ⟨rfl, by first | exact ⟨rfl, rfl, HBH.out⟩ | exact ⟨trivial, trivial, HBH.out⟩⟩, by (repeat (first | with_reducible exact Ext.rfl' _ | with_reducible assumption | with_reducible refine Ext.al ?_ _ | with_reducible refine Ext.dr ?_ | with_reducible refine Ext.st ?_ (by simp) _ | with_reducible refine Ext.tr ?_ (by assumption)))⟩
  · have HB2 := Lib.hid (fun w' (hw : Ext w w') => (HB.out w' hw).mono fun e w'' (h : BoolOf (BarP g cn rn F T H Q) e ∧ Ext w' w'') => (⟨by obtain ⟨⟨b, h1, h2⟩, _⟩ := h; rw [h1, show b = false from by cases b; rfl; exact absurd (h2.1 rfl) hB], h.2⟩ : e = .returned (.bool false) ∧ Ext w' w''))
    have HBH := Lib.hid hB
    clear hB HB
    go_enter Tryz.func27, Tryz.ntmps27
    go_wp2_with (first | (go_at_call 61; with_reducible refine Calls.mono (HC.out _ (by (repeat (first | with_reducible exact Ext.rfl' _ | with_reducible assumption | with_reducible refine Ext.al ?_ _ | with_reducible refine Ext.dr ?_ | with_reducible refine Ext.st ?_ (by simp) _ | with_reducible refine Ext.tr ?_ (by assumption))))) ?_; rintro e w1 ⟨rfl, hb⟩; have hc := hb.ccell; have hf := hb.frz; have hs := hb.sz; (try simp at hs); (try have hs0 := hs w.heap.size (by omega)); (try have hs1 := hs (w.heap.size + 1) (by omega)); (try have hs2 := hs (w.heap.size + 1 + 1) (by omega)); (try have hs3 := hs (w.heap.size + 1 + 1 + 1) (by omega))))
    refine region_grow (by kernel_rfl) (by kernel_rfl) ?_
    repeat (first | go_big_quiet_step (first | (go_at_call 68; with_reducible exact callsGrow (HW.out _ (Ext.tr (by (repeat (first | with_reducible exact Ext.rfl' _ | with_reducible assumption | with_reducible refine Ext.al ?_ _ | with_reducible refine Ext.dr ?_ | with_reducible refine Ext.st ?_ (by simp) _ | with_reducible refine Ext.tr ?_ (by assumption)))) (Grow.ok _)))) | (go_at_call 69; with_reducible exact callsGrow (HH2.out _ (Ext.tr (by (repeat (first | with_reducible exact Ext.rfl' _ | with_reducible assumption | with_reducible refine Ext.al ?_ _ | with_reducible refine Ext.dr ?_ | with_reducible refine Ext.st ?_ (by simp) _ | with_reducible refine Ext.tr ?_ (by assumption)))) (Grow.ok _)))) | (go_at_call 70; with_reducible exact callsGrow (HB2.out _ (Ext.tr (by (repeat (first | with_reducible exact Ext.rfl' _ | with_reducible assumption | with_reducible refine Ext.al ?_ _ | with_reducible refine Ext.dr ?_ | with_reducible refine Ext.st ?_ (by simp) _ | with_reducible refine Ext.tr ?_ (by assumption)))) (Grow.ok _)))) | fail) | quiet_step (first | (go_at_call 68; with_reducible exact callsGrow (HW.out _ (Ext.tr (by (repeat (first | with_reducible exact Ext.rfl' _ | with_reducible assumption | with_reducible refine Ext.al ?_ _ | with_reducible refine Ext.dr ?_ | with_reducible refine Ext.st ?_ (by simp) _ | with_reducible refine Ext.tr ?_ (by assumption)))) (Grow.ok _)))) | (go_at_call 69; with_reducible exact callsGrow (HH2.out _ (Ext.tr (by (repeat (first | with_reducible exact Ext.rfl' _ | with_reducible assumption | with_reducible refine Ext.al ?_ _ | with_reducible refine Ext.dr ?_ | with_reducible refine Ext.st ?_ (by simp) _ | with_reducible refine Ext.tr ?_ (by assumption)))) (Grow.ok _)))) | (go_at_call 70; with_reducible exact callsGrow (HB2.out _ (Ext.tr (by (repeat (first | with_reducible exact Ext.rfl' _ | with_reducible assumption | with_reducible refine Ext.al ?_ _ | with_reducible refine Ext.dr ?_ | with_reducible refine Ext.st ?_ (by simp) _ | with_reducible refine Ext.tr ?_ (by assumption)))) (Grow.ok _)))) | fail))
    refine wpQuiet_nil ?_
    intro w1 hb
    have hc := hb.ccell
    have hf := hb.frz
    have hs := hb.sz
    (try simp at hs); (try have hs0 := hs w.heap.size (by omega)); (try have hs1 := hs (w.heap.size + 1) (by omega)); (try have hs2 := hs (w.heap.size + 1 + 1) (by omega)); (try have hs3 := hs (w.heap.size + 1 + 1 + 1) (by omega))
    (try simp only [IntWalk.i64_left])
    go_wp2
    go_ret
    exact ⟨.inr ⟨rfl, fun h => HBH.out h.2.2⟩, by (repeat (first | with_reducible exact Ext.rfl' _ | with_reducible assumption | with_reducible refine Ext.al ?_ _ | with_reducible refine Ext.dr ?_ | with_reducible refine Ext.st ?_ (by simp) _ | with_reducible refine Ext.tr ?_ (by assumption)))⟩
end Go.Proofs.YtgnakeemcccfjaaGreat

/- Contracts of the reference's Ends, has and Neighbours. -/
import Derived.Test.YtgnakeemcccfjaaBends
import Derived.Test.YtgnakeemcccfjaaBrpure
namespace Go.Proofs.Ytgnakeemcccfjaa
open Go Go.RowKit Go.IntWalk

def endR (g : Gr) (F T : List Int) : Int :=
  if F.length = 0 ∨ T.length = 0 then 10 else if cellsE g.L.length F ≠ 0 then cellsE g.L.length F else cellsE g.L.length T
theorem endsE_R (g : Gr) (F T : List Int) : endsE g F T = if chkG g ≠ 0 then chkG g else endR g F T := rfl
theorem cellsE_two (n : Nat) (l : List Int) : cellsE n l = 0 ∨ cellsE n l = 6 := by unfold cellsE; split <;> simp
set_option maxHeartbeats 4000000 in
theorem rends_c (g : Gr) (F T : List Int) (w : World) (A B D : Option Addr) (c cB cD : Nat) (hFl : F.length ≤ 100000) (hTl : T.length ≤ 100000) (hB : Row 1 encZ w B F) (hD : Row 1 encZ w D T) :
    Calls Try.prog 57 #[.agg #[.int .i64 g.X, .int .i64 g.Y, .int .i64 g.S, .int .i64 g.C, .int .i64 g.R, .slice A g.L.length c], .slice B F.length cB, .slice D T.length cD] w fun e w' => e = .returned (.int .i64 (endR g F T)) ∧ Ext w w' := by
  obtain ⟨Z, hZ⟩ : ∃ Z, endR g F T = Z := ⟨_, rfl⟩
  rw [hZ]
  have HTh := Lib.hid (fun i w' => there_c g i w' A c)
  unfold endR at hZ
  by_cases h0 : F.length = 0
  · rw [if_pos (.inl h0)] at hZ
    subst hZ
    have h0' : (F.length : Int) = 0 := by omega
    go_enter Try.func57, Try.ntmps57
    go_wp2
    go_ret
    exact ⟨rfl, by (repeat (first | with_reducible exact Ext.rfl' _ | with_reducible assumption | with_reducible refine Ext.al ?_ _ | with_reducible refine Ext.dr ?_ | with_reducible refine Ext.st ?_ (by simp) _ | with_reducible refine Ext.tr ?_ (by assumption)))⟩
  have h0' : ((F.length : Int) == 0) = false := by rw [beq_eq_false_iff_ne]; omega
  by_cases h1 : T.length = 0
  · rw [if_pos (.inr h1)] at hZ
    subst hZ
    have h1' : (T.length : Int) = 0 := by omega
    clear h0
    go_enter Try.func57, Try.ntmps57
    go_wp2
    go_ret
    exact ⟨rfl, by (repeat (first | with_reducible exact Ext.rfl' _ | with_reducible assumption | with_reducible refine Ext.al ?_ _ | with_reducible refine Ext.dr ?_ | with_reducible refine Ext.st ?_ (by simp) _ | with_reducible refine Ext.tr ?_ (by assumption)))⟩
  have h1' : ((T.length : Int) == 0) = false := by rw [beq_eq_false_iff_ne]; omega
  rw [if_neg (by omega)] at hZ
  have HZ := Lib.hid hZ
  clear hZ h0 h1
  go_enter Try.func57, Try.ntmps57
  go_wp2
  have hEp : Ext w (w.alloc (.cells #[.int .i64 g.X, .int .i64 g.Y, .int .i64 g.S, .int .i64 g.C, .int .i64 g.R, .slice A g.L.length c] 24)) := by (repeat (first | with_reducible exact Ext.rfl' _ | with_reducible assumption | with_reducible refine Ext.al ?_ _ | with_reducible refine Ext.dr ?_ | with_reducible refine Ext.st ?_ (by simp) _ | with_reducible refine Ext.tr ?_ (by assumption)))
  have kg : CellsAt (w.alloc (.cells #[.int .i64 g.X, .int .i64 g.Y, .int .i64 g.S, .int .i64 g.C, .int .i64 g.R, .slice A g.L.length c] 24)) w.heap.size 0 [.int .i64 g.X, .int .i64 g.Y, .int .i64 g.S, .int .i64 g.C, .int .i64 g.R, .slice A g.L.length c] := by
    refine cells_six ⟨?_, ?_, ?_, ?_, ?_, ?_⟩ <;> simp [World.cell?_alloc_new, go_sem]
  have zp : w.heap.size < (w.alloc (.cells #[.int .i64 g.X, .int .i64 g.Y, .int .i64 g.S, .int .i64 g.C, .int .i64 g.R, .slice A g.L.length c] 24)).heap.size := by simp
  generalize w.alloc (.cells #[.int .i64 g.X, .int .i64 g.Y, .int .i64 g.S, .int .i64 g.C, .int .i64 g.R, .slice A g.L.length c] 24) = wp at *
  go_loopw [7] (fun i wr => Ext wp wr ∧ ∃ k : Nat, k ≤ F.length ∧ i = .int .i64 k ∧ Hid (anyN (noCell g.L.length F) k = false)) (fun i _ => F.length - (intOf i).toNat)
  case atStart => exact ⟨Ext.rfl' _, 0, Nat.zero_le _, rfl, rfl⟩
  case round =>
    obtain ⟨hr, k, hk, rfl, hF⟩ := hrel
    have hE : Ext w wr := hEp.tr hr
    obtain ⟨g0, g1, g2, g3, g4, g5⟩ := (kg.ext hr zp).six
    have hzp := hr.sz _ zp
    by_cases hlt : k < F.length
    · obtain ⟨b, off, rfl, hb0, hcell⟩ := hB.p1 hlt
      have c1 := hcell _ hE
      have hz := hE.sz _ hb0
      obtain ⟨v, hv⟩ : ∃ v, F[k] = v := ⟨_, rfl⟩
      have hg := gi_lt F k hlt
      rw [hv] at c1 hg
      have HG := Lib.hid hg
      have HI := Lib.hid (fun w' => HTh.out v w')
      clear hv hg hcell
      cases hq : (decide (0 ≤ v) && decide (v < g.L.length))
      · rw [hq] at HI
        have HN : Hid (noCell g.L.length F k = true) := Lib.hid (by unfold noCell; rw [HG.out, hq]; rfl)
        have hz6 : Hid ((6 : Int) = Z) := Lib.hid (by rw [← HZ.out]; have e : cellsE g.L.length F = 6 := (by unfold cellsE; rw [if_pos (anyN_at _ hlt HN.out)]); rw [e, if_pos (by decide)])
        clear hq
        go_wp2
        refine region_grow (by kernel_rfl) (by kernel_rfl) ?_
        repeat (first | go_big_quiet_step (first | (go_at_call 29; with_reducible exact callsGrow (HI.out _)) | fail) | quiet_step (first | (go_at_call 29; with_reducible exact callsGrow (HI.out _)) | fail))
        refine wpQuiet_nil ?_
        intro w1 hb
        have hc := hb.ccell
        have hf := hb.frz
        have hs := hb.sz
        (try simp at hs); (try have hs0 := hs w.heap.size (by omega)); (try have hs1 := hs (w.heap.size + 1) (by omega)); (try have hs2 := hs (w.heap.size + 1 + 1) (by omega)); (try have hs3 := hs (w.heap.size + 1 + 1 + 1) (by omega))
        (try simp only [IntWalk.i64_left])
        go_wp2
        go_ret
        exact ⟨ret_int hz6.out, by (repeat (first | with_reducible exact Ext.rfl' _ | with_reducible assumption | with_reducible refine Ext.al ?_ _ | with_reducible refine Ext.dr ?_ | with_reducible refine Ext.st ?_ (by simp) _ | with_reducible refine Ext.tr ?_ (by assumption)))⟩
      · rw [hq] at HI
        have HN : Hid (noCell g.L.length F k = false) := Lib.hid (by unfold noCell; rw [HG.out, hq]; rfl)
        clear hq
        go_wp2
        refine region_grow (by kernel_rfl) (by kernel_rfl) ?_
        repeat (first | go_big_quiet_step (first | (go_at_call 29; with_reducible exact callsGrow (HI.out _)) | fail) | quiet_step (first | (go_at_call 29; with_reducible exact callsGrow (HI.out _)) | fail))
        refine wpQuiet_nil ?_
        intro w1 hb
        have hc := hb.ccell
        have hf := hb.frz
        have hs := hb.sz
        (try simp at hs); (try have hs0 := hs w.heap.size (by omega)); (try have hs1 := hs (w.heap.size + 1) (by omega)); (try have hs2 := hs (w.heap.size + 1 + 1) (by omega)); (try have hs3 := hs (w.heap.size + 1 + 1 + 1) (by omega))
        (try simp only [IntWalk.i64_left])
        go_wp2
        exact ⟨⟨by (repeat (first | with_reducible exact Ext.rfl' _ | with_reducible assumption | with_reducible refine Ext.al ?_ _ | with_reducible refine Ext.dr ?_ | with_reducible refine Ext.st ?_ (by simp) _ | with_reducible refine Ext.tr ?_ (by assumption))), k + 1, by omega, by go_num, (by show anyN _ (k + 1) = false; rw [anyN, hF.out, HN.out]; rfl)⟩, by simp [intOf]; omega⟩
    · have hks : k = F.length := by omega
      have HZ2 : Hid (cellsE g.L.length T = Z) := Lib.hid (by rw [← HZ.out]; have e : cellsE g.L.length F = 0 := (by unfold cellsE; rw [← hks, hF.out, if_neg (by decide)]); rw [e, if_neg (by decide)])
      have z2 := hzp
      obtain ⟨w2, hw2⟩ : ∃ w2, w2 = wr := ⟨_, rfl⟩
      subst hw2
      clear hF HZ
      go_wp2
      go_loopw [8] (fun i wr => Ext w2 wr ∧ ∃ k : Nat, k ≤ T.length ∧ i = .int .i64 k ∧ Hid (anyN (noCell g.L.length T) k = false)) (fun i _ => T.length - (intOf i).toNat)
      case atStart => exact ⟨Ext.rfl' _, 0, Nat.zero_le _, rfl, rfl⟩
      case round =>
        obtain ⟨hs, m, hm, rfl, hF⟩ := hrel
        have hE2 : Ext w wr := hE.tr hs
        obtain ⟨g0, g1, g2, g3, g4, g5⟩ := (kg.ext (hr.tr hs) zp).six
        have hz2 := hs.sz _ z2
        by_cases hlt : m < T.length
        · obtain ⟨b, off, rfl, hb0, hcell⟩ := hD.p1 hlt
          have c1 := hcell _ hE2
          have hz := hE2.sz _ hb0
          obtain ⟨v, hv⟩ : ∃ v, T[m] = v := ⟨_, rfl⟩
          have hg := gi_lt T m hlt
          rw [hv] at c1 hg
          have HG := Lib.hid hg
          have HI := Lib.hid (fun w' => HTh.out v w')
          clear hv hg hcell
          cases hq : (decide (0 ≤ v) && decide (v < g.L.length))
          · rw [hq] at HI
            have HN : Hid (noCell g.L.length T m = true) := Lib.hid (by unfold noCell; rw [HG.out, hq]; rfl)
            have hz6 : Hid ((6 : Int) = Z) := Lib.hid (by rw [← HZ2.out]; unfold cellsE; rw [if_pos (anyN_at _ hlt HN.out)])
            clear hq
            go_wp2
            refine region_grow (by kernel_rfl) (by kernel_rfl) ?_
            repeat (first | go_big_quiet_step (first | (go_at_call 29; with_reducible exact callsGrow (HI.out _)) | fail) | quiet_step (first | (go_at_call 29; with_reducible exact callsGrow (HI.out _)) | fail))
            refine wpQuiet_nil ?_
            intro w1 hb
            have hc := hb.ccell
            have hf := hb.frz
            have hs := hb.sz
            (try simp at hs); (try have hs0 := hs w.heap.size (by omega)); (try have hs1 := hs (w.heap.size + 1) (by omega)); (try have hs2 := hs (w.heap.size + 1 + 1) (by omega)); (try have hs3 := hs (w.heap.size + 1 + 1 + 1) (by omega))
            (try simp only [IntWalk.i64_left])
            go_wp2
            go_ret
            exact ⟨ret_int hz6.out, by (repeat (first | with_reducible exact Ext.rfl' _ | with_reducible assumption | with_reducible refine Ext.al ?_ _ | with_reducible refine Ext.dr ?_ | with_reducible refine Ext.st ?_ (by simp) _ | with_reducible refine Ext.tr ?_ (by assumption)))⟩
          · rw [hq] at HI
            have HN : Hid (noCell g.L.length T m = false) := Lib.hid (by unfold noCell; rw [HG.out, hq]; rfl)
            clear hq
            go_wp2
            refine region_grow (by kernel_rfl) (by kernel_rfl) ?_
            repeat (first | go_big_quiet_step (first | (go_at_call 29; with_reducible exact callsGrow (HI.out _)) | fail) | quiet_step (first | (go_at_call 29; with_reducible exact callsGrow (HI.out _)) | fail))
            refine wpQuiet_nil ?_
            intro w1 hb
            have hc := hb.ccell
            have hf := hb.frz
            have hs := hb.sz
            (try simp at hs); (try have hs0 := hs w.heap.size (by omega)); (try have hs1 := hs (w.heap.size + 1) (by omega)); (try have hs2 := hs (w.heap.size + 1 + 1) (by omega)); (try have hs3 := hs (w.heap.size + 1 + 1 + 1) (by omega))
            (try simp only [IntWalk.i64_left])
            go_wp2
            exact ⟨⟨by (repeat (first | with_reducible exact Ext.rfl' _ | with_reducible assumption | with_reducible refine Ext.al ?_ _ | with_reducible refine Ext.dr ?_ | with_reducible refine Ext.st ?_ (by simp) _ | with_reducible refine Ext.tr ?_ (by assumption))), m + 1, by omega, by go_num, (by show anyN _ (m + 1) = false; rw [anyN, hF.out, HN.out]; rfl)⟩, by simp [intOf]; omega⟩
        · have hks : m = T.length := by omega
          have hz0 : Hid ((0 : Int) = Z) := Lib.hid (by rw [← HZ2.out]; unfold cellsE; rw [if_neg (by rw [← hks, hF.out]; decide)])
          go_wp2
          go_ret
          exact ⟨ret_int hz0.out, by (repeat (first | with_reducible exact Ext.rfl' _ | with_reducible assumption | with_reducible refine Ext.al ?_ _ | with_reducible refine Ext.dr ?_ | with_reducible refine Ext.st ?_ (by simp) _ | with_reducible refine Ext.tr ?_ (by assumption)))⟩
set_option maxHeartbeats 4000000 in
theorem has_c (l : List Int) (n : Int) (w : World) (A : Option Addr) (c : Nat) (hl : l.length ≤ 100000) (hA : Row 1 encZ w A l) :
    Calls Try.prog 106 #[.slice A l.length c, .int .i64 n] w fun e w' => e = .returned (.bool (decide (n ∈ l))) ∧ Ext w w' := by
  obtain ⟨Z, hZ⟩ : ∃ Z, decide (n ∈ l) = Z := ⟨_, rfl⟩
  rw [hZ]
  have HZ := Lib.hid hZ
  clear hZ
  go_enter Try.func106, Try.ntmps106
  go_wp2
  go_loopw [5] (fun i wr => Ext w wr ∧ ∃ k : Nat, k ≤ l.length ∧ i = .int .i64 k ∧ Hid (∀ j, j < k → gi l j ≠ n)) (fun i _ => l.length - (intOf i).toNat)
  case atStart => exact ⟨Ext.rfl' _, 0, Nat.zero_le _, rfl, Lib.hid (by intro j hj; omega)⟩
  case round =>
    obtain ⟨hr, k, hk, rfl, hF⟩ := hrel
    by_cases hlt : k < l.length
    · obtain ⟨b, off, rfl, hb0, hcell⟩ := hA.p1 hlt
      have c1 := hcell _ hr
      have hz := hr.sz _ hb0
      have hg := gi_lt l k hlt
      obtain ⟨v, hv⟩ : ∃ v, l[k] = v := ⟨_, rfl⟩
      have hm := List.getElem_mem hlt
      rw [hv] at c1 hg hm
      have HG := Lib.hid hg
      clear hv hg hcell
      by_cases he : v = n
      · subst he
        have hz1 : Hid (true = Z) := Lib.hid (by rw [← HZ.out]; simp [hm])
        clear hm
        go_wp2
        go_ret
        exact ⟨ret_bool hz1.out, by (repeat (first | with_reducible exact Ext.rfl' _ | with_reducible assumption | with_reducible refine Ext.al ?_ _ | with_reducible refine Ext.dr ?_ | with_reducible refine Ext.st ?_ (by simp) _ | with_reducible refine Ext.tr ?_ (by assumption)))⟩
      · have he' : (v == n) = false := by simp [he]
        have HN : Hid (∀ j, j < k + 1 → gi l j ≠ n) := Lib.hid (by
          intro j hj
          rcases Nat.lt_succ_iff_lt_or_eq.1 hj with h | h
          · exact hF.out j h
          · subst h; rw [HG.out]; exact he)
        clear he hm
        go_wp2
        exact ⟨⟨by (repeat (first | with_reducible exact Ext.rfl' _ | with_reducible assumption | with_reducible refine Ext.al ?_ _ | with_reducible refine Ext.dr ?_ | with_reducible refine Ext.st ?_ (by simp) _ | with_reducible refine Ext.tr ?_ (by assumption))), k + 1, by omega, by go_num, HN⟩, by simp [intOf]; omega⟩
    · have hks : k = l.length := by omega
      have hz0 : Hid (false = Z) := Lib.hid (by
        rw [← HZ.out]
        symm
        rw [decide_eq_false_iff_not]
        intro hm
        obtain ⟨i, hi, h2⟩ := List.mem_iff_getElem.1 hm
        have := hF.out i (by omega)
        rw [gi_lt l i hi] at this
        exact this h2)
      go_wp2
      go_ret
      exact ⟨ret_bool hz0.out, by (repeat (first | with_reducible exact Ext.rfl' _ | with_reducible assumption | with_reducible refine Ext.al ?_ _ | with_reducible refine Ext.dr ?_ | with_reducible refine Ext.st ?_ (by simp) _ | with_reducible refine Ext.tr ?_ (by assumption)))⟩
theorem sub_abs (a b : Nat) : (((a : Int) - (b : Int)).natAbs : Int) ≤ (a : Int) + b := by omega
set_option maxHeartbeats 4000000 in
theorem neigh_c (g : Gr) (cn i k : Nat) (w : World) (A : Option Addr) (c : Nat) (hC : g.C = cn) (h0 : 0 < cn) (h1 : cn ≤ 1024) (hi : i ≤ 2000) (hk : k ≤ 2000) :
    Calls Try.prog 80 #[.agg #[.int .i64 g.X, .int .i64 g.Y, .int .i64 g.S, .int .i64 g.C, .int .i64 g.R, .slice A g.L.length c], .int .i64 i, .int .i64 k] w fun e w' => e = .returned (.bool (nbB cn i k)) ∧ Ext w w' := by
  have ed : (i : Int) / (cn : Int) = ((i / cn : Nat) : Int) := by simp
  have em : (i : Int) % (cn : Int) = ((i % cn : Nat) : Int) := by simp
  have fd : (k : Int) / (cn : Int) = ((k / cn : Nat) : Int) := by simp
  have fm : (k : Int) % (cn : Int) = ((k % cn : Nat) : Int) := by simp
  have b1 : i / cn ≤ i := Nat.div_le_self _ _
  have b2 : i % cn ≤ i := Nat.mod_le _ _
  have b3 : k / cn ≤ k := Nat.div_le_self _ _
  have b4 : k % cn ≤ k := Nat.mod_le _ _
  unfold nbB
  generalize i / cn = d at *
  generalize i % cn = m at *
  generalize k / cn = e at *
  generalize k % cn = n at *
  rw [hC]
  clear hC
  have A1 := Lib.hid (fun w => abs_c ((m : Int) - (n : Int)) w (by omega) (by omega))
  have A2 := Lib.hid (fun w => abs_c ((d : Int) - (e : Int)) w (by omega) (by omega))
  go_enter Try.func80, Try.ntmps80
  go_wp2
  refine region_grow (by kernel_rfl) (by kernel_rfl) ?_
  repeat (first | go_big_quiet_step (first | (go_at_call 123; exact callsStay (abs_c _ _ (by omega) (by omega))) | fail) | quiet_step (first | (go_at_call 123; exact callsStay (abs_c _ _ (by omega) (by omega))) | fail))
  refine wpQuiet_nil ?_
  intro w1 hb
  have hc := hb.ccell
  have hf := hb.frz
  have hs := hb.sz
  (try simp at hs); (try have hs0 := hs w.heap.size (by omega)); (try have hs1 := hs (w.heap.size + 1) (by omega)); (try have hs2 := hs (w.heap.size + 1 + 1) (by omega)); (try have hs3 := hs (w.heap.size + 1 + 1 + 1) (by omega))
  (try simp only [IntWalk.i64_left])
  go_wp2
  go_ret
  exact ⟨ret_bool (by rw [Bool.eq_iff_iff, beq_iff_eq, decide_eq_true_eq]; omega), by (repeat (first | with_reducible exact Ext.rfl' _ | with_reducible assumption | with_reducible refine Ext.al ?_ _ | with_reducible refine Ext.dr ?_ | with_reducible refine Ext.st ?_ (by simp) _ | with_reducible refine Ext.tr ?_ (by assumption)))⟩
end Go.Proofs.Ytgnakeemcccfjaa

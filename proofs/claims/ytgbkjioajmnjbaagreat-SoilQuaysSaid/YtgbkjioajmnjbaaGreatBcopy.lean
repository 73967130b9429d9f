/- Contracts of the reference's Alike and Both, of Ints and of copies. Contracts of copies of grids, and of what the statements ask of a grid. -/
import Derived.Test.YtgbkjioajmnjbaaGreatBcell

namespace Go.Proofs.YtgbkjioajmnjbaaGreat
open Go Go.RowKit Go.IntWalk

/-! ### Lists of numbers -/
set_option maxHeartbeats 4000000 in
theorem ints_c (l m : List Int) (w : World) (A B : Option Addr) (c d : Nat) (hl : l.length ≤ maxLen) (hA : Row 1 encZ w A l) (hB : Row 1 encZ w B m) :
    Calls Tryz.prog 15 #[.slice A l.length c, .slice B m.length d] w fun e w' => e = .returned (.bool (decide (l = m))) ∧ Ext w w' := by
  unfold maxLen at hl
  by_cases h0 : l.length = m.length
  case neg =>
    have h1 : ((l.length : Int) != (m.length : Int)) = true := by rw [bne_iff_ne]; omega
    have h2 : ¬ l = m := fun e => h0 (by rw [e])
    rw [decide_eq_false h2]
    clear h0 h2
    go_enter Tryz.func15, Tryz.ntmps15
    go_wp2
    go_ret
    exact ⟨rfl, by (repeat (first | with_reducible exact Ext.rfl' _ | with_reducible assumption | with_reducible refine Ext.al ?_ _ | with_reducible refine Ext.dr ?_ | with_reducible refine Ext.st ?_ (by simp) _ | with_reducible refine Ext.tr ?_ (by assumption)))⟩
  have h1 : ((l.length : Int) != (m.length : Int)) = false := by rw [bne_eq_false_iff_eq]; omega
  obtain ⟨Z, hZ⟩ : ∃ Z : Bool, decide (l = m) = Z := ⟨_, rfl⟩
  rw [hZ]
  have HZ := Lib.hid hZ
  have H0 := Lib.hid h0
  clear hZ h0
  go_enter Tryz.func15, Tryz.ntmps15
  go_wp2
  go_loopw [5] (fun i wr => Ext w wr ∧ ∃ k : Nat, k ≤ l.length ∧ i = .int .i64 k ∧ Hid (∀ j, j < k → gi l j = gi m j)) (fun i _ => l.length - (intOf i).toNat)
  case atStart => exact ⟨Ext.rfl' _, 0, Nat.zero_le _, rfl, Lib.hid (fun j hj => absurd hj (Nat.not_lt_zero _))⟩
  case round =>
    obtain ⟨hE, k, hk, rfl, hF⟩ := hrel
    by_cases hlt : k < l.length
    · have hlm : k < m.length := by rw [← H0.out]; exact hlt
      obtain ⟨b, off, rfl, hb0, hcell⟩ := hA.p1 hlt
      have c1 := hcell _ hE
      clear hcell
      obtain ⟨b2, off2, rfl, hb2, hcell⟩ := hB.p1 hlm
      have c2 := hcell _ hE
      clear hcell
      have hz := hE.sz _ hb0
      have hz2 := hE.sz _ hb2
      obtain ⟨v, hv⟩ : ∃ v, l[k] = v := ⟨_, rfl⟩
      obtain ⟨u, hu⟩ : ∃ u, m[k] = u := ⟨_, rfl⟩
      rw [hv] at c1
      rw [hu] at c2
      have HV := Lib.hid ((gi_lt l k hlt).trans hv)
      have HU := Lib.hid ((gi_lt m k hlm).trans hu)
      clear hv hu
      by_cases he : v = u
      · subst he
        go_wp2
        refine region_grow (by kernel_rfl) (by kernel_rfl) ?_
        repeat (first | go_big_quiet_step (first  | fail) | quiet_step (first  | fail))
        refine wpQuiet_nil ?_
        intro w1 hb
        have hc := hb.ccell
        have hf := hb.frz
        have hs := hb.sz
        (try simp at hs); (try have hs0 := hs w.heap.size (by omega)); (try have hs1 := hs (w.heap.size + 1) (by omega)); (try have hs2 := hs (w.heap.size + 1 + 1) (by omega)); (try have hs3 := hs (w.heap.size + 1 + 1 + 1) (by omega))
        (try simp only [IntWalk.i64_left])
        go_wp2
        exact ⟨⟨hE.tr hb, k + 1, by omega, by go_num, Lib.hid (fun j hj => by
          rcases Nat.lt_or_ge j k with h | h
          · exact hF.out j h
          · have : j = k := by omega
            subst this
            rw [HV.out, HU.out])⟩, by simp [intOf]; omega⟩
      · have hne : (v != u) = true := by rw [bne_iff_ne]; exact he
        have hZ2 : Z = false := by
          rw [← HZ.out]
          refine decide_eq_false (fun e => he ?_)
          rw [← HV.out, ← HU.out, e]
        subst hZ2
        clear he
        go_wp2
        refine region_grow (by kernel_rfl) (by kernel_rfl) ?_
        repeat (first | go_big_quiet_step (first  | fail) | quiet_step (first  | fail))
        refine wpQuiet_nil ?_
        intro w1 hb
        have hc := hb.ccell
        have hf := hb.frz
        have hs := hb.sz
        (try simp at hs); (try have hs0 := hs w.heap.size (by omega)); (try have hs1 := hs (w.heap.size + 1) (by omega)); (try have hs2 := hs (w.heap.size + 1 + 1) (by omega)); (try have hs3 := hs (w.heap.size + 1 + 1 + 1) (by omega))
        (try simp only [IntWalk.i64_left])
        go_wp2
        go_ret
        exact ⟨rfl, hE.tr hb⟩
    · have hZ2 : Z = true := by
        rw [← HZ.out]
        refine decide_eq_true ?_
        apply List.ext_getElem H0.out
        intro i h1 h2
        have := hF.out i (by omega)
        rwa [gi_lt _ _ h1, gi_lt _ _ h2] at this
      subst hZ2
      go_wp2
      go_ret
      exact ⟨rfl, hE⟩
end Go.Proofs.YtgbkjioajmnjbaaGreat

namespace Go.Proofs.YtgbkjioajmnjbaaGreat
open Go Go.RowKit Go.IntWalk

theorem copyInts_c (l : List Int) (w : World) (A : Option Addr) (c : Nat) (hl : l.length ≤ 100000) (hA : Row 1 encZ w A l) :
    Calls Tryz.prog 48 #[.slice A l.length c] w fun e w' => OutZ w.heap.size l e w' ∧ Ext w w' := by
  obtain ⟨i0, hi, hz0, hz1, hz2⟩ := info_parts infoZ
  go_enter Tryz.func48, Tryz.ntmps48
  go_wp2_with (first | (at_builtin; refine wpList_append_in rfl _ _ 26 rfl w.heap.size 3 i0 _ 1 8 Tryz.underlying26 hi hz0 hz1 hz2 rfl (by decide) encZ encZ_len encZ_one _ 0 [] rfl (World.ownsRow_lit _ #[] 0 ?_ (by decide) rfl) l A c rfl (hA.ext ?_) ?_ ?_ ?_ ?_))
  · exact Nat.le_refl _
  · exact Ext.al (Ext.rfl' _) _
  · unfold maxLen; omega
  · omega
  · simp
  clear hi hz0 hz1 hz2
  intro v' w1 h1 h2
  obtain ⟨A', c', hv, hN⟩ := NewZ.of (l := l) (by simp) (by simp) h1
  subst hv
  have hE : Ext w w1 := Below.grown (Ext.al (Ext.rfl' _) _) h2 (by simp) (by intro q hq; simp [Value.ownBlock] at hq; omega)
  have HN := Lib.hid hN
  clear h1 h2 hN
  go_wp2
  go_ret
  exact ⟨⟨A', c', rfl, HN.out⟩, hE⟩
/-- The result is a grid whose levels the call has made. -/
def OutG (base : Nat) (g : Gr) (e : Ending) (w' : World) : Prop := ∃ A c, e = .returned (.agg #[.int .i64 g.X, .int .i64 g.Y, .int .i64 g.S, .int .i64 g.C, .int .i64 g.R, .slice A g.L.length c]) ∧ NewZ base w' A c g.L
set_option maxHeartbeats 4000000 in
theorem copyGrid_c (g : Gr) (w : World) (A : Option Addr) (c : Nat) (hl : g.L.length ≤ 100000) (hA : Row 1 encZ w A g.L) :
    Calls Tryz.prog 32 #[.agg #[.int .i64 g.X, .int .i64 g.Y, .int .i64 g.S, .int .i64 g.C, .int .i64 g.R, .slice A g.L.length c]] w fun e w' => OutG w.heap.size g e w' ∧ Ext w w' := by
  have HC := Lib.hid (fun w' (hw : Ext w w') => copyInts_c g.L w' A c hl (hA.ext hw))
  go_enter Tryz.func32, Tryz.ntmps32
  go_wp2_with fail
  refine Calls.mono (HC.out _ (by (repeat (first | with_reducible exact Ext.rfl' _ | with_reducible assumption | with_reducible refine Ext.al ?_ _ | with_reducible refine Ext.dr ?_ | with_reducible refine Ext.st ?_ (by simp) _ | with_reducible refine Ext.tr ?_ (by assumption))))) ?_
  rintro e w1 ⟨⟨A', c', rfl, hN⟩, hb⟩
  have hc := hb.ccell
  have hf := hb.frz
  have hs := hb.sz
  simp at hs
  have t0 := hs w.heap.size (by omega)
  have t1 := hs (w.heap.size + 1) (by omega)
  have k5 : w1.cell? ⟨w.heap.size, 5, none⟩ = some (.slice A g.L.length c) := by simp [*, go_sem]
  have hE : Ext w w1 := by (repeat (first | with_reducible exact Ext.rfl' _ | with_reducible assumption | with_reducible refine Ext.al ?_ _ | with_reducible refine Ext.dr ?_ | with_reducible refine Ext.st ?_ (by simp) _ | with_reducible refine Ext.tr ?_ (by assumption)))
  have kz : CellsAt w1 (w.heap.size + 1) 0 [.int .i64 0, .int .i64 0, .int .i64 0, .int .i64 0, .int .i64 0, .slice none 0 0] := by
    intro j v hj
    rw [hb.ccell _ _ (by simp)]
    match j with
    | 0 | 1 | 2 | 3 | 4 | 5 => simpa [go_sem] using hj
    | j + 6 => simp at hj
  have HN := Lib.hid hN
  have HK := Lib.hid kz
  clear hN hb kz
  dsimp only
  go_wp2
  have hk5 := HK.out.st (a := ⟨w.heap.size, 5, none⟩) (by simp) (.slice A' g.L.length c')
  have hE5 : Ext w (w1.setCell ⟨w.heap.size, 5, none⟩ (.slice A' g.L.length c')) := Ext.st hE (by simp) _
  have hn5 := HN.out.st (a := ⟨w.heap.size, 5, none⟩) (by simp; omega) (.slice A' g.L.length c')
  generalize w1.setCell ⟨w.heap.size, 5, none⟩ (.slice A' g.L.length c') = w5 at *
  have hnL := hn5.stL (b := w.heap.size + 1) (by simp) 0 [.int .i64 g.X, .int .i64 g.Y, .int .i64 g.S, .int .i64 g.C, .int .i64 g.R, .slice A' g.L.length c']
  have hSL := stL_at _ [.int .i64 g.X, .int .i64 g.Y, .int .i64 g.S, .int .i64 g.C, .int .i64 g.R, .slice A' g.L.length c'] _ 0 _ hk5 rfl
  have hXL := stL_ext (w.heap.size + 1) (by omega) [.int .i64 g.X, .int .i64 g.Y, .int .i64 g.S, .int .i64 g.C, .int .i64 g.R, .slice A' g.L.length c'] 0 _ hE5
  show bodyPost _ _ _ _ _ (stL w5 (w.heap.size + 1) 0 [.int .i64 g.X, .int .i64 g.Y, .int .i64 g.S, .int .i64 g.C, .int .i64 g.R, .slice A' g.L.length c'])
  generalize stL w5 (w.heap.size + 1) 0 [.int .i64 g.X, .int .i64 g.Y, .int .i64 g.S, .int .i64 g.C, .int .i64 g.R, .slice A' g.L.length c'] = WL at *
  obtain ⟨s0, s1, s2, s3, s4, s5⟩ := hSL.six
  refine bodyPost_ret (v := .agg #[.int .i64 g.X, .int .i64 g.Y, .int .i64 g.S, .int .i64 g.C, .int .i64 g.R, .slice A' g.L.length c']) (by simp [results, Tryz.results32, go_sem, s0, s1, s2, s3, s4, s5]) rfl ⟨⟨A', c', rfl, hnL.mono (by simp; omega)⟩, hXL⟩

set_option maxHeartbeats 2000000 in
theorem sameGrid_c (g h : Gr) (w : World) (A B : Option Addr) (c d : Nat) (hl : g.L.length ≤ maxLen) (hA : Row 1 encZ w A g.L) (hB : Row 1 encZ w B h.L) :
    Calls Tryz.prog 13 #[.agg #[.int .i64 g.X, .int .i64 g.Y, .int .i64 g.S, .int .i64 g.C, .int .i64 g.R, .slice A g.L.length c], .agg #[.int .i64 h.X, .int .i64 h.Y, .int .i64 h.S, .int .i64 h.C, .int .i64 h.R, .slice B h.L.length d]] w fun e w' => e = .returned (.bool (sameB g h && decide (g.L = h.L))) ∧ Ext w w' := by
  obtain ⟨X, Y, S, C, R, L⟩ := g
  obtain ⟨X2, Y2, S2, C2, R2, L2⟩ := h
  unfold sameB
  dsimp only at *
  have HI := Lib.hid (fun w' (hw : Ext w w') => ints_c L L2 w' A B c d hl (hA.ext hw) (hB.ext hw))
  generalize decide (L = L2) = Z at *
  by_cases h0 : X = X2
  case neg =>
    have h' : (X == X2) = false := by simp [h0]
    rw [decide_eq_false h0]
    clear h0
    go_enter Tryz.func13, Tryz.ntmps13
    go_wp2
    go_ret
    exact ⟨ret_bool (by simp), by (repeat (first | with_reducible exact Ext.rfl' _ | with_reducible assumption | with_reducible refine Ext.al ?_ _ | with_reducible refine Ext.dr ?_ | with_reducible refine Ext.st ?_ (by simp) _ | with_reducible refine Ext.tr ?_ (by assumption)))⟩
  subst h0
  by_cases h1 : Y = Y2
  case neg =>
    have h' : (Y == Y2) = false := by simp [h1]
    rw [decide_eq_false h1]
    clear h1
    go_enter Tryz.func13, Tryz.ntmps13
    go_wp2
    go_ret
    exact ⟨ret_bool (by simp), by (repeat (first | with_reducible exact Ext.rfl' _ | with_reducible assumption | with_reducible refine Ext.al ?_ _ | with_reducible refine Ext.dr ?_ | with_reducible refine Ext.st ?_ (by simp) _ | with_reducible refine Ext.tr ?_ (by assumption)))⟩
  subst h1
  by_cases h2 : S = S2
  case neg =>
    have h' : (S == S2) = false := by simp [h2]
    rw [decide_eq_false h2]
    clear h2
    go_enter Tryz.func13, Tryz.ntmps13
    go_wp2
    go_ret
    exact ⟨ret_bool (by simp), by (repeat (first | with_reducible exact Ext.rfl' _ | with_reducible assumption | with_reducible refine Ext.al ?_ _ | with_reducible refine Ext.dr ?_ | with_reducible refine Ext.st ?_ (by simp) _ | with_reducible refine Ext.tr ?_ (by assumption)))⟩
  subst h2
  by_cases h3 : C = C2
  case neg =>
    have h' : (C == C2) = false := by simp [h3]
    rw [decide_eq_false h3]
    clear h3
    go_enter Tryz.func13, Tryz.ntmps13
    go_wp2
    go_ret
    exact ⟨ret_bool (by simp), by (repeat (first | with_reducible exact Ext.rfl' _ | with_reducible assumption | with_reducible refine Ext.al ?_ _ | with_reducible refine Ext.dr ?_ | with_reducible refine Ext.st ?_ (by simp) _ | with_reducible refine Ext.tr ?_ (by assumption)))⟩
  subst h3
  by_cases h4 : R = R2
  case neg =>
    have h' : (R == R2) = false := by simp [h4]
    rw [decide_eq_false h4]
    clear h4
    go_enter Tryz.func13, Tryz.ntmps13
    go_wp2
    go_ret
    exact ⟨ret_bool (by simp), by (repeat (first | with_reducible exact Ext.rfl' _ | with_reducible assumption | with_reducible refine Ext.al ?_ _ | with_reducible refine Ext.dr ?_ | with_reducible refine Ext.st ?_ (by simp) _ | with_reducible refine Ext.tr ?_ (by assumption)))⟩
  subst h4
  go_enter Tryz.func13, Tryz.ntmps13
  go_wp2_with (first | (go_at_call 15; with_reducible refine Calls.mono (HI.out _ (by (repeat (first | with_reducible exact Ext.rfl' _ | with_reducible assumption | with_reducible refine Ext.al ?_ _ | with_reducible refine Ext.dr ?_ | with_reducible refine Ext.st ?_ (by simp) _ | with_reducible refine Ext.tr ?_ (by assumption))))) ?_; rintro e w1 ⟨rfl, hb⟩; have hc := hb.ccell; have hf := hb.frz; have hs := hb.sz; (try simp at hs); (try have hs0 := hs w.heap.size (by omega)); (try have hs1 := hs (w.heap.size + 1) (by omega)); (try have hs2 := hs (w.heap.size + 1 + 1) (by omega)); (try have hs3 := hs (w.heap.size + 1 + 1 + 1) (by omega))))
  go_ret
  exact ⟨ret_bool (by simp), by (repeat (first | with_reducible exact Ext.rfl' _ | with_reducible assumption | with_reducible refine Ext.al ?_ _ | with_reducible refine Ext.dr ?_ | with_reducible refine Ext.st ?_ (by simp) _ | with_reducible refine Ext.tr ?_ (by assumption)))⟩
def grZ : Gr := ⟨0, 0, 0, 0, 0, []⟩
def zeroG (g : Gr) : Bool := sameB g grZ && decide (g.L = [])
theorem zeroG_zero : zeroG grZ = true := by decide

/-- Grids at which the statements look. -/
def fewB (g : Gr) : Bool :=
  (decide (g.L.length ≤ 40) && ((decide (g.C ≤ 40) && decide (g.R ≤ 40)) || decide (¬ (g.L.length : Int) = wrap64 (g.C * g.R)))) || (decide (g.L.length ≤ 1100) && decide (¬ chkG g = 0))
theorem fewB_len {g : Gr} (h : fewB g = true) : g.L.length ≤ 1100 := by
  unfold fewB at h
  simp only [Bool.or_eq_true, Bool.and_eq_true, decide_eq_true_eq] at h
  omega
end Go.Proofs.YtgbkjioajmnjbaaGreat

/- Contracts of copies of grids, and of what the statements ask of a grid. -/
import Derived.Test.YtgnakeemcccfjaaGreatBints
namespace Go.Proofs.YtgnakeemcccfjaaGreat
open Go Go.RowKit Go.IntWalk

theorem copyInts_c (l : List Int) (w : World) (A : Option Addr) (c : Nat) (hl : l.length ≤ 100000) (hA : Row 1 encZ w A l) :
    Calls Tryz.prog 9 #[.slice A l.length c] w fun e w' => OutZ w.heap.size l e w' ∧ Ext w w' := by
  obtain ⟨i0, hi, hz0, hz1, hz2⟩ := info_parts infoZ
  go_enter Tryz.func9, Tryz.ntmps9
  go_wp2_with (first | (at_builtin; refine wpList_append_in rfl _ _ 22 rfl w.heap.size 3 i0 _ 1 8 Tryz.underlying22 hi hz0 hz1 hz2 rfl (by decide) encZ encZ_len encZ_one _ 0 [] rfl (World.ownsRow_lit _ #[] 0 ?_ (by decide) rfl) l A c rfl (hA.ext ?_) ?_ ?_ ?_ ?_))
  · exact Nat.le_refl _
  · exact Ext.al (Ext.rfl' _) _
  · unfold maxLen; omega
  · omega
  · simp
  clear hi hz0 hz1 hz2
  intro v' w1 h1 h2
  obtain ⟨A', c', hv, hN⟩ := NewZ.of (l := l) (by simp) (by simp) h1
  subst hv
  have hE : Ext w w1 := Below.grown (Ext.al (Ext.rfl' _) _) h2 (by simp) (by intro q hq; simp [Value.ownBlock] at hq; omega)
  have HN := Lib.hid hN
  clear h1 h2 hN
  go_wp2
  go_ret
  exact ⟨⟨A', c', rfl, HN.out⟩, hE⟩
/-- The result is a grid whose levels the call has made. -/
def OutG (base : Nat) (g : Gr) (e : Ending) (w' : World) : Prop := ∃ A c, e = .returned (.agg #[.int .i64 g.X, .int .i64 g.Y, .int .i64 g.S, .int .i64 g.C, .int .i64 g.R, .slice A g.L.length c]) ∧ NewZ base w' A c g.L
def grZ : Gr := ⟨0, 0, 0, 0, 0, []⟩
def zeroG (g : Gr) : Bool := sameB g grZ && decide (g.L = [])
theorem zeroG_zero : zeroG grZ = true := by decide

/-- Grids at which the statements look. -/
def fewB (g : Gr) : Bool :=
  (decide (g.L.length ≤ 40) && ((decide (g.C ≤ 40) && decide (g.R ≤ 40)) || decide (¬ (g.L.length : Int) = wrap64 (g.C * g.R)))) || (decide (g.L.length ≤ 1100) && decide (¬ chkG g = 0))
theorem fewB_len {g : Gr} (h : fewB g = true) : g.L.length ≤ 1100 := by
  unfold fewB at h
  simp only [Bool.or_eq_true, Bool.and_eq_true, decide_eq_true_eq] at h
  omega
set_option maxHeartbeats 2000000 in
theorem few_c (g : Gr) (w : World) (A : Option Addr) (c : Nat) (hl : g.L.length ≤ maxLen) (hA : Row 1 encZ w A g.L) :
    Calls Tryz.prog 6 #[.agg #[.int .i64 g.X, .int .i64 g.Y, .int .i64 g.S, .int .i64 g.C, .int .i64 g.R, .slice A g.L.length c]] w fun e w' => e = .returned (.bool (fewB g)) ∧ Ext w w' := by
  have HC := Lib.hid (fun w' (hw : Ext w w') => rcheck_c g w' A c hl (hA.ext hw))
  unfold fewB
  generalize chkG g = E at *
  unfold maxLen at hl
  have key : ∀ Z : Bool, (decide (g.L.length ≤ 1100) && decide (¬ E = 0)) = Z → (decide (g.L.length ≤ 40) && ((decide (g.C ≤ 40) && decide (g.R ≤ 40)) || decide (¬ (g.L.length : Int) = wrap64 (g.C * g.R)))) = false →
      Calls Tryz.prog 6 #[.agg #[.int .i64 g.X, .int .i64 g.Y, .int .i64 g.S, .int .i64 g.C, .int .i64 g.R, .slice A g.L.length c]] w fun e w' => e = .returned (.bool Z) ∧ Ext w w' := by
    intro Z hZ hf
    have HZ := Lib.hid hZ
    clear hZ
    by_cases h1 : g.L.length ≤ 1100
    · have h1' : (g.L.length : Int) ≤ 1100 := by omega
      by_cases h2 : E = 0
      · subst h2
        have hz : Z = false := by rw [← HZ.out]; simp
        subst hz
        by_cases h3 : g.L.length ≤ 40
        · have h3' : (g.L.length : Int) ≤ 40 := by omega
          rw [decide_eq_true h3, Bool.true_and] at hf
          have hf1 := (Bool.or_eq_false_iff.1 hf).1
          have hf2 := (Bool.or_eq_false_iff.1 hf).2
          have h5 : ((g.L.length : Int) != wrap64 (g.C * g.R)) = false := by rw [bne_eq_false_iff_eq]; simpa using hf2
          clear hf hf2
          by_cases h4 : g.C ≤ 40
          · have h6 : ¬ g.R ≤ 40 := by intro h; rw [decide_eq_true h4, decide_eq_true h] at hf1; cases hf1
            clear hf1
            go_enter Tryz.func6, Tryz.ntmps6
            go_wp2_with (first | (go_at_call 10; with_reducible refine Calls.mono (HC.out _ (by (repeat (first | with_reducible exact Ext.rfl' _ | with_reducible assumption | with_reducible refine Ext.al ?_ _ | with_reducible refine Ext.dr ?_ | with_reducible refine Ext.st ?_ (by simp) _ | with_reducible refine Ext.tr ?_ (by assumption))))) ?_; rintro e w1 ⟨rfl, hb⟩; have hc := hb.ccell; have hf := hb.frz; have hs := hb.sz; (try simp at hs); (try have hs0 := hs w.heap.size (by omega)); (try have hs1 := hs (w.heap.size + 1) (by omega)); (try have hs2 := hs (w.heap.size + 1 + 1) (by omega)); (try have hs3 := hs (w.heap.size + 1 + 1 + 1) (by omega))))
            go_ret
            exact ⟨rfl, by (repeat (first | with_reducible exact Ext.rfl' _ | with_reducible assumption | with_reducible refine Ext.al ?_ _ | with_reducible refine Ext.dr ?_ | with_reducible refine Ext.st ?_ (by simp) _ | with_reducible refine Ext.tr ?_ (by assumption)))⟩
          · have h4' : decide (g.C ≤ 40) = false := decide_eq_false h4
            clear hf1
            go_enter Tryz.func6, Tryz.ntmps6
            go_wp2_with (first | (go_at_call 10; with_reducible refine Calls.mono (HC.out _ (by (repeat (first | with_reducible exact Ext.rfl' _ | with_reducible assumption | with_reducible refine Ext.al ?_ _ | with_reducible refine Ext.dr ?_ | with_reducible refine Ext.st ?_ (by simp) _ | with_reducible refine Ext.tr ?_ (by assumption))))) ?_; rintro e w1 ⟨rfl, hb⟩; have hc := hb.ccell; have hf := hb.frz; have hs := hb.sz; (try simp at hs); (try have hs0 := hs w.heap.size (by omega)); (try have hs1 := hs (w.heap.size + 1) (by omega)); (try have hs2 := hs (w.heap.size + 1 + 1) (by omega)); (try have hs3 := hs (w.heap.size + 1 + 1 + 1) (by omega))))
            go_ret
            exact ⟨rfl, by (repeat (first | with_reducible exact Ext.rfl' _ | with_reducible assumption | with_reducible refine Ext.al ?_ _ | with_reducible refine Ext.dr ?_ | with_reducible refine Ext.st ?_ (by simp) _ | with_reducible refine Ext.tr ?_ (by assumption)))⟩
        · have h3' : decide ((g.L.length : Int) ≤ 40) = false := decide_eq_false (by omega)
          have h3'' : decide (g.L.length ≤ 40) = false := decide_eq_false (by omega)
          clear hf
          go_enter Tryz.func6, Tryz.ntmps6
          go_wp2_with (first | (go_at_call 10; with_reducible refine Calls.mono (HC.out _ (by (repeat (first | with_reducible exact Ext.rfl' _ | with_reducible assumption | with_reducible refine Ext.al ?_ _ | with_reducible refine Ext.dr ?_ | with_reducible refine Ext.st ?_ (by simp) _ | with_reducible refine Ext.tr ?_ (by assumption))))) ?_; rintro e w1 ⟨rfl, hb⟩; have hc := hb.ccell; have hf := hb.frz; have hs := hb.sz; (try simp at hs); (try have hs0 := hs w.heap.size (by omega)); (try have hs1 := hs (w.heap.size + 1) (by omega)); (try have hs2 := hs (w.heap.size + 1 + 1) (by omega)); (try have hs3 := hs (w.heap.size + 1 + 1 + 1) (by omega))))
          go_ret
          exact ⟨rfl, by (repeat (first | with_reducible exact Ext.rfl' _ | with_reducible assumption | with_reducible refine Ext.al ?_ _ | with_reducible refine Ext.dr ?_ | with_reducible refine Ext.st ?_ (by simp) _ | with_reducible refine Ext.tr ?_ (by assumption)))⟩
      · have h2' : (E != 0) = true := by rw [bne_iff_ne]; exact h2
        have hz : Z = true := by rw [← HZ.out]; simp [h1, h2]
        subst hz
        clear h2
        by_cases h3 : g.L.length ≤ 40
        · have h3' : (g.L.length : Int) ≤ 40 := by omega
          rw [decide_eq_true h3, Bool.true_and] at hf
          have hf1 := (Bool.or_eq_false_iff.1 hf).1
          have hf2 := (Bool.or_eq_false_iff.1 hf).2
          have h5 : ((g.L.length : Int) != wrap64 (g.C * g.R)) = false := by rw [bne_eq_false_iff_eq]; simpa using hf2
          clear hf hf2
          by_cases h4 : g.C ≤ 40
          · have h6 : ¬ g.R ≤ 40 := by intro h; rw [decide_eq_true h4, decide_eq_true h] at hf1; cases hf1
            clear hf1
            go_enter Tryz.func6, Tryz.ntmps6
            go_wp2_with (first | (go_at_call 10; with_reducible refine Calls.mono (HC.out _ (by (repeat (first | with_reducible exact Ext.rfl' _ | with_reducible assumption | with_reducible refine Ext.al ?_ _ | with_reducible refine Ext.dr ?_ | with_reducible refine Ext.st ?_ (by simp) _ | with_reducible refine Ext.tr ?_ (by assumption))))) ?_; rintro e w1 ⟨rfl, hb⟩; have hc := hb.ccell; have hf := hb.frz; have hs := hb.sz; (try simp at hs); (try have hs0 := hs w.heap.size (by omega)); (try have hs1 := hs (w.heap.size + 1) (by omega)); (try have hs2 := hs (w.heap.size + 1 + 1) (by omega)); (try have hs3 := hs (w.heap.size + 1 + 1 + 1) (by omega))))
            go_ret
            exact ⟨rfl, by (repeat (first | with_reducible exact Ext.rfl' _ | with_reducible assumption | with_reducible refine Ext.al ?_ _ | with_reducible refine Ext.dr ?_ | with_reducible refine Ext.st ?_ (by simp) _ | with_reducible refine Ext.tr ?_ (by assumption)))⟩
          · have h4' : decide (g.C ≤ 40) = false := decide_eq_false h4
            clear hf1
            go_enter Tryz.func6, Tryz.ntmps6
            go_wp2_with (first | (go_at_call 10; with_reducible refine Calls.mono (HC.out _ (by (repeat (first | with_reducible exact Ext.rfl' _ | with_reducible assumption | with_reducible refine Ext.al ?_ _ | with_reducible refine Ext.dr ?_ | with_reducible refine Ext.st ?_ (by simp) _ | with_reducible refine Ext.tr ?_ (by assumption))))) ?_; rintro e w1 ⟨rfl, hb⟩; have hc := hb.ccell; have hf := hb.frz; have hs := hb.sz; (try simp at hs); (try have hs0 := hs w.heap.size (by omega)); (try have hs1 := hs (w.heap.size + 1) (by omega)); (try have hs2 := hs (w.heap.size + 1 + 1) (by omega)); (try have hs3 := hs (w.heap.size + 1 + 1 + 1) (by omega))))
            go_ret
            exact ⟨rfl, by (repeat (first | with_reducible exact Ext.rfl' _ | with_reducible assumption | with_reducible refine Ext.al ?_ _ | with_reducible refine Ext.dr ?_ | with_reducible refine Ext.st ?_ (by simp) _ | with_reducible refine Ext.tr ?_ (by assumption)))⟩
        · have h3' : decide ((g.L.length : Int) ≤ 40) = false := decide_eq_false (by omega)
          have h3'' : decide (g.L.length ≤ 40) = false := decide_eq_false (by omega)
          clear hf
          go_enter Tryz.func6, Tryz.ntmps6
          go_wp2_with (first | (go_at_call 10; with_reducible refine Calls.mono (HC.out _ (by (repeat (first | with_reducible exact Ext.rfl' _ | with_reducible assumption | with_reducible refine Ext.al ?_ _ | with_reducible refine Ext.dr ?_ | with_reducible refine Ext.st ?_ (by simp) _ | with_reducible refine Ext.tr ?_ (by assumption))))) ?_; rintro e w1 ⟨rfl, hb⟩; have hc := hb.ccell; have hf := hb.frz; have hs := hb.sz; (try simp at hs); (try have hs0 := hs w.heap.size (by omega)); (try have hs1 := hs (w.heap.size + 1) (by omega)); (try have hs2 := hs (w.heap.size + 1 + 1) (by omega)); (try have hs3 := hs (w.heap.size + 1 + 1 + 1) (by omega))))
          go_ret
          exact ⟨rfl, by (repeat (first | with_reducible exact Ext.rfl' _ | with_reducible assumption | with_reducible refine Ext.al ?_ _ | with_reducible refine Ext.dr ?_ | with_reducible refine Ext.st ?_ (by simp) _ | with_reducible refine Ext.tr ?_ (by assumption)))⟩
    · have h1' : ¬ (g.L.length : Int) ≤ 1100 := by omega
      have h3' : ¬ (g.L.length : Int) ≤ 40 := by omega
      have hz : Z = false := by rw [← HZ.out]; simp [h1]
      subst hz
      have g1 : decide ((g.L.length : Int) ≤ 40) = false := decide_eq_false (by omega)
      have g2 : decide (g.L.length ≤ 40) = false := decide_eq_false (by omega)
      have g3 : decide ((g.L.length : Int) ≤ 1100) = false := decide_eq_false (by omega)
      have g4 : decide (g.L.length ≤ 1100) = false := decide_eq_false (by omega)
      clear hf
      go_enter Tryz.func6, Tryz.ntmps6
      go_wp2
      go_ret
      exact ⟨rfl, by (repeat (first | with_reducible exact Ext.rfl' _ | with_reducible assumption | with_reducible refine Ext.al ?_ _ | with_reducible refine Ext.dr ?_ | with_reducible refine Ext.st ?_ (by simp) _ | with_reducible refine Ext.tr ?_ (by assumption)))⟩
  cases hq : (decide (g.L.length ≤ 40) && ((decide (g.C ≤ 40) && decide (g.R ≤ 40)) || decide (¬ (g.L.length : Int) = wrap64 (g.C * g.R))))
  · rw [Bool.false_or]
    exact key _ rfl hq
  · rw [Bool.true_or]
    clear key
    rw [Bool.and_eq_true, Bool.or_eq_true, Bool.and_eq_true] at hq
    obtain ⟨h3, hq⟩ := hq
    have h3 : g.L.length ≤ 40 := by simpa using h3
    have h3' : (g.L.length : Int) ≤ 40 := by omega
    by_cases h4 : g.C ≤ 40
    · by_cases h6 : g.R ≤ 40
      · clear hq
        go_enter Tryz.func6, Tryz.ntmps6
        go_wp2
        go_ret
        exact ⟨rfl, by (repeat (first | with_reducible exact Ext.rfl' _ | with_reducible assumption | with_reducible refine Ext.al ?_ _ | with_reducible refine Ext.dr ?_ | with_reducible refine Ext.st ?_ (by simp) _ | with_reducible refine Ext.tr ?_ (by assumption)))⟩
      · have h5 : ((g.L.length : Int) != wrap64 (g.C * g.R)) = true := by
          rw [bne_iff_ne]
          rcases hq with ⟨_, hq⟩ | hq
          · exact absurd (by simpa using hq) h6
          · simpa using hq
        have h6' : decide (g.R ≤ 40) = false := decide_eq_false h6
        clear hq
        go_enter Tryz.func6, Tryz.ntmps6
        go_wp2
        go_ret
        exact ⟨rfl, by (repeat (first | with_reducible exact Ext.rfl' _ | with_reducible assumption | with_reducible refine Ext.al ?_ _ | with_reducible refine Ext.dr ?_ | with_reducible refine Ext.st ?_ (by simp) _ | with_reducible refine Ext.tr ?_ (by assumption)))⟩
    · have h5 : ((g.L.length : Int) != wrap64 (g.C * g.R)) = true := by
        rw [bne_iff_ne]
        rcases hq with ⟨hq, _⟩ | hq
        · exact absurd (by simpa using hq) h4
        · simpa using hq
      have h4' : decide (g.C ≤ 40) = false := decide_eq_false h4
      clear hq
      go_enter Tryz.func6, Tryz.ntmps6
      go_wp2
      go_ret
      exact ⟨rfl, by (repeat (first | with_reducible exact Ext.rfl' _ | with_reducible assumption | with_reducible refine Ext.al ?_ _ | with_reducible refine Ext.dr ?_ | with_reducible refine Ext.st ?_ (by simp) _ | with_reducible refine Ext.tr ?_ (by assumption)))⟩
end Go.Proofs.YtgnakeemcccfjaaGreat

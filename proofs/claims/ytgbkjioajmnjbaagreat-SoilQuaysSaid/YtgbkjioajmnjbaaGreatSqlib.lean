/- The law's small helpers: nothing, Small, first. -/
import Derived.Test.YtgbkjioajmnjbaaGreatSslo2
import Derived.Test.YtgbkjioajmnjbaaGreatBcopy
import Derived.Test.YtgbkjioajmnjbaaGreatSlp
namespace Go.Proofs.YtgbkjioajmnjbaaGreat
open Go Go.RowKit Go.IntWalk

theorem nothing_c (g : Gr) (w : World) (A : Option Addr) (c : Nat) (hl : g.L.length ≤ maxLen) (hA : Row 1 encZ w A g.L) :
    Calls Tryz.prog 12 #[.agg #[.int .i64 g.X, .int .i64 g.Y, .int .i64 g.S, .int .i64 g.C, .int .i64 g.R, .slice A g.L.length c]] w fun e w' => e = .returned (.bool (zeroG g)) ∧ Ext w w' := by
  have HI := Lib.hid (fun w' (hw : Ext w w') => sameGrid_c g grZ w' A none c 0 hl (hA.ext hw) (.inl rfl))
  rw [show (sameB g grZ && decide (g.L = grZ.L)) = zeroG g from rfl] at HI
  unfold grZ at HI
  simp only [List.length_nil] at HI
  generalize zeroG g = Z at *
  go_enter Tryz.func12, Tryz.ntmps12
  go_wp2_with (first | (go_at_call 13; with_reducible refine Calls.mono (HI.out _ (by (repeat (first | with_reducible exact Ext.rfl' _ | with_reducible assumption | with_reducible refine Ext.al ?_ _ | with_reducible refine Ext.dr ?_ | with_reducible refine Ext.st ?_ (by simp) _ | with_reducible refine Ext.tr ?_ (by assumption))))) ?_; rintro e w1 ⟨rfl, hb⟩; have hc := hb.ccell; have hf := hb.frz; have hs := hb.sz; (try simp at hs); (try have hs0 := hs w.heap.size (by omega)); (try have hs1 := hs (w.heap.size + 1) (by omega)); (try have hs2 := hs (w.heap.size + 1 + 1) (by omega)); (try have hs3 := hs (w.heap.size + 1 + 1 + 1) (by omega))))
  go_ret
  exact ⟨rfl, by (repeat (first | with_reducible exact Ext.rfl' _ | with_reducible assumption | with_reducible refine Ext.al ?_ _ | with_reducible refine Ext.dr ?_ | with_reducible refine Ext.st ?_ (by simp) _ | with_reducible refine Ext.tr ?_ (by assumption)))⟩
theorem nothing0_c (w : World) :
    Calls Tryz.prog 12 #[.agg #[.int .i64 0, .int .i64 0, .int .i64 0, .int .i64 0, .int .i64 0, .slice none 0 0]] w fun e w' => e = .returned (.bool true) ∧ Ext w w' := by
  have h := nothing_c grZ w none 0 (by decide) (.inl rfl)
  rw [zeroG_zero] at h
  exact h
theorem small6_c (g : Gr) (w : World) (A : Option Addr) (c : Nat) (hl : g.L.length ≤ maxLen) :
    Calls Tryz.prog 5 #[.agg #[.int .i64 g.X, .int .i64 g.Y, .int .i64 g.S, .int .i64 g.C, .int .i64 g.R, .slice A g.L.length c]] w fun e w' => e = .returned (.bool (decide (g.L.length ≤ 30))) ∧ Ext w w' := by
  unfold maxLen at hl
  by_cases h : g.L.length ≤ 30
  · rw [decide_eq_true h]
    have h' : (g.L.length : Int) ≤ 30 := by omega
    clear h
    go_enter Tryz.func5, Tryz.ntmps5
    go_wp2
    go_ret
    exact ⟨ret_bool (by simp [*]), by (repeat (first | with_reducible exact Ext.rfl' _ | with_reducible assumption | with_reducible refine Ext.al ?_ _ | with_reducible refine Ext.dr ?_ | with_reducible refine Ext.st ?_ (by simp) _ | with_reducible refine Ext.tr ?_ (by assumption)))⟩
  · rw [decide_eq_false h]
    have h' : ¬ (g.L.length : Int) ≤ 30 := by omega
    clear h
    go_enter Tryz.func5, Tryz.ntmps5
    go_wp2
    go_ret
    exact ⟨ret_bool (by simp), by (repeat (first | with_reducible exact Ext.rfl' _ | with_reducible assumption | with_reducible refine Ext.al ?_ _ | with_reducible refine Ext.dr ?_ | with_reducible refine Ext.st ?_ (by simp) _ | with_reducible refine Ext.tr ?_ (by assumption)))⟩
set_option maxHeartbeats 4000000 in
theorem first6_c (l : List Int) (w : World) (A : Option Addr) (c : Nat) (hl : l.length ≤ 1000) (hA : Row 1 encZ w A l) :
    Calls Tryz.prog 10 #[.slice A l.length c] w fun e w' => e = .returned (.int .i64 (firstE (gi l) l.length)) ∧ Ext w w' := by
  obtain ⟨E, hE0⟩ : ∃ E, firstE (gi l) l.length = E := ⟨_, rfl⟩
  rw [hE0]
  have HE := Lib.hid hE0
  have HA := Lib.hid hA
  clear hE0 hA
  go_enter Tryz.func10, Tryz.ntmps10
  go_wp2
  go_loopw [3] (fun i wr => Ext w wr ∧ ∃ k : Nat, k ≤ l.length ∧ i = .int .i64 k ∧ Hid (firstE (gi l) k = 0)) (fun i _ => l.length - (intOf i).toNat)
  case atStart => exact ⟨Ext.rfl' _, 0, Nat.zero_le _, rfl, rfl⟩
  case round =>
    obtain ⟨hE, k, hk, rfl, hF⟩ := hrel
    by_cases hlt : k < l.length
    · obtain ⟨b, off, rfl, hb0, hcell⟩ := HA.out.p1 hlt
      have c1 := hcell _ hE
      rw [← gi_lt] at c1
      have HG := Lib.hid (show gi l k = gi l k from rfl)
      clear hcell
      obtain ⟨z, hz⟩ : ∃ z, gi l k = z := ⟨_, rfl⟩
      rw [hz] at c1
      by_cases h0 : z = 0
      · subst h0
        have HZ := Lib.hid hz
        clear hz
        go_wp2
        exact ⟨⟨hE, k + 1, by omega, by go_num, firstE_step _ hF.out HZ.out⟩, by simp [intOf]; omega⟩
      · have HT : Hid (z = E) := Lib.hid (by rw [← HE.out, firstE_at (gi l) hF.out (by rw [hz]; exact h0) hlt, hz])
        have h0' : (z != 0) = true := by simp [h0]
        clear hz HG
        go_wp2
        go_ret
        exact ⟨ret_int HT.out, hE⟩
    · have hks : k = l.length := by omega
      have HT : Hid ((0 : Int) = E) := Lib.hid (by rw [← HE.out, ← hks, hF.out])
      go_wp2
      go_ret
      exact ⟨ret_int HT.out, hE⟩
end Go.Proofs.YtgbkjioajmnjbaaGreat

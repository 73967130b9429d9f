/- The contract of the binary search in marks that ascend. -/
import Derived.Test.YtmhmfjgahhgbpaaTgauge
namespace Go.Proofs.Ytmhmfjgahhgbpaa
open Go Go.RowKit Go.IntWalk

theorem meanCmp_c (x y t : Int) (w : World) :
    Calls Try.prog 95 #[.agg #[.int .i64 x, .int .i64 y], .int .i64 t] w fun e w' => e = .returned (.int .i64 (cmpI x t)) ∧ Ext w w' := by
  go_enter Try.func95, Try.ntmps95
  go_wp2_with (first | (go_at_call 74; refine Calls.mono (cmp_c _ _ _) ?_; rintro e w' ⟨rfl, rfl⟩))
  go_ret
  exact ⟨rfl, by (repeat (first | with_reducible exact Ext.rfl' _ | with_reducible assumption | with_reducible refine Ext.al ?_ _ | with_reducible refine Ext.dr ?_ | with_reducible refine Ext.st ?_ (by simp) _ | with_reducible refine Ext.tr ?_ (by assumption)))⟩
/-- The place at which t stands in the minutes of l, or would stand. -/
def PosAt (l : List Pt) (t : Int) (i : Nat) : Prop := i ≤ l.length ∧ (∀ a, a < i → (gt l a).x < t) ∧ (∀ a, i ≤ a → a < l.length → t ≤ (gt l a).x)
def foundB (l : List Pt) (t : Int) (i : Nat) : Bool := decide (i < l.length) && decide ((gt l i).x = t)
set_option maxHeartbeats 2000000 in
theorem search_c (l : List Pt) (t : Int) (i : Nat) (w : World) (A : Option Addr) (c : Nat) (hl : l.length ≤ 1000) (hA : Row 2 encP w A l) (hp : PosAt l t i) :
    Calls Try.prog 94 #[.slice A l.length c, .int .i64 t, .func (.func 95) #[] #[]] w
      fun e w' => e = .returned (.tuple #[.int .i64 i, .bool (foundB l t i)]) ∧ Ext w w' := by
  have HP := Lib.hid hp
  have hi := hp.1
  clear hp
  obtain ⟨F, hF0⟩ : ∃ F, foundB l t i = F := ⟨_, rfl⟩
  rw [hF0]
  have HT := Lib.hid hF0
  clear hF0
  go_enter Try.func94, Try.ntmps94
  go_wp2
  go_loopw [9, 10, 11] (fun a b _ wr => Ext w wr ∧ ∃ lo hi' : Nat, lo ≤ i ∧ i ≤ hi' ∧ hi' ≤ l.length ∧ a = .int .i64 lo ∧ b = .int .i64 hi') (fun a b _ _ => (intOf b).toNat - (intOf a).toNat)
  case atStart => exact ⟨Ext.rfl' _, 0, l.length, Nat.zero_le _, hi, Nat.le_refl _, rfl, rfl⟩
  case round =>
    obtain ⟨hE, lo, hi', h1, h2, h3, rfl, rfl⟩ := hrel
    by_cases hlt : lo < hi'
    · have hm : (lo + hi') / 2 < l.length := by omega
      obtain ⟨b, off, rfl, hb0, hcell⟩ := hA.p2 hm
      have c := hcell _ hE
      clear hcell
      have hz := hE.sz _ hb0
      have HC := Lib.hid (fun w => meanCmp_c l[(lo + hi') / 2].x l[(lo + hi') / 2].y t w)
      have hgm := gt_lt l ((lo + hi') / 2) hm
      by_cases hxt : l[(lo + hi') / 2].x < t
      · have hlo : (lo + hi') / 2 < i := by
          rcases Nat.lt_or_ge ((lo + hi') / 2) i with h | h
          · exact h
          · have := HP.out.2.2 _ h hm; rw [hgm] at this; omega
        have hz1 : cmpI l[(lo + hi') / 2].x t = -1 := by unfold cmpI; rw [if_pos hxt]
        rw [hz1] at HC
        have HL := Lib.hid hlo
        clear hz1 hxt hgm hlo
        go_wp2_with (first | (go_at_call 95; with_reducible refine Calls.mono (HC.out _) ?_; rintro e w1 ⟨rfl, hb⟩; have hc := hb.ccell; have hf := hb.frz; have hs := hb.sz; (try simp at hs); (try have hs0 := hs w.heap.size (by omega)); (try have hs1 := hs (w.heap.size + 1) (by omega)); (try have hs2 := hs (w.heap.size + 1 + 1) (by omega)); (try have hs3 := hs (w.heap.size + 1 + 1 + 1) (by omega))))
        have hlo := HL.out
        exact ⟨⟨by (repeat (first | with_reducible exact Ext.rfl' _ | with_reducible assumption | with_reducible refine Ext.al ?_ _ | with_reducible refine Ext.dr ?_ | with_reducible refine Ext.st ?_ (by simp) _ | with_reducible refine Ext.tr ?_ (by assumption))), (lo + hi') / 2 + 1, hi', by omega, h2, h3, by go_num, rfl⟩, by simp [intOf]; omega⟩
      · have hlo : i ≤ (lo + hi') / 2 := by
          rcases Nat.lt_or_ge ((lo + hi') / 2) i with h | h
          · have := HP.out.2.1 _ h; rw [hgm] at this; omega
          · exact h
        have hz1 : ¬ cmpI l[(lo + hi') / 2].x t < 0 := by unfold cmpI; rw [if_neg hxt]; split <;> omega
        generalize cmpI l[(lo + hi') / 2].x t = z at HC hz1
        have HL := Lib.hid hlo
        clear hxt hgm hlo
        go_wp2_with (first | (go_at_call 95; with_reducible refine Calls.mono (HC.out _) ?_; rintro e w1 ⟨rfl, hb⟩; have hc := hb.ccell; have hf := hb.frz; have hs := hb.sz; (try simp at hs); (try have hs0 := hs w.heap.size (by omega)); (try have hs1 := hs (w.heap.size + 1) (by omega)); (try have hs2 := hs (w.heap.size + 1 + 1) (by omega)); (try have hs3 := hs (w.heap.size + 1 + 1 + 1) (by omega))))
        have hlo := HL.out
        exact ⟨⟨by (repeat (first | with_reducible exact Ext.rfl' _ | with_reducible assumption | with_reducible refine Ext.al ?_ _ | with_reducible refine Ext.dr ?_ | with_reducible refine Ext.st ?_ (by simp) _ | with_reducible refine Ext.tr ?_ (by assumption))), lo, (lo + hi') / 2, h1, by omega, by omega, rfl, by go_num⟩, by simp [intOf]; omega⟩
    · have e1 : lo = i := by omega
      have e2 : hi' = i := by omega
      subst e1 e2
      clear h1 h2
      by_cases hin : hi' < l.length
      · obtain ⟨b, off, rfl, hb0, hcell⟩ := hA.p2 hin
        have c := hcell _ hE
        clear hcell
        have hz := hE.sz _ hb0
        have HC := Lib.hid (fun w => meanCmp_c l[hi'].x l[hi'].y t w)
        have hf : foundB l t hi' = (cmpI l[hi'].x t == 0) := by
          unfold foundB
          rw [gt_lt l hi' hin, decide_eq_true hin, Bool.true_and, Bool.eq_iff_iff, decide_eq_true_eq, beq_iff_eq]
          unfold cmpI
          split
          · omega
          · split <;> omega
        have HF := Lib.hid hf
        clear hf
        generalize cmpI l[hi'].x t = z at HC HF
        go_wp2_with (first | (go_at_call 95; with_reducible refine Calls.mono (HC.out _) ?_; rintro e w1 ⟨rfl, hb⟩; have hc := hb.ccell; have hf := hb.frz; have hs := hb.sz; (try simp at hs); (try have hs0 := hs w.heap.size (by omega)); (try have hs1 := hs (w.heap.size + 1) (by omega)); (try have hs2 := hs (w.heap.size + 1 + 1) (by omega)); (try have hs3 := hs (w.heap.size + 1 + 1 + 1) (by omega))))
        go_ret2
        exact ⟨by rw [← HT.out, HF.out]; rfl, by (repeat (first | with_reducible exact Ext.rfl' _ | with_reducible assumption | with_reducible refine Ext.al ?_ _ | with_reducible refine Ext.dr ?_ | with_reducible refine Ext.st ?_ (by simp) _ | with_reducible refine Ext.tr ?_ (by assumption)))⟩
      · have hf : foundB l t hi' = false := by unfold foundB; rw [decide_eq_false hin]; rfl
        have HF := Lib.hid hf
        clear hf
        go_wp2
        go_ret2
        exact ⟨by rw [← HT.out, HF.out]; rfl, by (repeat (first | with_reducible exact Ext.rfl' _ | with_reducible assumption | with_reducible refine Ext.al ?_ _ | with_reducible refine Ext.dr ?_ | with_reducible refine Ext.st ?_ (by simp) _ | with_reducible refine Ext.tr ?_ (by assumption)))⟩
end Go.Proofs.Ytmhmfjgahhgbpaa

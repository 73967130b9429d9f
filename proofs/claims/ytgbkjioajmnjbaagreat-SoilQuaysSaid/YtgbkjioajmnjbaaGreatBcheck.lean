/- Contracts of Check and of the reference's Check. -/
import Derived.Test.YtgbkjioajmnjbaaGreatBleaf
namespace Go.Proofs.YtgbkjioajmnjbaaGreat
open Go Go.RowKit Go.IntWalk

theorem mulp {a b M N : Int} (h0 : 1 ≤ a) (h1 : a ≤ M) (h2 : 1 ≤ b) (h3 : b ≤ N) : 1 ≤ a * b ∧ a * b ≤ M * N := by
  have e1 : 1 * 1 ≤ a * b := Int.mul_le_mul h0 h2 (by omega) (by omega)
  have e2 : a * b ≤ M * N := Int.mul_le_mul h1 h3 (by omega) (by omega)
  omega
set_option maxHeartbeats 4000000 in
theorem check_c (g : Gr) (w : World) (A : Option Addr) (c : Nat) (hl : g.L.length ≤ maxLen) (hA : Row 1 encZ w A g.L) :
    Calls Tryz.prog 42 #[.agg #[.int .i64 g.X, .int .i64 g.Y, .int .i64 g.S, .int .i64 g.C, .int .i64 g.R, .slice A g.L.length c]] w fun e w' => e = .returned (.int .i64 (chkG g)) ∧ Ext w w' := by
  unfold maxLen at hl
  have HP := Lib.hid (fun w => isPlace_c g.X g.Y w)
  have HS := Lib.hid (fun w => bwithin_c g.S 100 10000 w)
  have HC := Lib.hid (fun w => bwithin_c g.C 1 1024 w)
  have HR := Lib.hid (fun w => bwithin_c g.R 1 1024 w)
  unfold chkG headB
  cases hp : plB g.X g.Y
  · rw [hp] at HP
    rw [if_pos (by rfl)]
    clear hp
    go_enter Tryz.func42, Tryz.ntmps42
    go_wp2_with (first | (go_at_call 61; with_reducible refine Calls.mono (HP.out _) ?_; rintro e w' ⟨rfl, rfl⟩))
    go_ret; exact ⟨rfl, by (repeat (first | with_reducible exact Ext.rfl' _ | with_reducible assumption | with_reducible refine Ext.al ?_ _ | with_reducible refine Ext.dr ?_ | with_reducible refine Ext.st ?_ (by simp) _ | with_reducible refine Ext.tr ?_ (by assumption)))⟩
  rw [hp] at HP
  cases hs : withinB g.S 100 10000
  · rw [hs] at HS
    rw [if_pos (by rfl)]
    clear hp hs
    go_enter Tryz.func42, Tryz.ntmps42
    go_wp2_with (first | (go_at_call 61; with_reducible refine Calls.mono (HP.out _) ?_; rintro e w' ⟨rfl, rfl⟩) | (go_at_call 62; with_reducible refine Calls.mono (HS.out _) ?_; rintro e w' ⟨rfl, rfl⟩))
    go_ret; exact ⟨rfl, by (repeat (first | with_reducible exact Ext.rfl' _ | with_reducible assumption | with_reducible refine Ext.al ?_ _ | with_reducible refine Ext.dr ?_ | with_reducible refine Ext.st ?_ (by simp) _ | with_reducible refine Ext.tr ?_ (by assumption)))⟩
  rw [hs] at HS
  cases hc : withinB g.C 1 1024
  · rw [hc] at HC
    rw [if_pos (by rfl)]
    clear hp hs hc
    go_enter Tryz.func42, Tryz.ntmps42
    go_wp2_with (first | (go_at_call 61; with_reducible refine Calls.mono (HP.out _) ?_; rintro e w' ⟨rfl, rfl⟩) | (go_at_call 62; with_reducible refine Calls.mono (HS.out _) ?_; rintro e w' ⟨rfl, rfl⟩) | (go_at_call 62; with_reducible refine Calls.mono (HC.out _) ?_; rintro e w' ⟨rfl, rfl⟩))
    go_ret; exact ⟨rfl, by (repeat (first | with_reducible exact Ext.rfl' _ | with_reducible assumption | with_reducible refine Ext.al ?_ _ | with_reducible refine Ext.dr ?_ | with_reducible refine Ext.st ?_ (by simp) _ | with_reducible refine Ext.tr ?_ (by assumption)))⟩
  rw [hc] at HC
  cases hr : withinB g.R 1 1024
  · rw [hr] at HR
    rw [if_pos (by rfl)]
    clear hp hs hc hr
    go_enter Tryz.func42, Tryz.ntmps42
    go_wp2_with (first | (go_at_call 61; with_reducible refine Calls.mono (HP.out _) ?_; rintro e w' ⟨rfl, rfl⟩) | (go_at_call 62; with_reducible refine Calls.mono (HS.out _) ?_; rintro e w' ⟨rfl, rfl⟩) | (go_at_call 62; with_reducible refine Calls.mono (HC.out _) ?_; rintro e w' ⟨rfl, rfl⟩) | (go_at_call 62; with_reducible refine Calls.mono (HR.out _) ?_; rintro e w' ⟨rfl, rfl⟩))
    go_ret; exact ⟨rfl, by (repeat (first | with_reducible exact Ext.rfl' _ | with_reducible assumption | with_reducible refine Ext.al ?_ _ | with_reducible refine Ext.dr ?_ | with_reducible refine Ext.st ?_ (by simp) _ | with_reducible refine Ext.tr ?_ (by assumption)))⟩
  rw [hr] at HR
  rw [if_neg (by decide)]
  have hd : headB g = true := by unfold headB; rw [hp, hs, hc, hr]; rfl
  obtain ⟨⟨⟨a1, a2⟩, a3, a4⟩, ⟨a5, a6⟩, ⟨a7, a8⟩, a9, a10⟩ := (headB_iff g).1 hd
  obtain ⟨p1, p2⟩ := mulp a7 a8 a9 a10
  obtain ⟨p3, p4⟩ := mulp a7 a8 (show 1 ≤ g.S by omega) a6
  obtain ⟨p5, p6⟩ := mulp a9 a10 (show 1 ≤ g.S by omega) a6
  have p2 : g.C * g.R ≤ 1048576 := p2
  have p4 : g.C * g.S ≤ 10240000 := p4
  have p6 : g.R * g.S ≤ 10240000 := p6
  clear hp hs hc hr hd
  by_cases h2 : 1024 < g.C * g.R
  · rw [if_pos h2]
    go_enter Tryz.func42, Tryz.ntmps42
    go_wp2_with (first | (go_at_call 61; with_reducible refine Calls.mono (HP.out _) ?_; rintro e w' ⟨rfl, rfl⟩) | (go_at_call 62; with_reducible refine Calls.mono (HS.out _) ?_; rintro e w' ⟨rfl, rfl⟩) | (go_at_call 62; with_reducible refine Calls.mono (HC.out _) ?_; rintro e w' ⟨rfl, rfl⟩) | (go_at_call 62; with_reducible refine Calls.mono (HR.out _) ?_; rintro e w' ⟨rfl, rfl⟩))
    go_ret; exact ⟨rfl, by (repeat (first | with_reducible exact Ext.rfl' _ | with_reducible assumption | with_reducible refine Ext.al ?_ _ | with_reducible refine Ext.dr ?_ | with_reducible refine Ext.st ?_ (by simp) _ | with_reducible refine Ext.tr ?_ (by assumption)))⟩
  rw [if_neg h2]
  by_cases h3 : 1000000 < g.X + g.C * g.S
  · rw [if_pos (.inl h3)]
    go_enter Tryz.func42, Tryz.ntmps42
    go_wp2_with (first | (go_at_call 61; with_reducible refine Calls.mono (HP.out _) ?_; rintro e w' ⟨rfl, rfl⟩) | (go_at_call 62; with_reducible refine Calls.mono (HS.out _) ?_; rintro e w' ⟨rfl, rfl⟩) | (go_at_call 62; with_reducible refine Calls.mono (HC.out _) ?_; rintro e w' ⟨rfl, rfl⟩) | (go_at_call 62; with_reducible refine Calls.mono (HR.out _) ?_; rintro e w' ⟨rfl, rfl⟩))
    go_ret; exact ⟨rfl, by (repeat (first | with_reducible exact Ext.rfl' _ | with_reducible assumption | with_reducible refine Ext.al ?_ _ | with_reducible refine Ext.dr ?_ | with_reducible refine Ext.st ?_ (by simp) _ | with_reducible refine Ext.tr ?_ (by assumption)))⟩
  by_cases h4 : 1000000 < g.Y + g.R * g.S
  · rw [if_pos (.inr h4)]
    go_enter Tryz.func42, Tryz.ntmps42
    go_wp2_with (first | (go_at_call 61; with_reducible refine Calls.mono (HP.out _) ?_; rintro e w' ⟨rfl, rfl⟩) | (go_at_call 62; with_reducible refine Calls.mono (HS.out _) ?_; rintro e w' ⟨rfl, rfl⟩) | (go_at_call 62; with_reducible refine Calls.mono (HC.out _) ?_; rintro e w' ⟨rfl, rfl⟩) | (go_at_call 62; with_reducible refine Calls.mono (HR.out _) ?_; rintro e w' ⟨rfl, rfl⟩))
    go_ret; exact ⟨rfl, by (repeat (first | with_reducible exact Ext.rfl' _ | with_reducible assumption | with_reducible refine Ext.al ?_ _ | with_reducible refine Ext.dr ?_ | with_reducible refine Ext.st ?_ (by simp) _ | with_reducible refine Ext.tr ?_ (by assumption)))⟩
  rw [if_neg (by omega)]
  by_cases h5 : (g.L.length : Int) = g.C * g.R
  case neg =>
    rw [if_pos h5]
    have h5' : ((g.L.length : Int) != g.C * g.R) = true := by rw [bne_iff_ne]; exact h5
    go_enter Tryz.func42, Tryz.ntmps42
    go_wp2_with (first | (go_at_call 61; with_reducible refine Calls.mono (HP.out _) ?_; rintro e w' ⟨rfl, rfl⟩) | (go_at_call 62; with_reducible refine Calls.mono (HS.out _) ?_; rintro e w' ⟨rfl, rfl⟩) | (go_at_call 62; with_reducible refine Calls.mono (HC.out _) ?_; rintro e w' ⟨rfl, rfl⟩) | (go_at_call 62; with_reducible refine Calls.mono (HR.out _) ?_; rintro e w' ⟨rfl, rfl⟩))
    go_ret; exact ⟨rfl, by (repeat (first | with_reducible exact Ext.rfl' _ | with_reducible assumption | with_reducible refine Ext.al ?_ _ | with_reducible refine Ext.dr ?_ | with_reducible refine Ext.st ?_ (by simp) _ | with_reducible refine Ext.tr ?_ (by assumption)))⟩
  rw [if_neg (by omega)]
  obtain ⟨E, hE0⟩ : ∃ E : Int, (if anyN (badL g.L) g.L.length = true then 2 else 0) = E := ⟨_, rfl⟩
  rw [hE0]
  have HT := Lib.hid hE0
  clear hE0
  have h5' : ((g.L.length : Int) != g.C * g.R) = false := by rw [bne_eq_false_iff_eq]; exact h5
  have H5 := Lib.hid h5
  have hn : g.L.length ≤ 1024 := by omega
  clear h5
  go_enter Tryz.func42, Tryz.ntmps42
  go_wp2_with (first | (go_at_call 61; with_reducible refine Calls.mono (HP.out _) ?_; rintro e w' ⟨rfl, rfl⟩) | (go_at_call 62; with_reducible refine Calls.mono (HS.out _) ?_; rintro e w' ⟨rfl, rfl⟩) | (go_at_call 62; with_reducible refine Calls.mono (HC.out _) ?_; rintro e w' ⟨rfl, rfl⟩) | (go_at_call 62; with_reducible refine Calls.mono (HR.out _) ?_; rintro e w' ⟨rfl, rfl⟩))
  have hEp : Ext w (w.alloc (.cells #[.int .i64 g.X, .int .i64 g.Y, .int .i64 g.S, .int .i64 g.C, .int .i64 g.R, .slice A g.L.length c] 28)) := by (repeat (first | with_reducible exact Ext.rfl' _ | with_reducible assumption | with_reducible refine Ext.al ?_ _ | with_reducible refine Ext.dr ?_ | with_reducible refine Ext.st ?_ (by simp) _ | with_reducible refine Ext.tr ?_ (by assumption)))
  generalize w.alloc (.cells #[.int .i64 g.X, .int .i64 g.Y, .int .i64 g.S, .int .i64 g.C, .int .i64 g.R, .slice A g.L.length c] 28) = wp at *
  go_loopw [4, 67] (fun _ i wr => Ext wp wr ∧ ∃ k : Nat, k ≤ g.L.length ∧ i = .int .i64 k ∧ Hid (anyN (badL g.L) k = false)) (fun _ i _ => g.L.length - (intOf i).toNat)
  case atStart => exact ⟨Ext.rfl' _, 0, Nat.zero_le _, rfl, rfl⟩
  case round =>
    obtain ⟨hr, k, hk, rfl, hF⟩ := hrel
    have hE : Ext w wr := hEp.tr hr
    by_cases hlt : k < g.L.length
    · obtain ⟨b, off, rfl, hb0, hcell⟩ := hA.p1 hlt
      have c := hcell _ hE
      clear hcell
      have hz := hE.sz _ hb0
      have hg := gi_lt g.L k hlt
      obtain ⟨v, hv⟩ : ∃ v, g.L[k] = v := ⟨_, rfl⟩
      rw [hv] at c hg
      have HG := Lib.hid hg
      clear hv hg
      have HL := Lib.hid (fun w => isLevel_c v w)
      by_cases hu : v = 30000
      · have HB : Hid (badL g.L k = false) := Lib.hid (badL_no.2 (.inl (by rw [HG.out]; exact hu)))
        subst hu
        go_wp2
        exact ⟨⟨by (repeat (first | with_reducible exact Ext.rfl' _ | with_reducible assumption | with_reducible refine Ext.al ?_ _ | with_reducible refine Ext.dr ?_ | with_reducible refine Ext.st ?_ (by simp) _ | with_reducible refine Ext.tr ?_ (by assumption))), k + 1, by omega, by go_num, (by show anyN _ (k + 1) = false; rw [anyN, hF.out, HB.out]; rfl)⟩, by simp [intOf]; omega⟩
      · have hu1 : (v != 30000) = true := by rw [bne_iff_ne]; exact hu
        cases hv : lvB v
        · rw [hv] at HL
          have HB : Hid (badL g.L k = true) := Lib.hid (by unfold badL; rw [HG.out, hv, decide_eq_true hu]; rfl)
          have HE : Hid ((2 : Int) = E) := Lib.hid (by rw [← HT.out, anyN_at _ hlt HB.out]; rfl)
          clear hv hu
          go_wp2_with (first | (go_at_call 63; with_reducible refine Calls.mono (HL.out _) ?_; rintro e w' ⟨rfl, rfl⟩))
          go_ret
          exact ⟨ret_int HE.out, by (repeat (first | with_reducible exact Ext.rfl' _ | with_reducible assumption | with_reducible refine Ext.al ?_ _ | with_reducible refine Ext.dr ?_ | with_reducible refine Ext.st ?_ (by simp) _ | with_reducible refine Ext.tr ?_ (by assumption)))⟩
        · rw [hv] at HL
          have HB : Hid (badL g.L k = false) := Lib.hid (by unfold badL; rw [HG.out, hv]; simp)
          clear hv hu
          go_wp2_with (first | (go_at_call 63; with_reducible refine Calls.mono (HL.out _) ?_; rintro e w' ⟨rfl, rfl⟩))
          exact ⟨⟨by (repeat (first | with_reducible exact Ext.rfl' _ | with_reducible assumption | with_reducible refine Ext.al ?_ _ | with_reducible refine Ext.dr ?_ | with_reducible refine Ext.st ?_ (by simp) _ | with_reducible refine Ext.tr ?_ (by assumption))), k + 1, by omega, by go_num, (by show anyN _ (k + 1) = false; rw [anyN, hF.out, HB.out]; rfl)⟩, by simp [intOf]; omega⟩
    · have hks : k = g.L.length := by omega
      have hT := HT.out
      rw [← hks, hF.out] at hT
      have HT2 := Lib.hid hT
      clear hT hF
      go_wp2
      go_ret
      exact ⟨ret_int HT2.out, by (repeat (first | with_reducible exact Ext.rfl' _ | with_reducible assumption | with_reducible refine Ext.al ?_ _ | with_reducible refine Ext.dr ?_ | with_reducible refine Ext.st ?_ (by simp) _ | with_reducible refine Ext.tr ?_ (by assumption)))⟩
end Go.Proofs.YtgbkjioajmnjbaaGreat

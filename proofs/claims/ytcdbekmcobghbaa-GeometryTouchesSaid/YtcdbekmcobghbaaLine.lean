/- Contracts of the functions on lines. -/
import Derived.Test.YtcdbekmcobghbaaPts2
namespace Go.Proofs.Ytcdbekmcobghbaa
open Go Go.RowKit

def spanG (a b : Pt) : Int := rootW 3000000 (if allGood [a, b] then dotW a b b else 0)
def spanR (a b : Pt) : Int := rootW 4000000 (dotW a b b)

theorem gspan_c (ax ay bx by_ : Int) (w : World) :
    Calls Try.prog 23 #[.agg #[.int .i64 ax, .int .i64 ay], .agg #[.int .i64 bx, .int .i64 by_]] w
      fun e w' => e = .returned (.int .i64 (spanG ⟨ax, ay⟩ ⟨bx, by_⟩)) ∧ Ext w w' := by
  unfold spanG
  generalize hr : (if allGood [⟨ax, ay⟩, ⟨bx, by_⟩] then dotW ⟨ax, ay⟩ ⟨bx, by_⟩ ⟨bx, by_⟩ else 0) = r
  have hr' := Lib.hid hr; clear hr
  go_enter Try.func23, Try.ntmps23
  go_wp2_with (first | (go_at_call 22; refine Calls.mono ((hr'.out ▸ gsquare_c _ _ _ _ _)) ?_; rintro e w1 ⟨rfl, hb⟩; have hc := hb.ccell; have hf := hb.frz; have hs := hb.sz; (try simp at hs); (try have hs0 := hs w.heap.size (by omega)); (try have hs1 := hs (w.heap.size + 1) (by omega)); (try have hs2 := hs (w.heap.size + 1 + 1) (by omega)); (try have hs3 := hs (w.heap.size + 1 + 1 + 1) (by omega))) | (go_at_call 77; refine Calls.mono (rootUp_c _ _) ?_; rintro e w' ⟨rfl, rfl⟩))
  go_ret
  exact ⟨rfl, by (repeat (first | with_reducible exact Ext.rfl' _ | with_reducible assumption | with_reducible refine Ext.al ?_ _ | with_reducible refine Ext.dr ?_ | with_reducible refine Ext.st ?_ (by simp) _ | with_reducible refine Ext.tr ?_ (by assumption)))⟩

theorem rspan_c (ax ay bx by_ : Int) (w : World) :
    Calls Try.prog 26 #[.agg #[.int .i64 ax, .int .i64 ay], .agg #[.int .i64 bx, .int .i64 by_]] w
      fun e w' => e = .returned (.int .i64 (spanR ⟨ax, ay⟩ ⟨bx, by_⟩)) ∧ Ext w w' := by
  unfold spanR
  generalize hn : dotW ⟨ax, ay⟩ ⟨bx, by_⟩ ⟨bx, by_⟩ = n
  have HN := Lib.hid hn; clear hn
  go_enter Try.func26, Try.ntmps26
  go_wp2
  refine wp_name (fun W hW => ?_)
  have hE : Ext w W := by rw [hW]; (repeat (first | with_reducible exact Ext.rfl' _ | with_reducible assumption | with_reducible refine Ext.al ?_ _ | with_reducible refine Ext.dr ?_ | with_reducible refine Ext.st ?_ (by simp) _ | with_reducible refine Ext.tr ?_ (by assumption)))
  have HW := Lib.hid hW
  clear hW
  go_loopw [5, 6, 7] (fun l h _ wr => Ext W wr ∧ ∃ (low high : Int), l = .int .i64 low ∧ h = .int .i64 high ∧ 0 ≤ low ∧ low ≤ high ∧ high ≤ 4000000 ∧ Hid ((low = 0 ∨ (low - 1) * (low - 1) < n) ∧ (high = 4000000 ∨ n ≤ high * high))) (fun l h _ _ => (intOf h - intOf l).toNat)
  case atStart => exact ⟨Ext.rfl' _, 0, 4000000, rfl, rfl, by omega, by omega, by omega, .inl rfl, .inl rfl⟩
  case round =>
    obtain ⟨hr, low, high, rfl, rfl, h0, h1, h2, h3⟩ := hrel
    have hc := hr.ccell
    have hf := hr.frz
    have hs := hr.sz
    rw [HW.out] at hc hf hs
    (try simp at hs); (try have hs0 := hs w.heap.size (by omega)); (try have hs1 := hs (w.heap.size + 1) (by omega)); (try have hs2 := hs (w.heap.size + 1 + 1) (by omega)); (try have hs3 := hs (w.heap.size + 1 + 1 + 1) (by omega))
    by_cases hlt : low < high
    · have hsq := Lib.hid (sq_cap (m := (low + high) / 2) (by omega) (by omega))
      go_wp2_with (first | (go_at_call 25; refine Calls.mono ((HN.out ▸ rsquare_c _ _ _ _ _)) ?_; rintro e w1 ⟨rfl, hb⟩; have hc := hb.ccell; have hf := hb.frz; have hs := hb.sz; (try simp at hs); (try have hs0 := hs w.heap.size (by omega)); (try have hs1 := hs (w.heap.size + 1) (by omega)); (try have hs2 := hs (w.heap.size + 1 + 1) (by omega)); (try have hs3 := hs (w.heap.size + 1 + 1 + 1) (by omega))))
      · refine ⟨⟨by (repeat (first | with_reducible exact Ext.rfl' _ | with_reducible assumption | with_reducible refine Ext.al ?_ _ | with_reducible refine Ext.dr ?_ | with_reducible refine Ext.st ?_ (by simp) _ | with_reducible refine Ext.tr ?_ (by assumption))), _, _, rfl, rfl, by omega, by omega, by omega, h3.out.1, .inr ?_⟩, by simp [intOf]; omega⟩
        rw [← hsq.out]; assumption
      · refine ⟨⟨by (repeat (first | with_reducible exact Ext.rfl' _ | with_reducible assumption | with_reducible refine Ext.al ?_ _ | with_reducible refine Ext.dr ?_ | with_reducible refine Ext.st ?_ (by simp) _ | with_reducible refine Ext.tr ?_ (by assumption))), _, _, rfl, rfl, by omega, by omega, by omega, .inr ?_, h3.out.2⟩, by simp [intOf]; omega⟩
        rw [show (low + high) / 2 + 1 - 1 = (low + high) / 2 by omega, ← hsq.out]; assumption
    · go_wp2
      go_ret
      refine ⟨ret_int (rootW_eq (by omega) (by omega) ⟨h0, by omega, h3.out.1, ?_⟩), hE.tr hr⟩
      obtain rfl : high = low := by omega
      exact h3.out.2

theorem offset_c (ax ay bx by_ cx cy : Int) (w : World) (hs : spanG ⟨ax, ay⟩ ⟨bx, by_⟩ ≠ 0) :
    Calls Try.prog 81 #[.agg #[.int .i64 ax, .int .i64 ay], .agg #[.int .i64 bx, .int .i64 by_], .agg #[.int .i64 cx, .int .i64 cy]] w
      fun e w' => e = .returned (.int .i64 (wrap64 ((sizeW (crossW ⟨ax, ay⟩ ⟨bx, by_⟩ ⟨cx, cy⟩)).tdiv (spanG ⟨ax, ay⟩ ⟨bx, by_⟩)))) ∧ Ext w w' := by
  go_enter Try.func81, Try.ntmps81
  go_wp2_with fail
  refine region_grow (by kernel_rfl) (by kernel_rfl) ?_
  repeat (first | go_big_quiet_step (first | (go_at_call 74; exact callsGrow (cross_c _ _ _ _ _ _ _)) | (go_at_call 23; exact callsGrow (gspan_c _ _ _ _ _)) | (go_at_call 90; exact callsStay (size_c _ _)) | fail) | quiet_step (first | (go_at_call 74; exact callsGrow (cross_c _ _ _ _ _ _ _)) | (go_at_call 23; exact callsGrow (gspan_c _ _ _ _ _)) | (go_at_call 90; exact callsStay (size_c _ _)) | fail))
  refine wpQuiet_nil ?_
  intro w1 hb
  have hc := hb.ccell
  have hf := hb.frz
  have hs := hb.sz
  (try simp at hs); (try have hs0 := hs w.heap.size (by omega)); (try have hs1 := hs (w.heap.size + 1) (by omega)); (try have hs2 := hs (w.heap.size + 1 + 1) (by omega)); (try have hs3 := hs (w.heap.size + 1 + 1 + 1) (by omega))
  (try simp only [IntWalk.i64_left])
  go_wp2
  go_ret
  exact ⟨rfl, by (repeat (first | with_reducible exact Ext.rfl' _ | with_reducible assumption | with_reducible refine Ext.al ?_ _ | with_reducible refine Ext.dr ?_ | with_reducible refine Ext.st ?_ (by simp) _ | with_reducible refine Ext.tr ?_ (by assumption)))⟩
end Go.Proofs.Ytcdbekmcobghbaa

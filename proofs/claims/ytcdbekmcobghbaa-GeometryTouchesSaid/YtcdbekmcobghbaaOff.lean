/- Contracts of the offsets and the places along a line. -/
import Derived.Test.YtcdbekmcobghbaaLine
namespace Go.Proofs.Ytcdbekmcobghbaa
open Go Go.RowKit Go.IntWalk

def lineE (a b p : Pt) : Int := if !allGood [a, b, p] then 2 else if decide (a = b) then 11 else 0
theorem lineE_bad {a b p : Pt} (h : allGood [a, b, p] = false) : lineE a b p = 2 := by simp [lineE, h]
theorem lineE_one {a p : Pt} (h : allGood [a, a, p] = true) : lineE a a p = 11 := by simp [lineE, h]
theorem lineE_ok {a b p : Pt} (h : allGood [a, b, p] = true) (hne : a ≠ b) : lineE a b p = 0 := by simp [lineE, h, hne]

theorem checkLine_c (ax ay bx by_ cx cy : Int) (w : World) :
    Calls Try.prog 80 #[.agg #[.int .i64 ax, .int .i64 ay], .agg #[.int .i64 bx, .int .i64 by_], .agg #[.int .i64 cx, .int .i64 cy]] w
      fun e w' => e = .returned (.int .i64 (lineE ⟨ax, ay⟩ ⟨bx, by_⟩ ⟨cx, cy⟩)) ∧ Ext w w' := by
  cases h1 : allGood [⟨ax, ay⟩, ⟨bx, by_⟩, ⟨cx, cy⟩]
  · rw [lineE_bad h1]
    go_enter Try.func80, Try.ntmps80
    go_wp2_with (first | (go_at_call 73; refine Calls.mono (inRange3_c _ _ _ _ _ _ _ _ _ _ ?_) ?_; (focus simp); rintro e w1 ⟨rfl, hb⟩; have hc := hb.ccell; have hf := hb.frz; have hs := hb.sz; (try simp at hs); (try have hs0 := hs w.heap.size (by omega)); (try have hs1 := hs (w.heap.size + 1) (by omega)); (try have hs2 := hs (w.heap.size + 1 + 1) (by omega)); (try have hs3 := hs (w.heap.size + 1 + 1 + 1) (by omega))))
    go_ret
    exact ⟨rfl, by (repeat (first | with_reducible exact Ext.rfl' _ | with_reducible assumption | with_reducible refine Ext.al ?_ _ | with_reducible refine Ext.dr ?_ | with_reducible refine Ext.st ?_ (by simp) _ | with_reducible refine Ext.tr ?_ (by assumption)))⟩
  by_cases hx : ax = bx
  · subst hx
    by_cases hy : ay = by_
    · subst hy
      rw [lineE_one h1]
      go_enter Try.func80, Try.ntmps80
      go_wp2_with (first | (go_at_call 73; refine Calls.mono (inRange3_c _ _ _ _ _ _ _ _ _ _ ?_) ?_; (focus simp); rintro e w1 ⟨rfl, hb⟩; have hc := hb.ccell; have hf := hb.frz; have hs := hb.sz; (try simp at hs); (try have hs0 := hs w.heap.size (by omega)); (try have hs1 := hs (w.heap.size + 1) (by omega)); (try have hs2 := hs (w.heap.size + 1 + 1) (by omega)); (try have hs3 := hs (w.heap.size + 1 + 1 + 1) (by omega))))
      go_ret
      exact ⟨rfl, by (repeat (first | with_reducible exact Ext.rfl' _ | with_reducible assumption | with_reducible refine Ext.al ?_ _ | with_reducible refine Ext.dr ?_ | with_reducible refine Ext.st ?_ (by simp) _ | with_reducible refine Ext.tr ?_ (by assumption)))⟩
    · rw [lineE_ok h1 (by simpa using hy)]
      go_enter Try.func80, Try.ntmps80
      go_wp2_with (first | (go_at_call 73; refine Calls.mono (inRange3_c _ _ _ _ _ _ _ _ _ _ ?_) ?_; (focus simp); rintro e w1 ⟨rfl, hb⟩; have hc := hb.ccell; have hf := hb.frz; have hs := hb.sz; (try simp at hs); (try have hs0 := hs w.heap.size (by omega)); (try have hs1 := hs (w.heap.size + 1) (by omega)); (try have hs2 := hs (w.heap.size + 1 + 1) (by omega)); (try have hs3 := hs (w.heap.size + 1 + 1 + 1) (by omega))))
      go_ret
      exact ⟨rfl, by (repeat (first | with_reducible exact Ext.rfl' _ | with_reducible assumption | with_reducible refine Ext.al ?_ _ | with_reducible refine Ext.dr ?_ | with_reducible refine Ext.st ?_ (by simp) _ | with_reducible refine Ext.tr ?_ (by assumption)))⟩
  · rw [lineE_ok h1 (by simp [hx])]
    go_enter Try.func80, Try.ntmps80
    go_wp2_with (first | (go_at_call 73; refine Calls.mono (inRange3_c _ _ _ _ _ _ _ _ _ _ ?_) ?_; (focus simp); rintro e w1 ⟨rfl, hb⟩; have hc := hb.ccell; have hf := hb.frz; have hs := hb.sz; (try simp at hs); (try have hs0 := hs w.heap.size (by omega)); (try have hs1 := hs (w.heap.size + 1) (by omega)); (try have hs2 := hs (w.heap.size + 1 + 1) (by omega)); (try have hs3 := hs (w.heap.size + 1 + 1 + 1) (by omega))))
    go_ret
    exact ⟨rfl, by (repeat (first | with_reducible exact Ext.rfl' _ | with_reducible assumption | with_reducible refine Ext.al ?_ _ | with_reducible refine Ext.dr ?_ | with_reducible refine Ext.st ?_ (by simp) _ | with_reducible refine Ext.tr ?_ (by assumption)))⟩

def offV (a b p : Pt) : Int := if lineE a b p = 0 then wrap64 ((sizeW (crossW a b p)).tdiv (spanG a b)) else 0
def alongV (a b p : Pt) : Int := if lineE a b p = 0 then dotW a b p / spanG a b else 0

/-- The span of two different points in range. -/
theorem spanG_pos {a b : Pt} (ha : good a = true) (hb : good b = true) (hne : a ≠ b) : 0 < spanG a b ∧ spanG a b ≤ 3000000 := by
  unfold spanG
  rw [show allGood [a, b] = true by simp [allGood, ha, hb], if_pos rfl, dotW_good ha hb hb]
  obtain ⟨r0, r1, r2, r3⟩ := rootW_spec (cap := 3000000) (dotZ a b b) (by omega) (by omega)
  refine ⟨?_, r1⟩
  rcases Int.lt_or_le 0 (rootW 3000000 (dotZ a b b)) with h | h
  · exact h
  · exfalso
    have h0 : rootW 3000000 (dotZ a b b) = 0 := by omega
    rw [h0] at r3
    have hz : dotZ a b b ≤ 0 := by omega
    unfold dotZ at hz
    have s1 := sq_nonneg (b.x - a.x)
    have s2 := sq_nonneg (b.y - a.y)
    have e1 : (b.x - a.x) * (b.x - a.x) = 0 := by omega
    have e2 : (b.y - a.y) * (b.y - a.y) = 0 := by omega
    rw [Int.mul_eq_zero, or_self] at e1 e2
    apply hne
    cases a; cases b
    simp at e1 e2
    simp; omega
theorem quot_bound {n m : Int} (h0 : 0 < m) (h1 : -8000000000000 ≤ n) (h2 : n ≤ 8000000000000) : -8000000000000 ≤ n / m ∧ n / m ≤ 8000000000000 := by
  constructor
  · exact Int.le_ediv_of_mul_le h0 (by omega)
  · have := Int.ediv_lt_of_lt_mul (a := n) (b := 8000000000001) h0 (by omega)
    omega

theorem goffset_c (ax ay bx by_ cx cy : Int) (w : World) :
    Calls Try.prog 29 #[.agg #[.int .i64 ax, .int .i64 ay], .agg #[.int .i64 bx, .int .i64 by_], .agg #[.int .i64 cx, .int .i64 cy]] w
      fun e w' => e = .returned (.tuple #[.int .i64 (offV ⟨ax, ay⟩ ⟨bx, by_⟩ ⟨cx, cy⟩), .int .i64 (lineE ⟨ax, ay⟩ ⟨bx, by_⟩ ⟨cx, cy⟩)]) ∧ Ext w w' := by
  have hL := fun w => checkLine_c ax ay bx by_ cx cy w
  have HL := Lib.hid hL
  clear hL
  by_cases h : lineE ⟨ax, ay⟩ ⟨bx, by_⟩ ⟨cx, cy⟩ = 0
  · have hs : spanG ⟨ax, ay⟩ ⟨bx, by_⟩ ≠ 0 := by
      cases hG : allGood [⟨ax, ay⟩, ⟨bx, by_⟩, ⟨cx, cy⟩]
      · rw [lineE_bad hG] at h; omega
      · by_cases hne : (⟨ax, ay⟩ : Pt) = ⟨bx, by_⟩
        · rw [← hne] at h hG; rw [lineE_one hG] at h; omega
        · simp [allGood] at hG
          have := spanG_pos hG.1 hG.2.1 hne
          omega
    rw [h] at HL
    have HO := Lib.hid (fun w => offset_c ax ay bx by_ cx cy w hs)
    unfold offV
    rw [if_pos h, h]
    generalize wrap64 ((sizeW (crossW ⟨ax, ay⟩ ⟨bx, by_⟩ ⟨cx, cy⟩)).tdiv (spanG ⟨ax, ay⟩ ⟨bx, by_⟩)) = r at HO ⊢
    clear h hs
    go_enter Try.func29, Try.ntmps29
    go_wp2_with (first | (go_at_call 80; refine Calls.mono (HL.out _) ?_; rintro e w1 ⟨rfl, hb⟩; have hc := hb.ccell; have hf := hb.frz; have hs := hb.sz; (try simp at hs); (try have hs0 := hs w.heap.size (by omega)); (try have hs1 := hs (w.heap.size + 1) (by omega)); (try have hs2 := hs (w.heap.size + 1 + 1) (by omega)); (try have hs3 := hs (w.heap.size + 1 + 1 + 1) (by omega))) | (go_at_call 81; refine Calls.mono (HO.out _) ?_; rintro e w1 ⟨rfl, hb⟩; have hc := hb.ccell; have hf := hb.frz; have hs := hb.sz; (try simp at hs); (try have hs0 := hs w.heap.size (by omega)); (try have hs1 := hs (w.heap.size + 1) (by omega)); (try have hs2 := hs (w.heap.size + 1 + 1) (by omega)); (try have hs3 := hs (w.heap.size + 1 + 1 + 1) (by omega))))
    go_ret2
    exact ⟨rfl, by (repeat (first | with_reducible exact Ext.rfl' _ | with_reducible assumption | with_reducible refine Ext.al ?_ _ | with_reducible refine Ext.dr ?_ | with_reducible refine Ext.st ?_ (by simp) _ | with_reducible refine Ext.tr ?_ (by assumption)))⟩
  · unfold offV
    rw [if_neg h]
    generalize lineE ⟨ax, ay⟩ ⟨bx, by_⟩ ⟨cx, cy⟩ = r at HL h ⊢
    have h' : (r == 0) = false := by simp [h]
    go_enter Try.func29, Try.ntmps29
    go_wp2_with (first | (go_at_call 80; refine Calls.mono (HL.out _) ?_; rintro e w1 ⟨rfl, hb⟩; have hc := hb.ccell; have hf := hb.frz; have hs := hb.sz; (try simp at hs); (try have hs0 := hs w.heap.size (by omega)); (try have hs1 := hs (w.heap.size + 1) (by omega)); (try have hs2 := hs (w.heap.size + 1 + 1) (by omega)); (try have hs3 := hs (w.heap.size + 1 + 1 + 1) (by omega))))
    go_ret2
    exact ⟨rfl, by (repeat (first | with_reducible exact Ext.rfl' _ | with_reducible assumption | with_reducible refine Ext.al ?_ _ | with_reducible refine Ext.dr ?_ | with_reducible refine Ext.st ?_ (by simp) _ | with_reducible refine Ext.tr ?_ (by assumption)))⟩

theorem galong_c (ax ay bx by_ cx cy : Int) (w : World) :
    Calls Try.prog 30 #[.agg #[.int .i64 ax, .int .i64 ay], .agg #[.int .i64 bx, .int .i64 by_], .agg #[.int .i64 cx, .int .i64 cy]] w
      fun e w' => e = .returned (.tuple #[.int .i64 (alongV ⟨ax, ay⟩ ⟨bx, by_⟩ ⟨cx, cy⟩), .int .i64 (lineE ⟨ax, ay⟩ ⟨bx, by_⟩ ⟨cx, cy⟩)]) ∧ Ext w w' := by
  have hL := fun w => checkLine_c ax ay bx by_ cx cy w
  have HL := Lib.hid hL
  clear hL
  by_cases h : lineE ⟨ax, ay⟩ ⟨bx, by_⟩ ⟨cx, cy⟩ = 0
  · have hs : 0 < spanG ⟨ax, ay⟩ ⟨bx, by_⟩ ∧ spanG ⟨ax, ay⟩ ⟨bx, by_⟩ ≤ 3000000 ∧ -8000000000000 ≤ dotW ⟨ax, ay⟩ ⟨bx, by_⟩ ⟨cx, cy⟩ ∧ dotW ⟨ax, ay⟩ ⟨bx, by_⟩ ⟨cx, cy⟩ ≤ 8000000000000 := by
      cases hG : allGood [⟨ax, ay⟩, ⟨bx, by_⟩, ⟨cx, cy⟩]
      · rw [lineE_bad hG] at h; omega
      · by_cases hne : (⟨ax, ay⟩ : Pt) = ⟨bx, by_⟩
        · rw [← hne] at h hG; rw [lineE_one hG] at h; omega
        · simp [allGood] at hG
          obtain ⟨g1, g2, g3⟩ := hG
          have := spanG_pos g1 g2 hne
          rw [dotW_good g1 g2 g3]
          exact ⟨this.1, this.2, dotZ_bound g1 g2 g3⟩
    obtain ⟨s1, s2, s3, s4⟩ := hs
    obtain ⟨q1, q2⟩ := quot_bound s1 s3 s4
    rw [h] at HL
    have HD := Lib.hid (fun w => dot_c ax ay bx by_ cx cy w)
    have HS := Lib.hid (fun w => gspan_c ax ay bx by_ w)
    unfold alongV
    rw [if_pos h, h]
    generalize dotW ⟨ax, ay⟩ ⟨bx, by_⟩ ⟨cx, cy⟩ = n at *
    generalize spanG ⟨ax, ay⟩ ⟨bx, by_⟩ = m at *
    have HV := Lib.hid (fun w => divideDown_c n m w s1 (by omega) (by omega) (by omega))
    clear h s1 s2 s3 s4 q1 q2
    generalize n / m = r at *
    go_enter Try.func30, Try.ntmps30
    go_wp2_with (first | (go_at_call 80; refine Calls.mono (HL.out _) ?_; rintro e w1 ⟨rfl, hb⟩; have hc := hb.ccell; have hf := hb.frz; have hs := hb.sz; (try simp at hs); (try have hs0 := hs w.heap.size (by omega)); (try have hs1 := hs (w.heap.size + 1) (by omega)); (try have hs2 := hs (w.heap.size + 1 + 1) (by omega)); (try have hs3 := hs (w.heap.size + 1 + 1 + 1) (by omega))))
    refine region_grow (by kernel_rfl) (by kernel_rfl) ?_
    repeat (first | go_big_quiet_step (first | (go_at_call 83; exact callsGrow (HD.out _)) | (go_at_call 23; exact callsGrow (HS.out _)) | (go_at_call 82; exact callsStay (HV.out _)) | fail) | quiet_step (first | (go_at_call 83; exact callsGrow (HD.out _)) | (go_at_call 23; exact callsGrow (HS.out _)) | (go_at_call 82; exact callsStay (HV.out _)) | fail))
    refine wpQuiet_nil ?_
    intro w1 hb
    have hc := hb.ccell
    have hf := hb.frz
    have hs := hb.sz
    (try simp at hs); (try have hs0 := hs w.heap.size (by omega)); (try have hs1 := hs (w.heap.size + 1) (by omega)); (try have hs2 := hs (w.heap.size + 1 + 1) (by omega)); (try have hs3 := hs (w.heap.size + 1 + 1 + 1) (by omega))
    (try simp only [IntWalk.i64_left])
    go_wp2
    go_ret2
    exact ⟨rfl, by (repeat (first | with_reducible exact Ext.rfl' _ | with_reducible assumption | with_reducible refine Ext.al ?_ _ | with_reducible refine Ext.dr ?_ | with_reducible refine Ext.st ?_ (by simp) _ | with_reducible refine Ext.tr ?_ (by assumption)))⟩
  · unfold alongV
    rw [if_neg h]
    generalize lineE ⟨ax, ay⟩ ⟨bx, by_⟩ ⟨cx, cy⟩ = r at HL h ⊢
    have h' : (r == 0) = false := by simp [h]
    go_enter Try.func30, Try.ntmps30
    go_wp2_with (first | (go_at_call 80; refine Calls.mono (HL.out _) ?_; rintro e w1 ⟨rfl, hb⟩; have hc := hb.ccell; have hf := hb.frz; have hs := hb.sz; (try simp at hs); (try have hs0 := hs w.heap.size (by omega)); (try have hs1 := hs (w.heap.size + 1) (by omega)); (try have hs2 := hs (w.heap.size + 1 + 1) (by omega)); (try have hs3 := hs (w.heap.size + 1 + 1 + 1) (by omega))))
    go_ret2
    exact ⟨rfl, by (repeat (first | with_reducible exact Ext.rfl' _ | with_reducible assumption | with_reducible refine Ext.al ?_ _ | with_reducible refine Ext.dr ?_ | with_reducible refine Ext.st ?_ (by simp) _ | with_reducible refine Ext.tr ?_ (by assumption)))⟩

theorem roffset_c (ax ay bx by_ cx cy : Int) (w : World) (hs : spanR ⟨ax, ay⟩ ⟨bx, by_⟩ ≠ 0) :
    Calls Try.prog 31 #[.agg #[.int .i64 ax, .int .i64 ay], .agg #[.int .i64 bx, .int .i64 by_], .agg #[.int .i64 cx, .int .i64 cy]] w
      fun e w' => e = .returned (.int .i64 (wrap64 ((absW (crossW ⟨ax, ay⟩ ⟨bx, by_⟩ ⟨cx, cy⟩)).tdiv (spanR ⟨ax, ay⟩ ⟨bx, by_⟩)))) ∧ Ext w w' := by
  go_enter Try.func31, Try.ntmps31
  go_wp2_with fail
  refine region_grow (by kernel_rfl) (by kernel_rfl) ?_
  repeat (first | go_big_quiet_step (first | (go_at_call 27; exact callsGrow (rcross_c _ _ _ _ _ _ _)) | (go_at_call 26; exact callsGrow (rspan_c _ _ _ _ _)) | (go_at_call 71; exact callsStay (abs_c _ _)) | fail) | quiet_step (first | (go_at_call 27; exact callsGrow (rcross_c _ _ _ _ _ _ _)) | (go_at_call 26; exact callsGrow (rspan_c _ _ _ _ _)) | (go_at_call 71; exact callsStay (abs_c _ _)) | fail))
  refine wpQuiet_nil ?_
  intro w1 hb
  have hc := hb.ccell
  have hf := hb.frz
  have hs := hb.sz
  (try simp at hs); (try have hs0 := hs w.heap.size (by omega)); (try have hs1 := hs (w.heap.size + 1) (by omega)); (try have hs2 := hs (w.heap.size + 1 + 1) (by omega)); (try have hs3 := hs (w.heap.size + 1 + 1 + 1) (by omega))
  (try simp only [IntWalk.i64_left])
  go_wp2
  go_ret
  exact ⟨rfl, by (repeat (first | with_reducible exact Ext.rfl' _ | with_reducible assumption | with_reducible refine Ext.al ?_ _ | with_reducible refine Ext.dr ?_ | with_reducible refine Ext.st ?_ (by simp) _ | with_reducible refine Ext.tr ?_ (by assumption)))⟩

theorem ralong_c (ax ay bx by_ cx cy : Int) (w : World) (h0 : 0 < spanR ⟨ax, ay⟩ ⟨bx, by_⟩) (h1 : spanR ⟨ax, ay⟩ ⟨bx, by_⟩ ≤ 4000000000000000000) (h2 : -4000000000000000000 ≤ dotW ⟨ax, ay⟩ ⟨bx, by_⟩ ⟨cx, cy⟩) (h3 : dotW ⟨ax, ay⟩ ⟨bx, by_⟩ ⟨cx, cy⟩ ≤ 4000000000000000000) :
    Calls Try.prog 32 #[.agg #[.int .i64 ax, .int .i64 ay], .agg #[.int .i64 bx, .int .i64 by_], .agg #[.int .i64 cx, .int .i64 cy]] w
      fun e w' => e = .returned (.int .i64 (dotW ⟨ax, ay⟩ ⟨bx, by_⟩ ⟨cx, cy⟩ / spanR ⟨ax, ay⟩ ⟨bx, by_⟩)) ∧ Ext w w' := by
  have HD := Lib.hid (fun w => rdot_c ax ay bx by_ cx cy w)
  have HS := Lib.hid (fun w => rspan_c ax ay bx by_ w)
  generalize dotW ⟨ax, ay⟩ ⟨bx, by_⟩ ⟨cx, cy⟩ = n at *
  generalize spanR ⟨ax, ay⟩ ⟨bx, by_⟩ = m at *
  have HV := Lib.hid (fun w => floor_c n m w h0 h1 h2 h3)
  generalize n / m = r at *
  clear h0 h1 h2 h3
  go_enter Try.func32, Try.ntmps32
  go_wp2_with fail
  refine region_grow (by kernel_rfl) (by kernel_rfl) ?_
  repeat (first | go_big_quiet_step (first | (go_at_call 78; exact callsGrow (HD.out _)) | (go_at_call 26; exact callsGrow (HS.out _)) | (go_at_call 84; exact callsStay (HV.out _)) | fail) | quiet_step (first | (go_at_call 78; exact callsGrow (HD.out _)) | (go_at_call 26; exact callsGrow (HS.out _)) | (go_at_call 84; exact callsStay (HV.out _)) | fail))
  refine wpQuiet_nil ?_
  intro w1 hb
  have hc := hb.ccell
  have hf := hb.frz
  have hs := hb.sz
  (try simp at hs); (try have hs0 := hs w.heap.size (by omega)); (try have hs1 := hs (w.heap.size + 1) (by omega)); (try have hs2 := hs (w.heap.size + 1 + 1) (by omega)); (try have hs3 := hs (w.heap.size + 1 + 1 + 1) (by omega))
  (try simp only [IntWalk.i64_left])
  go_wp2
  go_ret
  exact ⟨rfl, by (repeat (first | with_reducible exact Ext.rfl' _ | with_reducible assumption | with_reducible refine Ext.al ?_ _ | with_reducible refine Ext.dr ?_ | with_reducible refine Ext.st ?_ (by simp) _ | with_reducible refine Ext.tr ?_ (by assumption)))⟩
end Go.Proofs.Ytcdbekmcobghbaa

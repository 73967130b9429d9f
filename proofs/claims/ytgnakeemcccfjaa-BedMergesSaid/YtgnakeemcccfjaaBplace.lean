/- Contracts of Cell, Centre, Near and Level, and of the reference's. -/
import Derived.Test.YtgnakeemcccfjaaBrends
import Derived.Test.YtgnakeemcccfjaaBplpure
namespace Go.Proofs.Ytgnakeemcccfjaa
open Go Go.RowKit Go.IntWalk

def PV (x y : Int) : Value := .agg #[.int .i64 x, .int .i64 y]
/-- Products of a valid grid's numbers. -/
theorem VG.prods {g : Gr} (v : VG g) : (100 ≤ g.C * g.S ∧ g.C * g.S ≤ 2000000) ∧ (100 ≤ g.R * g.S ∧ g.R * g.S ≤ 2000000) := by
  have h1 := v.hx
  have h2 := v.hy
  have h3 := v.hxe
  have h4 := v.hye
  have h5 := v.hc
  have h6 := v.hr
  have h7 := v.hs
  have a1 : 1 * 100 ≤ g.C * g.S := Int.mul_le_mul h5.1 h7.1 (by omega) (by omega)
  have a2 : 1 * 100 ≤ g.R * g.S := Int.mul_le_mul h6.1 h7.1 (by omega) (by omega)
  omega
set_option maxHeartbeats 4000000 in
theorem cellAt_c (g : Gr) (x y : Int) (w : World) (A : Option Addr) (c : Nat) (v : VG g) :
    Calls Try.prog 75 #[.agg #[.int .i64 g.X, .int .i64 g.Y, .int .i64 g.S, .int .i64 g.C, .int .i64 g.R, .slice A g.L.length c], .agg #[.int .i64 x, .int .i64 y]] w fun e w' => e = .returned (.tuple #[.int .i64 (if inB g x y = true then cIdx g x y else 0), .bool (inB g x y)]) ∧ Ext w w' := by
  obtain ⟨⟨m1, m2⟩, m3, m4⟩ := v.prods
  have hx := v.hx
  have hy := v.hy
  have hs := v.hs
  have HX := Lib.hid (fun w => bwithin_c x g.X (g.X + g.C * g.S - 1) w)
  have HY := Lib.hid (fun w => bwithin_c y g.Y (g.Y + g.R * g.S - 1) w)
  obtain ⟨cn, rn, e1, e2, e3, e4, e5, e6, e7, e8⟩ := v.nat
  have hcell := fun h => cIdx_cell (x := x) (y := y) e1 e2 e3 (show 0 < g.S by omega) h
  have hib := inB_iff (g := g) (x := x) (y := y)
  unfold inB at hcell hib ⊢
  cases h1 : withinB x g.X (g.X + g.C * g.S - 1)
  · rw [h1] at HX
    rw [Bool.false_and, if_neg (by decide)]
    clear hcell hib h1 HY e1 e2 e3 e4 e5 e6 e7 e8
    go_enter Try.func75, Try.ntmps75
    go_wp2_with (first | (go_at_call 73; with_reducible refine Calls.mono (HX.out _) ?_; rintro e w' ⟨rfl, rfl⟩))
    exact bodyPost_ret (v := .tuple #[.int .i64 0, .bool false]) (by simp [results, Try.results75, go_sem]) rfl ⟨rfl, by (repeat (first | with_reducible exact Ext.rfl' _ | with_reducible assumption | with_reducible refine Ext.al ?_ _ | with_reducible refine Ext.dr ?_ | with_reducible refine Ext.st ?_ (by simp) _ | with_reducible refine Ext.tr ?_ (by assumption)))⟩
  rw [h1] at HX hcell hib
  cases h2 : withinB y g.Y (g.Y + g.R * g.S - 1)
  · rw [h2] at HY
    rw [Bool.and_false, if_neg (by decide)]
    clear hcell hib h1 h2 e1 e2 e3 e4 e5 e6 e7 e8
    go_enter Try.func75, Try.ntmps75
    go_wp2_with (first | (go_at_call 73; with_reducible refine Calls.mono (HX.out _) ?_; rintro e w' ⟨rfl, rfl⟩) | (go_at_call 73; with_reducible refine Calls.mono (HY.out _) ?_; rintro e w' ⟨rfl, rfl⟩))
    exact bodyPost_ret (v := .tuple #[.int .i64 0, .bool false]) (by simp [results, Try.results75, go_sem]) rfl ⟨rfl, by (repeat (first | with_reducible exact Ext.rfl' _ | with_reducible assumption | with_reducible refine Ext.al ?_ _ | with_reducible refine Ext.dr ?_ | with_reducible refine Ext.st ?_ (by simp) _ | with_reducible refine Ext.tr ?_ (by assumption)))⟩
  rw [h2] at HY hcell hib
  rw [Bool.and_self, if_pos rfl]
  obtain ⟨⟨c1, c2⟩, ⟨c3, c4⟩, i, ci, ce⟩ := hcell rfl
  obtain ⟨⟨b1, b2⟩, b3, b4⟩ := hib.1 rfl
  unfold cIdx at ce ⊢
  have hu : 0 ≤ x - g.X ∧ x - g.X ≤ 2000000 := by omega
  have hv : 0 ≤ y - g.Y ∧ y - g.Y ≤ 2000000 := by omega
  obtain ⟨u, hu'⟩ : ∃ u, x - g.X = u := ⟨_, rfl⟩
  obtain ⟨vv, hv'⟩ : ∃ vv, y - g.Y = vv := ⟨_, rfl⟩
  rw [hu'] at c1 c2 ce hu ⊢
  rw [hv'] at c3 c4 ce hv ⊢
  have p0 : 0 ≤ vv / g.S * g.C := Int.mul_nonneg c3 (by omega)
  have pb : vv / g.S * g.C + u / g.S ≤ 1024 := by omega
  have hs0 : ¬ g.S = 0 := by omega
  clear h1 h2 hib b1 b2 b3 b4 e1 e2 e3 e4 e5 e6 e7 e8 ce
  go_enter Try.func75, Try.ntmps75
  go_wp2_with (first | (go_at_call 73; with_reducible refine Calls.mono (HX.out _) ?_; rintro e w' ⟨rfl, rfl⟩) | (go_at_call 73; with_reducible refine Calls.mono (HY.out _) ?_; rintro e w' ⟨rfl, rfl⟩))
  refine region_grow (by kernel_rfl) (by kernel_rfl) ?_
  repeat (first | go_big_quiet_step (first  | fail) | quiet_step (first  | fail))
  refine wpQuiet_nil ?_
  intro w1 hb
  have hc := hb.ccell
  have hf := hb.frz
  have hs := hb.sz
  (try simp at hs); (try have hs0 := hs w.heap.size (by omega)); (try have hs1 := hs (w.heap.size + 1) (by omega)); (try have hs2 := hs (w.heap.size + 1 + 1) (by omega)); (try have hs3 := hs (w.heap.size + 1 + 1 + 1) (by omega))
  (try simp only [IntWalk.i64_left])
  go_wp2
  exact bodyPost_ret (v := .tuple #[.int .i64 (vv / g.S * g.C + u / g.S), .bool true]) (by simp [results, Try.results75, go_sem]) rfl ⟨rfl, by (repeat (first | with_reducible exact Ext.rfl' _ | with_reducible assumption | with_reducible refine Ext.al ?_ _ | with_reducible refine Ext.dr ?_ | with_reducible refine Ext.st ?_ (by simp) _ | with_reducible refine Ext.tr ?_ (by assumption)))⟩
set_option maxHeartbeats 4000000 in
set_option maxRecDepth 100000 in
theorem rcell_c (g : Gr) (x y : Int) (w : World) (A : Option Addr) (c : Nat) (v : VG g) :
    Calls Try.prog 28 #[.agg #[.int .i64 g.X, .int .i64 g.Y, .int .i64 g.S, .int .i64 g.C, .int .i64 g.R, .slice A g.L.length c], .agg #[.int .i64 x, .int .i64 y]] w fun e w' => e = .returned (.int .i64 (if inB g x y = true then cIdx g x y else -1)) ∧ Ext w w' := by
  have hx := v.hx
  have hy := v.hy
  have hs := v.hs
  obtain ⟨cn, rn, e1, e2, e3, e4, e5, e6, e7, e8⟩ := v.nat
  obtain ⟨Z, hZ⟩ : ∃ Z, (if inB g x y = true then cIdx g x y else -1) = Z := ⟨_, rfl⟩
  rw [hZ]
  have HON : Hid (∀ i, i < g.L.length → (cOn g cn i x y = true → (i : Int) = Z) ∧ (cOn g cn i x y = false → inB g x y = true → (i : Int) ≠ cIdx g x y)) := Lib.hid fun i hi => by
    have h := cOn_iff e1 e2 e3 (show 0 < g.S by omega) (show i < cn * rn by omega) x y
    constructor
    · intro h1
      obtain ⟨h2, h3⟩ := h.1 h1
      rw [← hZ, if_pos h2]; exact h3
    · intro h1 h2 h3
      rw [h.2 ⟨h2, h3⟩] at h1; cases h1
  have HEND : Hid ((∀ j, j < g.L.length → inB g x y = true → (j : Int) ≠ cIdx g x y) → -1 = Z) := Lib.hid fun h => by
    rw [← hZ]
    cases hb : inB g x y
    · rfl
    · obtain ⟨_, _, i, ci, ce⟩ := cIdx_cell e1 e2 e3 (show 0 < g.S by omega) hb
      exact absurd ce.symm (h i (by omega) hb)
  have hl : g.L.length ≤ 1024 := by omega
  have HC := Lib.hid e1
  have hC0 : 0 < g.C ∧ g.C ≤ 1024 := by omega
  have HDV : Hid (∀ i, i < g.L.length → i / cn < rn ∧ i % cn < cn) := Lib.hid fun i hi => ⟨by rw [Nat.div_lt_iff_lt_mul e3, Nat.mul_comm]; omega, Nat.mod_lt i e3⟩
  clear hZ v e1 e2 e5 e7 e8 e3
  go_enter Try.func28, Try.ntmps28
  go_wp2
  have hEp : Ext w ((w.alloc (.cells #[.int .i64 g.X, .int .i64 g.Y, .int .i64 g.S, .int .i64 g.C, .int .i64 g.R, .slice A g.L.length c] 24)).alloc (.cells #[.int .i64 x, .int .i64 y] 35)) := by (repeat (first | with_reducible exact Ext.rfl' _ | with_reducible assumption | with_reducible refine Ext.al ?_ _ | with_reducible refine Ext.dr ?_ | with_reducible refine Ext.st ?_ (by simp) _ | with_reducible refine Ext.tr ?_ (by assumption)))
  generalize hwp : (w.alloc (.cells #[.int .i64 g.X, .int .i64 g.Y, .int .i64 g.S, .int .i64 g.C, .int .i64 g.R, .slice A g.L.length c] 24)).alloc (.cells #[.int .i64 x, .int .i64 y] 35) = wp at *
  have kg : CellsAt wp w.heap.size 0 [.int .i64 g.X, .int .i64 g.Y, .int .i64 g.S, .int .i64 g.C, .int .i64 g.R, .slice A g.L.length c] := by
    rw [← hwp]
    refine cells_six ⟨?_, ?_, ?_, ?_, ?_, ?_⟩ <;> simp [World.cell?_alloc_past, World.cell?_alloc_new, go_sem]
  have kp : wp.cell? ⟨w.heap.size + 1, 0, none⟩ = some (.int .i64 x) ∧ wp.cell? ⟨w.heap.size + 1, 1, none⟩ = some (.int .i64 y) := by rw [← hwp]; constructor <;> simp [go_sem]
  have zg : w.heap.size < wp.heap.size := by rw [← hwp]; simp; omega
  have zp : w.heap.size + 1 < wp.heap.size := by rw [← hwp]; simp
  clear hwp
  go_loopw [5, 6, 7] (fun i _ _ wr => Ext wp wr ∧ ∃ k : Nat, k ≤ g.L.length ∧ i = .int .i64 k ∧ Hid (∀ j, j < k → inB g x y = true → (j : Int) ≠ cIdx g x y)) (fun i _ _ _ => g.L.length - (intOf i).toNat)
  case atStart => exact ⟨Ext.rfl' _, 0, Nat.zero_le _, rfl, Lib.hid (by intro j hj; omega)⟩
  case round =>
    obtain ⟨hr, k, hk, rfl, hF⟩ := hrel
    have hE := hEp.tr hr
    obtain ⟨g0, g1, g2, g3, g4, g5⟩ := (kg.ext hr zg).six
    have zg2 := hr.sz _ zg
    have zp2 := hr.sz _ zp
    have p0 := (hr.ccell _ _ zp).trans kp.1
    have p1 := (hr.ccell _ _ zp).trans kp.2
    by_cases hlt : k < g.L.length
    · obtain ⟨ho1, ho2⟩ := HON.out k hlt
      obtain ⟨hd1, hd2⟩ := HDV.out k hlt
      have ed : (k : Int) / g.C = ((k / cn : Nat) : Int) := by rw [HC.out]; simp
      have em : (k : Int) % g.C = ((k % cn : Nat) : Int) := by rw [HC.out]; simp
      have HO1 := Lib.hid ho1
      have HO2 := Lib.hid ho2
      unfold cOn at HO1 HO2
      clear ho1 ho2
      generalize k / cn = dv at *
      generalize k % cn = md at *
      have b1 : 0 ≤ (md : Int) * g.S ∧ (md : Int) * g.S ≤ 1024 * 10000 := ⟨Int.mul_nonneg (by omega) (by omega), Int.mul_le_mul (by omega) (by omega) (by omega) (by omega)⟩
      have b2 : 0 ≤ (dv : Int) * g.S ∧ (dv : Int) * g.S ≤ 1024 * 10000 := ⟨Int.mul_nonneg (by omega) (by omega), Int.mul_le_mul (by omega) (by omega) (by omega) (by omega)⟩
      have hC00 : ¬ g.C = 0 := by omega
      obtain ⟨m1, hm1⟩ : ∃ m1, g.X + (md : Int) * g.S = m1 := ⟨_, rfl⟩
      obtain ⟨m2, hm2⟩ : ∃ m2, g.Y + (dv : Int) * g.S = m2 := ⟨_, rfl⟩
      have r1 : -1000000 ≤ m1 ∧ m1 ≤ 12000000 := by omega
      have r2 : -1000000 ≤ m2 ∧ m2 ≤ 12000000 := by omega
      rw [hm1, hm2] at HO1 HO2
      go_wp2
      refine region_grow (by kernel_rfl) (by kernel_rfl) ?_
      repeat (first | go_big_quiet_step (first  | fail) | quiet_step (first  | fail))
      refine wpQuiet_nil ?_
      intro w1 hb
      have hc := hb.ccell
      have hf := hb.frz
      have hs := hb.sz
      (try simp at hs); (try have hs0 := hs w.heap.size (by omega)); (try have hs1 := hs (w.heap.size + 1) (by omega)); (try have hs2 := hs (w.heap.size + 1 + 1) (by omega)); (try have hs3 := hs (w.heap.size + 1 + 1 + 1) (by omega))
      (try simp only [IntWalk.i64_left])
      clear hm1 hm2 ed em b1 b2 hc hf
      obtain ⟨g0, g1, g2, g3, g4, g5⟩ := (kg.ext (hr.tr hb) zg).six
      have p0 := ((hr.tr hb).ccell _ _ zp).trans kp.1
      have p1 := ((hr.tr hb).ccell _ _ zp).trans kp.2
      by_cases h1 : m1 ≤ x
      case neg =>
        have h1' : decide (m1 ≤ x) = false := decide_eq_false h1
        have HN : Hid (∀ j, j < k + 1 → inB g x y = true → (j : Int) ≠ cIdx g x y) := Lib.hid (by
          intro j hj hb
          rcases Nat.lt_succ_iff_lt_or_eq.1 hj with h | h
          · exact hF.out j h hb
          · subst h; exact HO2.out (by rw [h1']; rfl) hb)
        go_wp2
        exact ⟨⟨by (repeat (first | with_reducible exact Ext.rfl' _ | with_reducible assumption | with_reducible refine Ext.al ?_ _ | with_reducible refine Ext.dr ?_ | with_reducible refine Ext.st ?_ (by simp) _ | with_reducible refine Ext.tr ?_ (by assumption))), k + 1, by omega, by go_num, HN⟩, by simp [intOf]; omega⟩
      by_cases h2 : x < m1 + g.S
      case neg =>
        have h2' : decide (x < m1 + g.S) = false := decide_eq_false h2
        have HN : Hid (∀ j, j < k + 1 → inB g x y = true → (j : Int) ≠ cIdx g x y) := Lib.hid (by
          intro j hj hb
          rcases Nat.lt_succ_iff_lt_or_eq.1 hj with h | h
          · exact hF.out j h hb
          · subst h; exact HO2.out (by rw [h2']; simp) hb)
        go_wp2
        exact ⟨⟨by (repeat (first | with_reducible exact Ext.rfl' _ | with_reducible assumption | with_reducible refine Ext.al ?_ _ | with_reducible refine Ext.dr ?_ | with_reducible refine Ext.st ?_ (by simp) _ | with_reducible refine Ext.tr ?_ (by assumption))), k + 1, by omega, by go_num, HN⟩, by simp [intOf]; omega⟩
      by_cases h3 : m2 ≤ y
      case neg =>
        have h3' : decide (m2 ≤ y) = false := decide_eq_false h3
        have HN : Hid (∀ j, j < k + 1 → inB g x y = true → (j : Int) ≠ cIdx g x y) := Lib.hid (by
          intro j hj hb
          rcases Nat.lt_succ_iff_lt_or_eq.1 hj with h | h
          · exact hF.out j h hb
          · subst h; exact HO2.out (by rw [h3']; simp) hb)
        go_wp2
        exact ⟨⟨by (repeat (first | with_reducible exact Ext.rfl' _ | with_reducible assumption | with_reducible refine Ext.al ?_ _ | with_reducible refine Ext.dr ?_ | with_reducible refine Ext.st ?_ (by simp) _ | with_reducible refine Ext.tr ?_ (by assumption))), k + 1, by omega, by go_num, HN⟩, by simp [intOf]; omega⟩
      by_cases h4 : y < m2 + g.S
      case neg =>
        have h4' : decide (y < m2 + g.S) = false := decide_eq_false h4
        have HN : Hid (∀ j, j < k + 1 → inB g x y = true → (j : Int) ≠ cIdx g x y) := Lib.hid (by
          intro j hj hb
          rcases Nat.lt_succ_iff_lt_or_eq.1 hj with h | h
          · exact hF.out j h hb
          · subst h; exact HO2.out (by rw [h4']; simp) hb)
        go_wp2
        exact ⟨⟨by (repeat (first | with_reducible exact Ext.rfl' _ | with_reducible assumption | with_reducible refine Ext.al ?_ _ | with_reducible refine Ext.dr ?_ | with_reducible refine Ext.st ?_ (by simp) _ | with_reducible refine Ext.tr ?_ (by assumption))), k + 1, by omega, by go_num, HN⟩, by simp [intOf]; omega⟩
      have hz := Lib.hid (HO1.out (by rw [decide_eq_true h1, decide_eq_true h2, decide_eq_true h3, decide_eq_true h4]; rfl))
      go_wp2
      go_ret
      exact ⟨ret_int hz.out, by (repeat (first | with_reducible exact Ext.rfl' _ | with_reducible assumption | with_reducible refine Ext.al ?_ _ | with_reducible refine Ext.dr ?_ | with_reducible refine Ext.st ?_ (by simp) _ | with_reducible refine Ext.tr ?_ (by assumption)))⟩
    · have hks : k = g.L.length := by omega
      have hz := Lib.hid (HEND.out (by rw [← hks]; exact hF.out))
      go_wp2
      go_ret
      exact ⟨ret_int hz.out, by (repeat (first | with_reducible exact Ext.rfl' _ | with_reducible assumption | with_reducible refine Ext.al ?_ _ | with_reducible refine Ext.dr ?_ | with_reducible refine Ext.st ?_ (by simp) _ | with_reducible refine Ext.tr ?_ (by assumption)))⟩
theorem isCell_iff {n : Nat} {i : Int} : (decide (0 ≤ i) && decide (i < n)) = true ↔ 0 ≤ i ∧ i < n := by simp
/-- The error of a grid and a cell's number. -/
def gcE (g : Gr) (i : Int) : Int := if chkG g ≠ 0 then chkG g else if (decide (0 ≤ i) && decide (i < g.L.length)) = true then 0 else 6
set_option maxHeartbeats 4000000 in
theorem checkCell_c (g : Gr) (i : Int) (w : World) (A : Option Addr) (c : Nat) (hl : g.L.length ≤ maxLen) (hA : Row 1 encZ w A g.L) :
    Calls Try.prog 76 #[.agg #[.int .i64 g.X, .int .i64 g.Y, .int .i64 g.S, .int .i64 g.C, .int .i64 g.R, .slice A g.L.length c], .int .i64 i] w fun e w' => e = .returned (.int .i64 (gcE g i)) ∧ Ext w w' := by
  have HC := Lib.hid (fun w' (hw : Ext w w') => check_c g w' A c hl (hA.ext hw))
  have HI := Lib.hid (fun w' => isCell_c g i w' A c hl)
  unfold gcE
  by_cases h0 : chkG g = 0
  case neg =>
    rw [if_pos h0]
    have h0' : (chkG g != 0) = true := by simp [h0]
    clear h0
    generalize chkG g = E at *
    go_enter Try.func76, Try.ntmps76
    go_wp2_with (first | (go_at_call 21; with_reducible refine Calls.mono (HC.out _ (by (repeat (first | with_reducible exact Ext.rfl' _ | with_reducible assumption | with_reducible refine Ext.al ?_ _ | with_reducible refine Ext.dr ?_ | with_reducible refine Ext.st ?_ (by simp) _ | with_reducible refine Ext.tr ?_ (by assumption))))) ?_; rintro e w1 ⟨rfl, hb⟩; have hc := hb.ccell; have hf := hb.frz; have hs := hb.sz; (try simp at hs); (try have hs0 := hs w.heap.size (by omega)); (try have hs1 := hs (w.heap.size + 1) (by omega)); (try have hs2 := hs (w.heap.size + 1 + 1) (by omega)); (try have hs3 := hs (w.heap.size + 1 + 1 + 1) (by omega))))
    go_ret
    exact ⟨rfl, by (repeat (first | with_reducible exact Ext.rfl' _ | with_reducible assumption | with_reducible refine Ext.al ?_ _ | with_reducible refine Ext.dr ?_ | with_reducible refine Ext.st ?_ (by simp) _ | with_reducible refine Ext.tr ?_ (by assumption)))⟩
  rw [if_neg (by omega)]
  rw [h0] at HC
  cases hq : (decide (0 ≤ i) && decide (i < g.L.length))
  all_goals
    rw [hq] at HI
    clear hq h0
    go_enter Try.func76, Try.ntmps76
    go_wp2_with (first | (go_at_call 21; with_reducible refine Calls.mono (HC.out _ (by (repeat (first | with_reducible exact Ext.rfl' _ | with_reducible assumption | with_reducible refine Ext.al ?_ _ | with_reducible refine Ext.dr ?_ | with_reducible refine Ext.st ?_ (by simp) _ | with_reducible refine Ext.tr ?_ (by assumption))))) ?_; rintro e w1 ⟨rfl, hb⟩; have hc := hb.ccell; have hf := hb.frz; have hs := hb.sz; (try simp at hs); (try have hs0 := hs w.heap.size (by omega)); (try have hs1 := hs (w.heap.size + 1) (by omega)); (try have hs2 := hs (w.heap.size + 1 + 1) (by omega)); (try have hs3 := hs (w.heap.size + 1 + 1 + 1) (by omega))) | (go_at_call 122; with_reducible refine Calls.mono (HI.out _) ?_; rintro e w1 ⟨rfl, hb⟩; have hc := hb.ccell; have hf := hb.frz; have hs := hb.sz; (try simp at hs); (try have hs0 := hs w.heap.size (by omega)); (try have hs1 := hs (w.heap.size + 1) (by omega)); (try have hs2 := hs (w.heap.size + 1 + 1) (by omega)); (try have hs3 := hs (w.heap.size + 1 + 1 + 1) (by omega))))
    go_ret
    exact ⟨rfl, by (repeat (first | with_reducible exact Ext.rfl' _ | with_reducible assumption | with_reducible refine Ext.al ?_ _ | with_reducible refine Ext.dr ?_ | with_reducible refine Ext.st ?_ (by simp) _ | with_reducible refine Ext.tr ?_ (by assumption)))⟩
set_option maxHeartbeats 4000000 in
theorem centre_c (g : Gr) (cn i : Nat) (w : World) (A : Option Addr) (c : Nat) (v : VG g) (hC : g.C = cn) (hi : i < g.L.length) :
    Calls Try.prog 77 #[.agg #[.int .i64 g.X, .int .i64 g.Y, .int .i64 g.S, .int .i64 g.C, .int .i64 g.R, .slice A g.L.length c], .int .i64 i] w fun e w' => e = .returned (.agg #[.int .i64 (ctX g cn i), .int .i64 (ctY g cn i)]) ∧ Ext w w' := by
  have hx := v.hx
  have hy := v.hy
  have hs := v.hs
  have hc := v.hc
  have hn := v.hn
  have hln := v.len
  obtain ⟨cn', rn, e1, e2, e3, e4, e5, e6, e7, e8⟩ := v.nat
  have hcn : cn' = cn := by omega
  subst hcn
  have hd1 : i / cn' < rn := by rw [Nat.div_lt_iff_lt_mul e3, Nat.mul_comm]; omega
  have hd2 := Nat.mod_lt i e3
  have ed : (i : Int) / g.C = ((i / cn' : Nat) : Int) := by rw [e1]; simp
  have em : (i : Int) % g.C = ((i % cn' : Nat) : Int) := by rw [e1]; simp
  have hC00 : ¬ g.C = 0 := by omega
  have hgC : 0 < g.C ∧ g.C ≤ 1024 := by omega
  clear hC e1 e2 e7 e8 hn hln hc v
  unfold ctX ctY
  generalize i / cn' = dv at *
  generalize i % cn' = md at *
  have b1 : 0 ≤ (md : Int) * g.S ∧ (md : Int) * g.S ≤ 1024 * 10000 := ⟨Int.mul_nonneg (by omega) (by omega), Int.mul_le_mul (by omega) (by omega) (by omega) (by omega)⟩
  have b2 : 0 ≤ (dv : Int) * g.S ∧ (dv : Int) * g.S ≤ 1024 * 10000 := ⟨Int.mul_nonneg (by omega) (by omega), Int.mul_le_mul (by omega) (by omega) (by omega) (by omega)⟩
  go_enter Try.func77, Try.ntmps77
  go_upto_region 1 with fail
  refine region_grow (by kernel_rfl) (by kernel_rfl) ?_
  repeat (first | go_big_quiet_step (first  | fail) | quiet_step (first  | fail))
  refine wpQuiet_nil ?_
  intro w1 hb
  have hc := hb.ccell
  have hf := hb.frz
  have hs := hb.sz
  (try simp at hs); (try have hs0 := hs w.heap.size (by omega)); (try have hs1 := hs (w.heap.size + 1) (by omega)); (try have hs2 := hs (w.heap.size + 1 + 1) (by omega)); (try have hs3 := hs (w.heap.size + 1 + 1 + 1) (by omega))
  (try simp only [IntWalk.i64_left])
  go_wp2
  have z0 : w1.cell? ⟨w.heap.size + 1, 0, none⟩ = some (.int .i64 0) := by simp [*, go_sem]
  have z1 : w1.cell? ⟨w.heap.size + 1, 1, none⟩ = some (.int .i64 0) := by simp [*, go_sem]
  exact bodyPost_ret (v := .agg #[.int .i64 (g.X + (md : Int) * g.S + g.S / 2), .int .i64 (g.Y + (dv : Int) * g.S + g.S / 2)]) (by simp [results, Try.results77, go_sem, z0, z1]) rfl ⟨rfl, Ext.st (Ext.st (show Ext w w1 by (repeat (first | with_reducible exact Ext.rfl' _ | with_reducible assumption | with_reducible refine Ext.al ?_ _ | with_reducible refine Ext.dr ?_ | with_reducible refine Ext.st ?_ (by simp) _ | with_reducible refine Ext.tr ?_ (by assumption)))) (by simp) _) (by simp) _⟩
set_option maxHeartbeats 4000000 in
theorem rcentre_c (g : Gr) (cn i : Nat) (w : World) (A : Option Addr) (c : Nat) (v : VG g) (hC : g.C = cn) (hi : i < g.L.length) :
    Calls Try.prog 30 #[.agg #[.int .i64 g.X, .int .i64 g.Y, .int .i64 g.S, .int .i64 g.C, .int .i64 g.R, .slice A g.L.length c], .int .i64 i] w fun e w' => e = .returned (.agg #[.int .i64 (ctX g cn i), .int .i64 (ctY g cn i)]) ∧ Ext w w' := by
  have hx := v.hx
  have hy := v.hy
  have hs := v.hs
  have hc := v.hc
  have hn := v.hn
  have hln := v.len
  obtain ⟨cn', rn, e1, e2, e3, e4, e5, e6, e7, e8⟩ := v.nat
  have hcn : cn' = cn := by omega
  subst hcn
  have hd1 : i / cn' < rn := by rw [Nat.div_lt_iff_lt_mul e3, Nat.mul_comm]; omega
  have hd2 := Nat.mod_lt i e3
  have ed : (i : Int) / g.C = ((i / cn' : Nat) : Int) := by rw [e1]; simp
  have em : (i : Int) % g.C = ((i % cn' : Nat) : Int) := by rw [e1]; simp
  have hC00 : ¬ g.C = 0 := by omega
  have hgC : 0 < g.C ∧ g.C ≤ 1024 := by omega
  clear hC e1 e2 e7 e8 hn hln hc v
  unfold ctX ctY
  generalize i / cn' = dv at *
  generalize i % cn' = md at *
  have b1 : 0 ≤ (md : Int) * g.S ∧ (md : Int) * g.S ≤ 1024 * 10000 := ⟨Int.mul_nonneg (by omega) (by omega), Int.mul_le_mul (by omega) (by omega) (by omega) (by omega)⟩
  have b2 : 0 ≤ (dv : Int) * g.S ∧ (dv : Int) * g.S ≤ 1024 * 10000 := ⟨Int.mul_nonneg (by omega) (by omega), Int.mul_le_mul (by omega) (by omega) (by omega) (by omega)⟩
  go_enter Try.func30, Try.ntmps30
  go_upto_region 1 with fail
  refine region_grow_tail 29 (by kernel_rfl) (by kernel_rfl) ?_
  simp only [List.take_succ_cons, List.take_zero, List.drop_succ_cons, List.drop_zero]
  repeat (first | go_big_quiet_step (first | fail | fail) | quiet_step (first | fail | fail))
  refine wpQuiet_nil ?_
  intro w1 hb
  have hc := hb.ccell
  have hf := hb.frz
  have hs := hb.sz
  (try simp at hs); (try have hs0 := hs w.heap.size (by omega)); (try have hs1 := hs (w.heap.size + 1) (by omega)); (try have hs2 := hs (w.heap.size + 1 + 1) (by omega)); (try have hs3 := hs (w.heap.size + 1 + 1 + 1) (by omega))
  go_wp2
  have z0 : w1.cell? ⟨w.heap.size + 1, 0, none⟩ = some (.int .i64 0) := by simp [*, go_sem]
  have z1 : w1.cell? ⟨w.heap.size + 1, 1, none⟩ = some (.int .i64 0) := by simp [*, go_sem]
  exact bodyPost_ret (v := .agg #[.int .i64 (g.X + (md : Int) * g.S + g.S / 2), .int .i64 (g.Y + (dv : Int) * g.S + g.S / 2)]) (by simp [results, Try.results30, go_sem, z0, z1]) rfl ⟨rfl, Ext.st (Ext.st (show Ext w w1 by (repeat (first | with_reducible exact Ext.rfl' _ | with_reducible assumption | with_reducible refine Ext.al ?_ _ | with_reducible refine Ext.dr ?_ | with_reducible refine Ext.st ?_ (by simp) _ | with_reducible refine Ext.tr ?_ (by assumption)))) (by simp) _) (by simp) _⟩
end Go.Proofs.Ytgnakeemcccfjaa

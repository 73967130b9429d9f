/- Contracts of the functions on circles and triangles. -/
import Derived.Test.YtcdbekmcobghbaaPts2
import Derived.Test.YtcdbekmcobghbaaPure2
namespace Go.Proofs.Ytcdbekmcobghbaa
open Go Go.RowKit

theorem comparePoints_c (ax ay bx by_ : Int) (w : World) :
    Calls Try.prog 121 #[.agg #[.int .i64 ax, .int .i64 ay], .agg #[.int .i64 bx, .int .i64 by_]] w
      fun e w' => e = .returned (.int .i64 (cmpPt ⟨ax, ay⟩ ⟨bx, by_⟩)) ∧ Ext w w' := by
  unfold cmpPt
  go_enter Try.func121, Try.ntmps121
  by_cases h : cmpI ax bx = 0
  · go_wp2_with (first | (go_at_call 111; refine Calls.mono (cmp_c _ _ _) ?_; rintro e w' ⟨rfl, rfl⟩))
    go_ret
    exact ⟨by first | (simp; done) | (simp [h]; omega), by (repeat (first | with_reducible exact Ext.rfl' _ | with_reducible assumption | with_reducible refine Ext.al ?_ _ | with_reducible refine Ext.dr ?_ | with_reducible refine Ext.st ?_ (by simp) _ | with_reducible refine Ext.tr ?_ (by assumption)))⟩
  · have h' : (cmpI ax bx == 0) = false := by simp [h]
    go_wp2_with (first | (go_at_call 111; refine Calls.mono (cmp_c _ _ _) ?_; rintro e w' ⟨rfl, rfl⟩))
    go_ret
    exact ⟨by first | (simp; done) | (simp [h]; omega), by (repeat (first | with_reducible exact Ext.rfl' _ | with_reducible assumption | with_reducible refine Ext.al ?_ _ | with_reducible refine Ext.dr ?_ | with_reducible refine Ext.st ?_ (by simp) _ | with_reducible refine Ext.tr ?_ (by assumption)))⟩

theorem allows_c (ax ay bx by_ cx cy px py : Int) (w : World) :
    Calls Try.prog 127 #[.agg #[.int .i64 ax, .int .i64 ay, .int .i64 bx, .int .i64 by_, .int .i64 cx, .int .i64 cy], .agg #[.int .i64 px, .int .i64 py]] w
      fun e w' => e = .returned (.bool (allowsB (⟨ax, ay⟩, ⟨bx, by_⟩, ⟨cx, cy⟩) ⟨px, py⟩)) ∧ Ext w w' := by
  unfold allowsB
  by_cases h : cmpPt ⟨ax, ay⟩ ⟨px, py⟩ ≤ 0
  all_goals
    go_enter Try.func127, Try.ntmps127
    go_wp2_with (first | (go_at_call 121; refine Calls.mono (comparePoints_c _ _ _ _ _) ?_; rintro e w1 ⟨rfl, hb⟩; have hc := hb.ccell; have hf := hb.frz; have hs := hb.sz; (try simp at hs); (try have hs0 := hs w.heap.size (by omega)); (try have hs1 := hs (w.heap.size + 1) (by omega)); (try have hs2 := hs (w.heap.size + 1 + 1) (by omega)); (try have hs3 := hs (w.heap.size + 1 + 1 + 1) (by omega))) | (go_at_call 74; refine Calls.mono (cross_c _ _ _ _ _ _ _) ?_; rintro e w1 ⟨rfl, hb⟩; have hc := hb.ccell; have hf := hb.frz; have hs := hb.sz; (try simp at hs); (try have hs0 := hs w.heap.size (by omega)); (try have hs1 := hs (w.heap.size + 1) (by omega)); (try have hs2 := hs (w.heap.size + 1 + 1) (by omega)); (try have hs3 := hs (w.heap.size + 1 + 1 + 1) (by omega))))
    go_ret
    exact ⟨by first | (simp [h]; done) | (simp; omega), by (repeat (first | with_reducible exact Ext.rfl' _ | with_reducible assumption | with_reducible refine Ext.al ?_ _ | with_reducible refine Ext.dr ?_ | with_reducible refine Ext.st ?_ (by simp) _ | with_reducible refine Ext.tr ?_ (by assumption)))⟩

def SideRel (a b c d : Pt) (s i : Value) : Prop :=
  (i = .int .i64 0 ∧ s = .int .i64 0) ∨ (i = .int .i64 1 ∧ s = .int .i64 (wrap64 (sideTerm a b c d))) ∨ (i = .int .i64 2 ∧ s = .int .i64 (wrap64 (wrap64 (sideTerm a b c d) + sideTerm b c a d))) ∨ (i = .int .i64 3 ∧ s = .int .i64 (sideSum a b c d))
theorem circleSide_c (ax ay bx by_ cx cy dx dy : Int) (w : World) :
    Calls Try.prog 88 #[.agg #[.int .i64 ax, .int .i64 ay, .int .i64 bx, .int .i64 by_, .int .i64 cx, .int .i64 cy], .agg #[.int .i64 dx, .int .i64 dy]] w
      fun e w' => e = .returned (.int .i64 (sideP ⟨ax, ay⟩ ⟨bx, by_⟩ ⟨cx, cy⟩ ⟨dx, dy⟩)) ∧ Ext w w' := by
  go_enter Try.func88, Try.ntmps88
  go_wp2
  refine wp_name (fun W hW => ?_)
  have hE : Ext w W := by rw [hW]; (repeat (first | with_reducible exact Ext.rfl' _ | with_reducible assumption | with_reducible refine Ext.al ?_ _ | with_reducible refine Ext.dr ?_ | with_reducible refine Ext.st ?_ (by simp) _ | with_reducible refine Ext.tr ?_ (by assumption)))
  have HW := Lib.hid hW
  clear hW
  go_loopw [5, 6, 7] (fun s _ i wr => Ext W wr ∧ SideRel ⟨ax, ay⟩ ⟨bx, by_⟩ ⟨cx, cy⟩ ⟨dx, dy⟩ s i) (fun _ _ i _ => (3 - intOf i).toNat)
  case atStart => exact ⟨Ext.rfl' _, .inl ⟨rfl, rfl⟩⟩
  case round =>
    obtain ⟨hr, hrel⟩ := hrel
    have hc := hr.ccell
    have hf := hr.frz
    have hs := hr.sz
    rw [HW.out] at hc hf hs
    (try simp at hs); (try have hs0 := hs w.heap.size (by omega)); (try have hs1 := hs (w.heap.size + 1) (by omega)); (try have hs2 := hs (w.heap.size + 1 + 1) (by omega)); (try have hs3 := hs (w.heap.size + 1 + 1 + 1) (by omega))
    rcases hrel with ⟨rfl, rfl⟩ | ⟨rfl, rfl⟩ | ⟨rfl, rfl⟩ | ⟨rfl, rfl⟩
    · go_wp2_with fail
      refine region_grow (by kernel_rfl) (by kernel_rfl) ?_
      repeat (first | go_big_quiet_step (first | (go_at_call 74; exact callsGrow (cross_c _ _ _ _ _ _ _)) | (go_at_call 76; exact callsGrow (square_c _ _ _ _ _)) | fail) | quiet_step (first | (go_at_call 74; exact callsGrow (cross_c _ _ _ _ _ _ _)) | (go_at_call 76; exact callsGrow (square_c _ _ _ _ _)) | fail))
      refine wpQuiet_nil ?_
      intro w1 hb
      have hc := hb.ccell
      have hf := hb.frz
      have hs := hb.sz
      (try simp at hs); (try have hs0 := hs w.heap.size (by omega)); (try have hs1 := hs (w.heap.size + 1) (by omega)); (try have hs2 := hs (w.heap.size + 1 + 1) (by omega)); (try have hs3 := hs (w.heap.size + 1 + 1 + 1) (by omega))
      (try simp only [IntWalk.i64_left])
      go_wp2
      exact ⟨⟨by (repeat (first | with_reducible exact Ext.rfl' _ | with_reducible assumption | with_reducible refine Ext.al ?_ _ | with_reducible refine Ext.dr ?_ | with_reducible refine Ext.st ?_ (by simp) _ | with_reducible refine Ext.tr ?_ (by assumption))), .inr (.inl ⟨rfl, rfl⟩)⟩, by simp [intOf]⟩
    · go_wp2_with fail
      refine region_grow (by kernel_rfl) (by kernel_rfl) ?_
      repeat (first | go_big_quiet_step (first | (go_at_call 74; exact callsGrow (cross_c _ _ _ _ _ _ _)) | (go_at_call 76; exact callsGrow (square_c _ _ _ _ _)) | fail) | quiet_step (first | (go_at_call 74; exact callsGrow (cross_c _ _ _ _ _ _ _)) | (go_at_call 76; exact callsGrow (square_c _ _ _ _ _)) | fail))
      refine wpQuiet_nil ?_
      intro w1 hb
      have hc := hb.ccell
      have hf := hb.frz
      have hs := hb.sz
      (try simp at hs); (try have hs0 := hs w.heap.size (by omega)); (try have hs1 := hs (w.heap.size + 1) (by omega)); (try have hs2 := hs (w.heap.size + 1 + 1) (by omega)); (try have hs3 := hs (w.heap.size + 1 + 1 + 1) (by omega))
      (try simp only [IntWalk.i64_left])
      go_wp2
      exact ⟨⟨by (repeat (first | with_reducible exact Ext.rfl' _ | with_reducible assumption | with_reducible refine Ext.al ?_ _ | with_reducible refine Ext.dr ?_ | with_reducible refine Ext.st ?_ (by simp) _ | with_reducible refine Ext.tr ?_ (by assumption))), .inr (.inr (.inl ⟨rfl, rfl⟩))⟩, by simp [intOf]⟩
    · go_wp2_with fail
      refine region_grow (by kernel_rfl) (by kernel_rfl) ?_
      repeat (first | go_big_quiet_step (first | (go_at_call 74; exact callsGrow (cross_c _ _ _ _ _ _ _)) | (go_at_call 76; exact callsGrow (square_c _ _ _ _ _)) | fail) | quiet_step (first | (go_at_call 74; exact callsGrow (cross_c _ _ _ _ _ _ _)) | (go_at_call 76; exact callsGrow (square_c _ _ _ _ _)) | fail))
      refine wpQuiet_nil ?_
      intro w1 hb
      have hc := hb.ccell
      have hf := hb.frz
      have hs := hb.sz
      (try simp at hs); (try have hs0 := hs w.heap.size (by omega)); (try have hs1 := hs (w.heap.size + 1) (by omega)); (try have hs2 := hs (w.heap.size + 1 + 1) (by omega)); (try have hs3 := hs (w.heap.size + 1 + 1 + 1) (by omega))
      (try simp only [IntWalk.i64_left])
      go_wp2
      exact ⟨⟨by (repeat (first | with_reducible exact Ext.rfl' _ | with_reducible assumption | with_reducible refine Ext.al ?_ _ | with_reducible refine Ext.dr ?_ | with_reducible refine Ext.st ?_ (by simp) _ | with_reducible refine Ext.tr ?_ (by assumption))), .inr (.inr (.inr ⟨rfl, rfl⟩))⟩, by simp [intOf]⟩
    · go_wp2_with (first | (go_at_call 75; refine Calls.mono (sign_c _ _) ?_; rintro e w' ⟨rfl, rfl⟩))
      go_ret
      exact ⟨rfl, by (repeat (first | with_reducible exact Ext.rfl' _ | with_reducible assumption | with_reducible refine Ext.al ?_ _ | with_reducible refine Ext.dr ?_ | with_reducible refine Ext.st ?_ (by simp) _ | with_reducible refine Ext.tr ?_ (by assumption)))⟩

def triCells (t : Tri) : List Value := [.int .i64 t.1.x, .int .i64 t.1.y, .int .i64 t.2.1.x, .int .i64 t.2.1.y, .int .i64 t.2.2.x, .int .i64 t.2.2.y]
/-- A block of the call's own holds a triangle's corners, and may be written. -/
def HoldsTri (w : World) (b : Nat) (t : Tri) : Prop :=
  b < w.heap.size ∧ (∀ o, w.frozen? ⟨b, o, none⟩ = false) ∧ w.cell? ⟨b, 0, none⟩ = some (.int .i64 t.1.x) ∧ w.cell? ⟨b, 1, none⟩ = some (.int .i64 t.1.y) ∧ w.cell? ⟨b, 2, none⟩ = some (.int .i64 t.2.1.x) ∧
    w.cell? ⟨b, 3, none⟩ = some (.int .i64 t.2.1.y) ∧ w.cell? ⟨b, 4, none⟩ = some (.int .i64 t.2.2.x) ∧ w.cell? ⟨b, 5, none⟩ = some (.int .i64 t.2.2.y)
theorem HoldsTri.ext {w w' : World} {b : Nat} {t : Tri} (h : HoldsTri w b t) (hw : Ext w w') : HoldsTri w' b t := by
  obtain ⟨h0, h1, h2, h3, h4, h5, h6, h7⟩ := h
  refine ⟨hw.sz _ h0, fun o => by rw [hw.frz _ _ h0]; exact h1 o, ?_, ?_, ?_, ?_, ?_, ?_⟩ <;> (rw [hw.ccell _ _ h0]; assumption)

theorem HoldsTri.far {w : World} {b b' o : Nat} {t : Tri} (h : HoldsTri w b' t) (hne : b' ≠ b) (u : Value) : HoldsTri (w.setCell ⟨b, o, none⟩ u) b' t := by
  obtain ⟨h0, h1, h2, h3, h4, h5, h6, h7⟩ := h
  have hc : ∀ i, (w.setCell ⟨b, o, none⟩ u).cell? ⟨b', i, none⟩ = w.cell? ⟨b', i, none⟩ := fun i => World.cell?_setCell_other w ⟨b, o, none⟩ ⟨b', i, none⟩ u (by intro e; injection e with e1; exact hne e1.symm)
  refine ⟨by simpa [World.setCell] using h0, fun i => by simpa [go_sem] using h1 i, ?_, ?_, ?_, ?_, ?_, ?_⟩ <;> (rw [hc]; assumption)
theorem HoldsTri.put {w : World} {b : Nat} {t : Tri} (h : HoldsTri w b t) (p1 p2 q1 q2 r1 r2 : Int) :
    HoldsTri ((((((w.setCell ⟨b, 0, none⟩ (.int .i64 p1)).setCell ⟨b, 1, none⟩ (.int .i64 p2)).setCell ⟨b, 2, none⟩ (.int .i64 q1)).setCell ⟨b, 3, none⟩ (.int .i64 q2)).setCell ⟨b, 4, none⟩ (.int .i64 r1)).setCell ⟨b, 5, none⟩ (.int .i64 r2)) b (⟨p1, p2⟩, ⟨q1, q2⟩, ⟨r1, r2⟩) := by
  obtain ⟨h0, h1, h2, h3, h4, h5, h6, h7⟩ := h
  refine ⟨by simpa [World.setCell] using h0, fun i => by simpa [go_sem] using h1 i, ?_, ?_, ?_, ?_, ?_, ?_⟩ <;> simp [go_sem, h2, h3, h4, h5, h6, h7]
theorem rotN_next {k : Nat} {t t0 t' : Tri} (h : t = rotN k t0) (h' : t' = rot1 t) : t' = rotN (k + 1) t0 := by rw [h', h]; rfl

theorem fromFirst_c (ax ay bx by_ cx cy : Int) (w : World) :
    Calls Try.prog 126 #[.agg #[.int .i64 ax, .int .i64 ay, .int .i64 bx, .int .i64 by_, .int .i64 cx, .int .i64 cy]] w
      fun e w' => e = .returned (.agg (triCells (fromFirst (⟨ax, ay⟩, ⟨bx, by_⟩, ⟨cx, cy⟩))).toArray) ∧ Ext w w' := by
  go_enter Try.func126, Try.ntmps126
  go_wp2
  refine wp_name (fun W hW => ?_)
  have hE : Ext w W := by rw [hW]; (repeat (first | with_reducible exact Ext.rfl' _ | with_reducible assumption | with_reducible refine Ext.al ?_ _ | with_reducible refine Ext.dr ?_ | with_reducible refine Ext.st ?_ (by simp) _ | with_reducible refine Ext.tr ?_ (by assumption)))
  have HW := Lib.hid hW
  clear hW
  go_loopw [3] (fun i wr => Ext w wr ∧ ∃ (k : Nat) (t : Tri), k ≤ 2 ∧ i = .int .i64 k ∧ t = rotN k (⟨ax, ay⟩, ⟨bx, by_⟩, ⟨cx, cy⟩) ∧ HoldsTri wr w.heap.size t ∧ HoldsTri wr (w.heap.size + 1) (⟨0, 0⟩, ⟨0, 0⟩, ⟨0, 0⟩)) (fun i _ => (2 - intOf i).toNat)
  case atStart =>
    refine ⟨hE, 0, _, by omega, rfl, rfl, ?_, ?_⟩
    all_goals
      rw [HW.out]
      refine ⟨by simp <;> omega, fun o => by simp [go_sem], ?_, ?_, ?_, ?_, ?_, ?_⟩ <;> (simp [go_sem]; try rfl)
  case round =>
    obtain ⟨hr, k, t, hk, rfl, ht, h1, h2⟩ := hrel
    have HT := Lib.hid ht
    clear ht
    obtain ⟨⟨p1, p2⟩, ⟨q1, q2⟩, ⟨r1, r2⟩⟩ := t
    have H1 := Lib.hid h1
    have H2 := Lib.hid h2
    unfold HoldsTri at h1 h2
    by_cases hlt : k < 2
    · have hlt' : (k : Int) < 2 := by omega
      cases c1 : decide (0 < cmpPt ⟨p1, p2⟩ ⟨q1, q2⟩) <;> cases c2 : decide (0 < cmpPt ⟨p1, p2⟩ ⟨r1, r2⟩)
      all_goals
        have C1 := Lib.hid c1
        have C2 := Lib.hid c2
        simp only [decide_eq_true_eq, decide_eq_false_iff_not, Int.not_lt] at c1 c2
        go_wp2_with (first | (go_at_call 121; refine Calls.mono (comparePoints_c _ _ _ _ _) ?_; rintro e w1 ⟨rfl, hb⟩; have hc := hb.ccell; have hf := hb.frz; have hs := hb.sz; (try simp at hs); (try have hs0 := hs w.heap.size (by omega)); (try have hs1 := hs (w.heap.size + 1) (by omega)); (try have hs2 := hs (w.heap.size + 1 + 1) (by omega)); (try have hs3 := hs (w.heap.size + 1 + 1 + 1) (by omega))))
      · exact ⟨⟨by (repeat (first | with_reducible exact Ext.rfl' _ | with_reducible assumption | with_reducible refine Ext.al ?_ _ | with_reducible refine Ext.dr ?_ | with_reducible refine Ext.st ?_ (by simp) _ | with_reducible refine Ext.tr ?_ (by assumption))), k + 1, _, by omega, by go_num, rotN_next HT.out (by unfold rot1; simp only [C1.out, C2.out]; rfl), H1.out.ext (by (repeat (first | with_reducible exact Ext.rfl' _ | with_reducible assumption | with_reducible refine Ext.al ?_ _ | with_reducible refine Ext.dr ?_ | with_reducible refine Ext.st ?_ (by simp) _ | with_reducible refine Ext.tr ?_ (by assumption)))), H2.out.ext (by (repeat (first | with_reducible exact Ext.rfl' _ | with_reducible assumption | with_reducible refine Ext.al ?_ _ | with_reducible refine Ext.dr ?_ | with_reducible refine Ext.st ?_ (by simp) _ | with_reducible refine Ext.tr ?_ (by assumption))))⟩, by simp [intOf]; omega⟩
      all_goals exact ⟨⟨by (repeat (first | with_reducible exact Ext.rfl' _ | with_reducible assumption | with_reducible refine Ext.al ?_ _ | with_reducible refine Ext.dr ?_ | with_reducible refine Ext.st ?_ (by simp) _ | with_reducible refine Ext.tr ?_ (by assumption))), k + 1, _, by omega, by go_num, rotN_next HT.out (by unfold rot1; simp only [C1.out, C2.out]; rfl), HoldsTri.put (H1.out.ext (by (repeat (first | with_reducible exact Ext.rfl' _ | with_reducible assumption | with_reducible refine Ext.al ?_ _ | with_reducible refine Ext.dr ?_ | with_reducible refine Ext.st ?_ (by simp) _ | with_reducible refine Ext.tr ?_ (by assumption))))) _ _ _ _ _ _, by (repeat (with_reducible refine HoldsTri.far ?_ (by omega) _)); exact H2.out.ext (by (repeat (first | with_reducible exact Ext.rfl' _ | with_reducible assumption | with_reducible refine Ext.al ?_ _ | with_reducible refine Ext.dr ?_ | with_reducible refine Ext.st ?_ (by simp) _ | with_reducible refine Ext.tr ?_ (by assumption))))⟩, by simp [intOf]; omega⟩
    · have : k = 2 := by omega
      subst this
      go_wp2
      refine bodyPost_ret (v := .agg #[.int .i64 p1, .int .i64 p2, .int .i64 q1, .int .i64 q2, .int .i64 r1, .int .i64 r2]) (by simp [results, Try.results126, go_sem, h2]) rfl ⟨?_, ?_⟩
      · have e := HT.out
        unfold fromFirst
        rw [← e]; rfl
      · (repeat (first | with_reducible exact Ext.rfl' _ | with_reducible assumption | with_reducible refine Ext.al ?_ _ | with_reducible refine Ext.dr ?_ | with_reducible refine Ext.st ?_ (by simp) _ | with_reducible refine Ext.tr ?_ (by assumption)))

end Go.Proofs.Ytcdbekmcobghbaa

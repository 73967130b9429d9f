/- Contracts of the checks of marks and gauges. -/
import Derived.Test.YtmhmfjgahhgbpaaTleaf
import Derived.Deep.DeepCutAuto
namespace Go.Proofs.Ytmhmfjgahhgbpaa
open Go Go.RowKit Go.IntWalk

def firstE (f : Nat → Int) : Nat → Int
  | 0 => 0
  | k + 1 => if firstE f k = 0 then f k else firstE f k
theorem firstE_at {f : Nat → Int} {k n : Nat} (hk : k < n) (h0 : firstE f k = 0) (hne : f k ≠ 0) : firstE f n = f k := by
  have h1 : firstE f (k + 1) = f k := by rw [firstE, if_pos h0]
  have : ∀ m, firstE f (k + 1 + m) = f k := by
    intro m
    induction m with
    | zero => exact h1
    | succ m ih => rw [← Nat.add_assoc, firstE, if_neg (by rw [ih]; exact hne), ih]
  rw [show n = k + 1 + (n - (k + 1)) by omega]
  exact this _
theorem firstE_step {f : Nat → Int} {k : Nat} (h0 : firstE f k = 0) (h1 : f k = 0) : firstE f (k + 1) = 0 := by rw [firstE, if_pos h0, h1]
def okM (p : Pt) : Bool := withinB p.x 0 1000000 && withinB p.y (-20000) 20000
def gt (l : List Pt) (i : Nat) : Pt := l.getD i ⟨0, 0⟩
theorem gt_lt (l : List Pt) (i : Nat) (h : i < l.length) : gt l i = l[i] := by simp [gt, List.getD, h]
def errAt (l : List Pt) (i : Nat) : Int := if okM (gt l i) = false then 2 else if 0 < i ∧ (gt l i).x ≤ (gt l (i - 1)).x then 9 else 0
def marksE (l : List Pt) : Int := if 400 < l.length then 8 else firstE (errAt l) l.length
theorem inRange_c (x y : Int) (r : Bool) (hr : okM ⟨x, y⟩ = r) (w : World) :
    Calls Try.prog 92 #[.agg #[.int .i64 x, .int .i64 y]] w fun e w' => e = .returned (.bool r) ∧ Ext w w' := by
  unfold okM at hr
  simp only at hr
  cases h1 : withinB x 0 1000000
  · have H1 := Lib.hid (fun w => h1 ▸ isMinute_c x w)
    rw [h1] at hr
    go_enter Try.func92, Try.ntmps92
    go_wp2_with (first | (go_at_call 59; refine Calls.mono (H1.out _) ?_; rintro e w' ⟨rfl, rfl⟩))
    go_ret; exact ⟨by simpa using hr, by (repeat (first | with_reducible exact Ext.rfl' _ | with_reducible assumption | with_reducible refine Ext.al ?_ _ | with_reducible refine Ext.dr ?_ | with_reducible refine Ext.st ?_ (by simp) _ | with_reducible refine Ext.tr ?_ (by assumption)))⟩
  · have H1 := Lib.hid (fun w => h1 ▸ isMinute_c x w)
    have H2 := Lib.hid (fun w => tin_c y (-20000) 20000 w)
    rw [h1, Bool.true_and] at hr
    rw [hr] at H2
    go_enter Try.func92, Try.ntmps92
    go_wp2_with (first | (go_at_call 59; refine Calls.mono (H1.out _) ?_; rintro e w' ⟨rfl, rfl⟩) | (go_at_call 71; refine Calls.mono (H2.out _) ?_; rintro e w' ⟨rfl, rfl⟩))
    go_ret; exact ⟨rfl, by (repeat (first | with_reducible exact Ext.rfl' _ | with_reducible assumption | with_reducible refine Ext.al ?_ _ | with_reducible refine Ext.dr ?_ | with_reducible refine Ext.st ?_ (by simp) _ | with_reducible refine Ext.tr ?_ (by assumption)))⟩
theorem checkMark_c (x y : Int) (r : Bool) (hr : okM ⟨x, y⟩ = r) (w : World) :
    Calls Try.prog 78 #[.agg #[.int .i64 x, .int .i64 y]] w fun e w' => e = .returned (.int .i64 (if r then 0 else 2)) ∧ Ext w w' := by
  unfold okM at hr
  simp only at hr
  have H1 := Lib.hid (fun w => inside_c x 0 1000000 w)
  have H2 := Lib.hid (fun w => inside_c y (-20000) 20000 w)
  cases h1 : withinB x 0 1000000
  · rw [h1] at hr H1
    rw [Bool.false_and] at hr
    subst hr
    go_enter Try.func78, Try.ntmps78
    go_wp2_with (first | (go_at_call 77; with_reducible refine Calls.mono (H1.out _) ?_; rintro e w' ⟨rfl, rfl⟩))
    go_ret; exact ⟨rfl, by (repeat (first | with_reducible exact Ext.rfl' _ | with_reducible assumption | with_reducible refine Ext.al ?_ _ | with_reducible refine Ext.dr ?_ | with_reducible refine Ext.st ?_ (by simp) _ | with_reducible refine Ext.tr ?_ (by assumption)))⟩
  · rw [h1, Bool.true_and] at hr
    rw [h1] at H1
    rw [hr] at H2
    cases r
    all_goals
      go_enter Try.func78, Try.ntmps78
      go_wp2_with (first | (go_at_call 77; (first | (with_reducible refine Calls.mono (H1.out _) ?_) | (with_reducible refine Calls.mono (H2.out _) ?_)); rintro e w' ⟨rfl, rfl⟩))
      go_ret; exact ⟨rfl, by (repeat (first | with_reducible exact Ext.rfl' _ | with_reducible assumption | with_reducible refine Ext.al ?_ _ | with_reducible refine Ext.dr ?_ | with_reducible refine Ext.st ?_ (by simp) _ | with_reducible refine Ext.tr ?_ (by assumption)))⟩
theorem Row.r2 {w : World} {b off : Nat} {l : List Pt} (h : Row 2 encP w (some ⟨b, off, none⟩) l) {k : Nat} (hk : k < l.length) :
    ∀ w', Ext w w' → w'.cell? ⟨b, off + k * 2, none⟩ = some (.int .i64 l[k].x) ∧ w'.cell? ⟨b, off + k * 2 + 1, none⟩ = some (.int .i64 l[k].y) := by
  obtain ⟨b', off', h1, _, h3⟩ := h.p2 hk
  injection h1 with h1
  injection h1 with h1 h2
  subst h1 h2
  exact h3

set_option maxHeartbeats 2000000 in
theorem checkMarks_c (l : List Pt) (w : World) (A : Option Addr) (c : Nat) (hl : l.length ≤ 1000) (hA : Row 2 encP w A l) :
    Calls Try.prog 82 #[.slice A l.length c] w fun e w' => e = .returned (.int .i64 (marksE l)) ∧ Ext w w' := by
  by_cases h1 : 400 < l.length
  · have h1' : (400 : Int) < (l.length : Int) := by omega
    unfold marksE
    rw [if_pos h1]
    go_enter Try.func82, Try.ntmps82
    go_wp2
    go_ret
    exact ⟨rfl, by (repeat (first | with_reducible exact Ext.rfl' _ | with_reducible assumption | with_reducible refine Ext.al ?_ _ | with_reducible refine Ext.dr ?_ | with_reducible refine Ext.st ?_ (by simp) _ | with_reducible refine Ext.tr ?_ (by assumption)))⟩
  have h1' : ¬ (400 : Int) < (l.length : Int) := by omega
  obtain ⟨E, hE0⟩ : ∃ E, marksE l = E := ⟨_, rfl⟩
  rw [hE0]
  unfold marksE at hE0
  rw [if_neg h1] at hE0
  have HT := Lib.hid hE0
  clear hE0 h1
  go_enter Try.func82, Try.ntmps82
  go_wp2
  go_loopw [3, 4, 10] (fun _ _ i wr => Ext w wr ∧ ∃ k : Nat, k ≤ l.length ∧ i = .int .i64 k ∧ Hid (firstE (errAt l) k = 0)) (fun _ _ i _ => l.length - (intOf i).toNat)
  case atStart => exact ⟨Ext.rfl' _, 0, Nat.zero_le _, rfl, rfl⟩
  case round =>
    obtain ⟨hE, k, hk, rfl, hF⟩ := hrel
    by_cases hlt : k < l.length
    · obtain ⟨b, off, rfl, hb0, hcell⟩ := hA.p2 hlt
      have c := hcell _ hE
      clear hcell
      have hz := hE.sz _ hb0
      have hg := gt_lt l k hlt
      cases hok : okM l[k]
      · have hA0 : errAt l k = 2 := by unfold errAt; rw [hg, if_pos hok]
        have HE := Lib.hid hA0
        have HI := Lib.hid (fun w => inRange_c l[k].x l[k].y false hok w)
        clear hok hA0 hg
        go_wp2_with (first | (go_at_call 92; with_reducible refine Calls.mono (HI.out _) ?_; rintro e w1 ⟨rfl, hb⟩; have hc := hb.ccell; have hf := hb.frz; have hs := hb.sz; (try simp at hs); (try have hs0 := hs w.heap.size (by omega)); (try have hs1 := hs (w.heap.size + 1) (by omega)); (try have hs2 := hs (w.heap.size + 1 + 1) (by omega)); (try have hs3 := hs (w.heap.size + 1 + 1 + 1) (by omega))))
        go_ret
        exact ⟨ret_int (by rw [← HT.out, firstE_at hlt hF.out (by rw [HE.out]; decide), HE.out]), by (repeat (first | with_reducible exact Ext.rfl' _ | with_reducible assumption | with_reducible refine Ext.al ?_ _ | with_reducible refine Ext.dr ?_ | with_reducible refine Ext.st ?_ (by simp) _ | with_reducible refine Ext.tr ?_ (by assumption)))⟩
      · have HI := Lib.hid (fun w => inRange_c l[k].x l[k].y true hok w)
        rcases (by omega : (k : Int) ≤ 0 ∨ 0 < (k : Int)) with k0 | k0
        · have hA0 : errAt l k = 0 := by unfold errAt; rw [hg, if_neg (by rw [hok]; decide), if_neg (by omega)]
          have g0 : (0 < k) = False := eq_false (by omega)
          have HE := Lib.hid hA0
          clear hok hA0 hg
          go_upto_region 8 with (first | (go_at_call 92; with_reducible refine Calls.mono (HI.out _) ?_; rintro e w1 ⟨rfl, hb⟩; have hc := hb.ccell; have hf := hb.frz; have hs := hb.sz; (try simp at hs); (try have hs0 := hs w.heap.size (by omega)); (try have hs1 := hs (w.heap.size + 1) (by omega)); (try have hs2 := hs (w.heap.size + 1 + 1) (by omega)); (try have hs3 := hs (w.heap.size + 1 + 1 + 1) (by omega))))
          refine region_grow (by kernel_rfl) (by kernel_rfl) ?_
          repeat (first | go_big_quiet_step (first  | fail) | quiet_step (first  | fail))
          refine wpQuiet_nil ?_
          intro w1 hb
          have hc := hb.ccell
          have hf := hb.frz
          have hs := hb.sz
          (try simp at hs); (try have hs0 := hs w.heap.size (by omega)); (try have hs1 := hs (w.heap.size + 1) (by omega)); (try have hs2 := hs (w.heap.size + 1 + 1) (by omega)); (try have hs3 := hs (w.heap.size + 1 + 1 + 1) (by omega))
          (try simp only [IntWalk.i64_left])
          go_wp2
          exact ⟨⟨by (repeat (first | with_reducible exact Ext.rfl' _ | with_reducible assumption | with_reducible refine Ext.al ?_ _ | with_reducible refine Ext.dr ?_ | with_reducible refine Ext.st ?_ (by simp) _ | with_reducible refine Ext.tr ?_ (by assumption))), k + 1, by omega, by go_num, firstE_step hF.out HE.out⟩, by simp [intOf]; omega⟩
        · obtain ⟨j, hj⟩ : ∃ j, k = j + 1 := ⟨k - 1, by omega⟩
          have hjl : j < l.length := by omega
          have g0 : (0 < k) = True := eq_true (by omega)
          have cj := hA.r2 hjl _ hE
          have hgj := gt_lt l j hjl
          have hjz : (k : Int) - 1 = (j : Int) := by omega
          have hA0 : errAt l k = if l[k].x ≤ l[j].x then 9 else 0 := by
            unfold errAt
            rw [hg, if_neg (by rw [hok]; decide), show k - 1 = j by omega, hgj]
            by_cases h : l[k].x ≤ l[j].x
            · rw [if_pos ⟨by omega, h⟩, if_pos h]
            · rw [if_neg (by omega), if_neg h]
          have HE := Lib.hid hA0
          have HJ := Lib.hid hj
          clear hok hA0 hg hgj hj
          by_cases hle : l[k].x ≤ l[j].x
          · have hE9 := HE.out
            rw [if_pos hle] at hE9
            have HE9 := Lib.hid hE9
            clear hE9 HE
            go_upto_region 8 with (first | (go_at_call 92; with_reducible refine Calls.mono (HI.out _) ?_; rintro e w1 ⟨rfl, hb⟩; have hc := hb.ccell; have hf := hb.frz; have hs := hb.sz; (try simp at hs); (try have hs0 := hs w.heap.size (by omega)); (try have hs1 := hs (w.heap.size + 1) (by omega)); (try have hs2 := hs (w.heap.size + 1 + 1) (by omega)); (try have hs3 := hs (w.heap.size + 1 + 1 + 1) (by omega))))
            have tb := hs b (by omega)
            refine region_grow (by kernel_rfl) (by kernel_rfl) ?_
            repeat (first | go_big_quiet_step (first  | fail) | quiet_step (first  | fail))
            refine wpQuiet_nil ?_
            intro w1 hb
            have hc := hb.ccell
            have hf := hb.frz
            have hs := hb.sz
            (try simp at hs); (try have hs0 := hs w.heap.size (by omega)); (try have hs1 := hs (w.heap.size + 1) (by omega)); (try have hs2 := hs (w.heap.size + 1 + 1) (by omega)); (try have hs3 := hs (w.heap.size + 1 + 1 + 1) (by omega))
            (try simp only [IntWalk.i64_left])
            go_wp2
            go_ret
            exact ⟨ret_int (by rw [← HT.out, firstE_at hlt hF.out (by rw [HE9.out]; decide), HE9.out]), by (repeat (first | with_reducible exact Ext.rfl' _ | with_reducible assumption | with_reducible refine Ext.al ?_ _ | with_reducible refine Ext.dr ?_ | with_reducible refine Ext.st ?_ (by simp) _ | with_reducible refine Ext.tr ?_ (by assumption)))⟩
          · have hE9 := HE.out
            rw [if_neg hle] at hE9
            have HE9 := Lib.hid hE9
            clear hE9 HE
            go_upto_region 8 with (first | (go_at_call 92; with_reducible refine Calls.mono (HI.out _) ?_; rintro e w1 ⟨rfl, hb⟩; have hc := hb.ccell; have hf := hb.frz; have hs := hb.sz; (try simp at hs); (try have hs0 := hs w.heap.size (by omega)); (try have hs1 := hs (w.heap.size + 1) (by omega)); (try have hs2 := hs (w.heap.size + 1 + 1) (by omega)); (try have hs3 := hs (w.heap.size + 1 + 1 + 1) (by omega))))
            have tb := hs b (by omega)
            refine region_grow (by kernel_rfl) (by kernel_rfl) ?_
            repeat (first | go_big_quiet_step (first  | fail) | quiet_step (first  | fail))
            refine wpQuiet_nil ?_
            intro w1 hb
            have hc := hb.ccell
            have hf := hb.frz
            have hs := hb.sz
            (try simp at hs); (try have hs0 := hs w.heap.size (by omega)); (try have hs1 := hs (w.heap.size + 1) (by omega)); (try have hs2 := hs (w.heap.size + 1 + 1) (by omega)); (try have hs3 := hs (w.heap.size + 1 + 1 + 1) (by omega))
            (try simp only [IntWalk.i64_left])
            go_wp2
            exact ⟨⟨by (repeat (first | with_reducible exact Ext.rfl' _ | with_reducible assumption | with_reducible refine Ext.al ?_ _ | with_reducible refine Ext.dr ?_ | with_reducible refine Ext.st ?_ (by simp) _ | with_reducible refine Ext.tr ?_ (by assumption))), k + 1, by omega, by go_num, firstE_step hF.out HE9.out⟩, by simp [intOf]; omega⟩
    · have hks : k = l.length := by omega
      have hT := HT.out
      rw [← hks, hF.out] at hT
      have HT2 := Lib.hid hT
      clear hT hF
      go_wp2
      go_ret
      exact ⟨ret_int HT2.out, by (repeat (first | with_reducible exact Ext.rfl' _ | with_reducible assumption | with_reducible refine Ext.al ?_ _ | with_reducible refine Ext.dr ?_ | with_reducible refine Ext.st ?_ (by simp) _ | with_reducible refine Ext.tr ?_ (by assumption)))⟩
end Go.Proofs.Ytmhmfjgahhgbpaa

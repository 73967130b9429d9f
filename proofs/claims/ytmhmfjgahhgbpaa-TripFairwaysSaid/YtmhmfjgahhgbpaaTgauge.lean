/- Contracts of CheckGauge and of the reference's CheckGauge. -/
import Derived.Test.YtmhmfjgahhgbpaaTmark
namespace Go.Proofs.Ytmhmfjgahhgbpaa
open Go Go.RowKit Go.IntWalk

def gaugeE (s : ByteArray) (x e : Int) (l : List Pt) : Int := if nameB s = false then 4 else if (withinB x (-1000000) 1000000 && withinB e 0 1000) = false then 2 else marksE l
theorem containsNil_c (f : Value) (w : World) :
    Calls Try.prog 80 #[.slice none 0 0, f] w fun e w' => e = .returned (.bool false) ∧ w = w' := by
  have hI : ∀ w, Calls Try.prog 91 #[.slice none 0 0, f] w fun e w' => e = .returned (.int .i64 (-1)) ∧ w = w' := by
    intro w
    go_enter Try.func91, Try.ntmps91
    go_wp2
    go_loopw [5, 8] (fun _ i wr => wr = w ∧ i = .int .i64 0) (fun _ _ _ => 0)
    case atStart => exact ⟨rfl, rfl⟩
    case round =>
      obtain ⟨rfl, rfl⟩ := hrel
      go_wp2
      go_ret
      exact ⟨rfl, rfl⟩
  have HI := Lib.hid hI
  clear hI
  go_enter Try.func80, Try.ntmps80
  go_wp2_with (first | (go_at_call 91; refine Calls.mono (HI.out _) ?_; rintro e w' ⟨rfl, rfl⟩))
  go_ret
  exact ⟨rfl, rfl⟩

set_option maxHeartbeats 2000000 in
theorem checkNil_c (s : ByteArray) (x er : Int) (l : List Pt) (w : World) (A : Option Addr) (c : Nat) (hl : l.length ≤ 1000) (hA : Row 2 encP w A l) :
    Calls Try.prog 62 #[.slice none 0 0, .agg #[.string s, .int .i64 x, .int .i64 er, .slice A l.length c]] w fun e w' => e = .returned (.int .i64 (gaugeE s x er l)) ∧ Ext w w' := by
  have HN := Lib.hid (fun w => isName_c s w)
  have HP := Lib.hid (fun w => isPlace_c x w)
  have HW := Lib.hid (fun w => tin_c er 0 1000 w)
  have HM := Lib.hid (fun w' (hw : Ext w w') => checkMarks_c l w' A c hl (hA.ext hw))
  unfold gaugeE
  cases hn : nameB s
  · rw [hn] at HN
    rw [if_pos rfl]
    go_enter Try.func62, Try.ntmps62
    go_wp2_with (first | (go_at_call 79; refine Calls.mono (HN.out _) ?_; rintro e w' ⟨rfl, rfl⟩))
    go_ret
    exact ⟨rfl, by (repeat (first | with_reducible exact Ext.rfl' _ | with_reducible assumption | with_reducible refine Ext.al ?_ _ | with_reducible refine Ext.dr ?_ | with_reducible refine Ext.st ?_ (by simp) _ | with_reducible refine Ext.tr ?_ (by assumption)))⟩
  rw [hn] at HN
  rw [if_neg (by decide)]
  clear hn
  cases hx : withinB x (-1000000) 1000000
  · rw [hx] at HP
    rw [if_pos (show (false && withinB er 0 1000) = false from rfl)]
    clear hx
    go_enter Try.func62, Try.ntmps62
    go_wp2_with (first | (go_at_call 79; refine Calls.mono (HN.out _) ?_; rintro e w' ⟨rfl, rfl⟩) | (go_at_call 80; refine Calls.mono (containsNil_c _ _) ?_; rintro e w' ⟨rfl, rfl⟩) | (go_at_call 58; refine Calls.mono (HP.out _) ?_; rintro e w' ⟨rfl, rfl⟩))
    go_ret
    exact ⟨rfl, by (repeat (first | with_reducible exact Ext.rfl' _ | with_reducible assumption | with_reducible refine Ext.al ?_ _ | with_reducible refine Ext.dr ?_ | with_reducible refine Ext.st ?_ (by simp) _ | with_reducible refine Ext.tr ?_ (by assumption)))⟩
  rw [hx] at HP
  clear hx
  cases he : withinB er 0 1000
  · rw [he] at HW
    rw [if_pos (show (true && false) = false from rfl)]
    clear he
    go_enter Try.func62, Try.ntmps62
    go_wp2_with (first | (go_at_call 79; refine Calls.mono (HN.out _) ?_; rintro e w' ⟨rfl, rfl⟩) | (go_at_call 80; refine Calls.mono (containsNil_c _ _) ?_; rintro e w' ⟨rfl, rfl⟩) | (go_at_call 58; refine Calls.mono (HP.out _) ?_; rintro e w' ⟨rfl, rfl⟩) | (go_at_call 71; refine Calls.mono (HW.out _) ?_; rintro e w' ⟨rfl, rfl⟩))
    go_ret
    exact ⟨rfl, by (repeat (first | with_reducible exact Ext.rfl' _ | with_reducible assumption | with_reducible refine Ext.al ?_ _ | with_reducible refine Ext.dr ?_ | with_reducible refine Ext.st ?_ (by simp) _ | with_reducible refine Ext.tr ?_ (by assumption)))⟩
  rw [he] at HW
  rw [if_neg (by decide)]
  clear he
  generalize marksE l = r at *
  by_cases hr : r = 0
  · subst hr
    go_enter Try.func62, Try.ntmps62
    go_upto_region 11 with (first | (go_at_call 79; refine Calls.mono (HN.out _) ?_; rintro e w' ⟨rfl, rfl⟩) | (go_at_call 80; refine Calls.mono (containsNil_c _ _) ?_; rintro e w' ⟨rfl, rfl⟩) | (go_at_call 58; refine Calls.mono (HP.out _) ?_; rintro e w' ⟨rfl, rfl⟩) | (go_at_call 71; refine Calls.mono (HW.out _) ?_; rintro e w' ⟨rfl, rfl⟩) | (go_at_call 82; with_reducible refine Calls.mono (HM.out _ (by (repeat (first | with_reducible exact Ext.rfl' _ | with_reducible assumption | with_reducible refine Ext.al ?_ _ | with_reducible refine Ext.dr ?_ | with_reducible refine Ext.st ?_ (by simp) _ | with_reducible refine Ext.tr ?_ (by assumption))))) ?_; rintro e w1 ⟨rfl, hb⟩; have hc := hb.ccell; have hf := hb.frz; have hs := hb.sz; (try simp at hs); (try have hs0 := hs w.heap.size (by omega)); (try have hs1 := hs (w.heap.size + 1) (by omega)); (try have hs2 := hs (w.heap.size + 1 + 1) (by omega)); (try have hs3 := hs (w.heap.size + 1 + 1 + 1) (by omega))))
    refine region_grow (by kernel_rfl) (by kernel_rfl) ?_
    repeat (first | go_big_quiet_step (first  | fail) | quiet_step (first  | fail))
    refine wpQuiet_nil ?_
    intro w1 hb
    have hc := hb.ccell
    have hf := hb.frz
    have hs := hb.sz
    (try simp at hs); (try have hs0 := hs w.heap.size (by omega)); (try have hs1 := hs (w.heap.size + 1) (by omega)); (try have hs2 := hs (w.heap.size + 1 + 1) (by omega)); (try have hs3 := hs (w.heap.size + 1 + 1 + 1) (by omega))
    (try simp only [IntWalk.i64_left])
    go_wp2
    go_ret
    exact ⟨rfl, by (repeat (first | with_reducible exact Ext.rfl' _ | with_reducible assumption | with_reducible refine Ext.al ?_ _ | with_reducible refine Ext.dr ?_ | with_reducible refine Ext.st ?_ (by simp) _ | with_reducible refine Ext.tr ?_ (by assumption)))⟩
  · have h' : (r == 0) = false := by simp [hr]
    go_enter Try.func62, Try.ntmps62
    go_wp2_with (first | (go_at_call 79; refine Calls.mono (HN.out _) ?_; rintro e w' ⟨rfl, rfl⟩) | (go_at_call 80; refine Calls.mono (containsNil_c _ _) ?_; rintro e w' ⟨rfl, rfl⟩) | (go_at_call 58; refine Calls.mono (HP.out _) ?_; rintro e w' ⟨rfl, rfl⟩) | (go_at_call 71; refine Calls.mono (HW.out _) ?_; rintro e w' ⟨rfl, rfl⟩) | (go_at_call 82; with_reducible refine Calls.mono (HM.out _ (by (repeat (first | with_reducible exact Ext.rfl' _ | with_reducible assumption | with_reducible refine Ext.al ?_ _ | with_reducible refine Ext.dr ?_ | with_reducible refine Ext.st ?_ (by simp) _ | with_reducible refine Ext.tr ?_ (by assumption))))) ?_; rintro e w1 ⟨rfl, hb⟩; have hc := hb.ccell; have hf := hb.frz; have hs := hb.sz; (try simp at hs); (try have hs0 := hs w.heap.size (by omega)); (try have hs1 := hs (w.heap.size + 1) (by omega)); (try have hs2 := hs (w.heap.size + 1 + 1) (by omega)); (try have hs3 := hs (w.heap.size + 1 + 1 + 1) (by omega))))
    go_ret
    exact ⟨rfl, by (repeat (first | with_reducible exact Ext.rfl' _ | with_reducible assumption | with_reducible refine Ext.al ?_ _ | with_reducible refine Ext.dr ?_ | with_reducible refine Ext.st ?_ (by simp) _ | with_reducible refine Ext.tr ?_ (by assumption)))⟩
set_option maxHeartbeats 4000000 in
theorem record_c (s : ByteArray) (x er : Int) (l : List Pt) (w : World) (A : Option Addr) (c : Nat) (hl : l.length ≤ 1000) (hA : Row 2 encP w A l) :
    Calls Try.prog 61 #[.agg #[.string s, .int .i64 x, .int .i64 er, .slice A l.length c]] w
      fun e w' => e = .returned (.int .i64 (if (withinB x (-1000000) 1000000 && withinB er 0 1000) = false then 2 else marksE l)) ∧ Ext w w' := by
  have HX := Lib.hid (fun w => inside_c x (-1000000) 1000000 w)
  have HW := Lib.hid (fun w => inside_c er 0 1000 w)
  cases hx : withinB x (-1000000) 1000000
  · rw [hx] at HX
    rw [if_pos (show (false && withinB er 0 1000) = false from rfl)]
    clear hx
    go_enter Try.func61, Try.ntmps61
    go_wp2_with (first | (go_at_call 77; with_reducible refine Calls.mono (HX.out _) ?_; rintro e w' ⟨rfl, rfl⟩))
    go_ret
    exact ⟨rfl, by (repeat (first | with_reducible exact Ext.rfl' _ | with_reducible assumption | with_reducible refine Ext.al ?_ _ | with_reducible refine Ext.dr ?_ | with_reducible refine Ext.st ?_ (by simp) _ | with_reducible refine Ext.tr ?_ (by assumption)))⟩
  rw [hx] at HX
  clear hx
  cases he : withinB er 0 1000
  · rw [he] at HW
    rw [if_pos (show (true && false) = false from rfl)]
    clear he
    go_enter Try.func61, Try.ntmps61
    go_wp2_with (first | (go_at_call 77; (first | (with_reducible refine Calls.mono (HX.out _) ?_) | (with_reducible refine Calls.mono (HW.out _) ?_)); rintro e w' ⟨rfl, rfl⟩))
    go_ret
    exact ⟨rfl, by (repeat (first | with_reducible exact Ext.rfl' _ | with_reducible assumption | with_reducible refine Ext.al ?_ _ | with_reducible refine Ext.dr ?_ | with_reducible refine Ext.st ?_ (by simp) _ | with_reducible refine Ext.tr ?_ (by assumption)))⟩
  rw [he] at HW
  rw [if_neg (by decide)]
  clear he
  by_cases h1 : 400 < l.length
  · have h1' : (400 : Int) < (l.length : Int) := by omega
    unfold marksE
    rw [if_pos h1]
    go_enter Try.func61, Try.ntmps61
    go_wp2_with (first | (go_at_call 77; (first | (with_reducible refine Calls.mono (HX.out _) ?_) | (with_reducible refine Calls.mono (HW.out _) ?_)); rintro e w' ⟨rfl, rfl⟩))
    go_ret
    exact ⟨rfl, by (repeat (first | with_reducible exact Ext.rfl' _ | with_reducible assumption | with_reducible refine Ext.al ?_ _ | with_reducible refine Ext.dr ?_ | with_reducible refine Ext.st ?_ (by simp) _ | with_reducible refine Ext.tr ?_ (by assumption)))⟩
  have h1' : ¬ (400 : Int) < (l.length : Int) := by omega
  obtain ⟨E, hE0⟩ : ∃ E, marksE l = E := ⟨_, rfl⟩
  rw [hE0]
  unfold marksE at hE0
  rw [if_neg h1] at hE0
  have HT := Lib.hid hE0
  clear hE0 h1
  go_enter Try.func61, Try.ntmps61
  go_wp2_with (first | (go_at_call 77; (first | (with_reducible refine Calls.mono (HX.out _) ?_) | (with_reducible refine Calls.mono (HW.out _) ?_)); rintro e w' ⟨rfl, rfl⟩))
  have hEp : Ext w (w.alloc (.cells #[.string s, .int .i64 x, .int .i64 er, .slice A l.length c] 85)) := by (repeat (first | with_reducible exact Ext.rfl' _ | with_reducible assumption | with_reducible refine Ext.al ?_ _ | with_reducible refine Ext.dr ?_ | with_reducible refine Ext.st ?_ (by simp) _ | with_reducible refine Ext.tr ?_ (by assumption)))
  have k3 : (w.alloc (.cells #[.string s, .int .i64 x, .int .i64 er, .slice A l.length c] 85)).cell? ⟨w.heap.size, 3, none⟩ = some (.slice A l.length c) := by simp [World.cell?_alloc_new, go_sem]
  have zp : w.heap.size < (w.alloc (.cells #[.string s, .int .i64 x, .int .i64 er, .slice A l.length c] 85)).heap.size := by simp
  generalize w.alloc (.cells #[.string s, .int .i64 x, .int .i64 er, .slice A l.length c] 85) = wp at *
  go_loopw [3, 4] (fun i _ wr => Ext wp wr ∧ ∃ k : Nat, k ≤ l.length ∧ i = .int .i64 k ∧ Hid (firstE (errAt l) k = 0)) (fun i _ _ => l.length - (intOf i).toNat)
  case atStart => exact ⟨Ext.rfl' _, 0, Nat.zero_le _, rfl, rfl⟩
  case round =>
    obtain ⟨hr, k, hk, rfl, hF⟩ := hrel
    have hE : Ext w wr := hEp.tr hr
    have e3 := (hr.ccell _ 3 zp).trans k3
    have hzp := hr.sz _ zp
    by_cases hlt : k < l.length
    · obtain ⟨b, off, rfl, hb0, hcell⟩ := hA.p2 hlt
      have c := hcell _ hE
      clear hcell
      have hz := hE.sz _ hb0
      have hg := gt_lt l k hlt
      cases hok : okM l[k]
      · have hA0 : errAt l k = 2 := by unfold errAt; rw [hg, if_pos hok]
        have HE := Lib.hid hA0
        have HI := Lib.hid (fun w => checkMark_c l[k].x l[k].y false hok w)
        clear hok hA0 hg
        go_wp2_with (first | (go_at_call 78; with_reducible refine Calls.mono (HI.out _) ?_; rintro e w1 ⟨rfl, hb⟩; have hc := hb.ccell; have hf := hb.frz; have hs := hb.sz; (try simp at hs); (try have hs0 := hs w.heap.size (by omega)); (try have hs1 := hs (w.heap.size + 1) (by omega)); (try have hs2 := hs (w.heap.size + 1 + 1) (by omega)); (try have hs3 := hs (w.heap.size + 1 + 1 + 1) (by omega))))
        go_ret
        exact ⟨ret_int (by rw [← HT.out, firstE_at hlt hF.out (by rw [HE.out]; decide), HE.out]), by (repeat (first | with_reducible exact Ext.rfl' _ | with_reducible assumption | with_reducible refine Ext.al ?_ _ | with_reducible refine Ext.dr ?_ | with_reducible refine Ext.st ?_ (by simp) _ | with_reducible refine Ext.tr ?_ (by assumption)))⟩
      · have HI := Lib.hid (fun w => checkMark_c l[k].x l[k].y true hok w)
        rcases (by omega : (k : Int) ≤ 0 ∨ 0 < (k : Int)) with k0 | k0
        · have hA0 : errAt l k = 0 := by unfold errAt; rw [hg, if_neg (by rw [hok]; decide), if_neg (by omega)]
          have g0 : (0 < k) = False := eq_false (by omega)
          have HE := Lib.hid hA0
          clear hok hA0 hg
          go_upto_region 11 with (first | (go_at_call 78; with_reducible refine Calls.mono (HI.out _) ?_; rintro e w1 ⟨rfl, hb⟩; have hc := hb.ccell; have hf := hb.frz; have hs := hb.sz; (try simp at hs); (try have hs0 := hs w.heap.size (by omega)); (try have hs1 := hs (w.heap.size + 1) (by omega)); (try have hs2 := hs (w.heap.size + 1 + 1) (by omega)); (try have hs3 := hs (w.heap.size + 1 + 1 + 1) (by omega))))
          have tb := hs b (by omega)
          have tp := hs w.heap.size (by omega)
          refine region_grow (by kernel_rfl) (by kernel_rfl) ?_
          repeat (first | go_big_quiet_step (first  | fail) | quiet_step (first  | fail))
          refine wpQuiet_nil ?_
          intro w1 hb
          have hc := hb.ccell
          have hf := hb.frz
          have hs := hb.sz
          (try simp at hs); (try have hs0 := hs w.heap.size (by omega)); (try have hs1 := hs (w.heap.size + 1) (by omega)); (try have hs2 := hs (w.heap.size + 1 + 1) (by omega)); (try have hs3 := hs (w.heap.size + 1 + 1 + 1) (by omega))
          (try simp only [IntWalk.i64_left])
          go_wp2
          exact ⟨⟨by (repeat (first | with_reducible exact Ext.rfl' _ | with_reducible assumption | with_reducible refine Ext.al ?_ _ | with_reducible refine Ext.dr ?_ | with_reducible refine Ext.st ?_ (by simp) _ | with_reducible refine Ext.tr ?_ (by assumption))), k + 1, by omega, by go_num, firstE_step hF.out HE.out⟩, by simp [intOf]; omega⟩
        · obtain ⟨j, hj⟩ : ∃ j, k = j + 1 := ⟨k - 1, by omega⟩
          have hjl : j < l.length := by omega
          have g0 : (0 < k) = True := eq_true (by omega)
          have cj := hA.r2 hjl _ hE
          have hgj := gt_lt l j hjl
          have hjz : (k : Int) - 1 = (j : Int) := by omega
          have hA0 : errAt l k = if l[k].x ≤ l[j].x then 9 else 0 := by
            unfold errAt
            rw [hg, if_neg (by rw [hok]; decide), show k - 1 = j by omega, hgj]
            by_cases h : l[k].x ≤ l[j].x
            · rw [if_pos ⟨by omega, h⟩, if_pos h]
            · rw [if_neg (by omega), if_neg h]
          have HE := Lib.hid hA0
          have HJ := Lib.hid hj
          clear hok hA0 hg hgj hj
          by_cases hle : l[k].x ≤ l[j].x
          · have hE9 := HE.out
            rw [if_pos hle] at hE9
            have HE9 := Lib.hid hE9
            clear hE9 HE
            go_upto_region 11 with (first | (go_at_call 78; with_reducible refine Calls.mono (HI.out _) ?_; rintro e w1 ⟨rfl, hb⟩; have hc := hb.ccell; have hf := hb.frz; have hs := hb.sz; (try simp at hs); (try have hs0 := hs w.heap.size (by omega)); (try have hs1 := hs (w.heap.size + 1) (by omega)); (try have hs2 := hs (w.heap.size + 1 + 1) (by omega)); (try have hs3 := hs (w.heap.size + 1 + 1 + 1) (by omega))))
            have tb := hs b (by omega)
            have tp := hs w.heap.size (by omega)
            refine region_grow (by kernel_rfl) (by kernel_rfl) ?_
            repeat (first | go_big_quiet_step (first  | fail) | quiet_step (first  | fail))
            refine wpQuiet_nil ?_
            intro w1 hb
            have hc := hb.ccell
            have hf := hb.frz
            have hs := hb.sz
            (try simp at hs); (try have hs0 := hs w.heap.size (by omega)); (try have hs1 := hs (w.heap.size + 1) (by omega)); (try have hs2 := hs (w.heap.size + 1 + 1) (by omega)); (try have hs3 := hs (w.heap.size + 1 + 1 + 1) (by omega))
            (try simp only [IntWalk.i64_left])
            go_wp2
            go_ret
            exact ⟨ret_int (by rw [← HT.out, firstE_at hlt hF.out (by rw [HE9.out]; decide), HE9.out]), by (repeat (first | with_reducible exact Ext.rfl' _ | with_reducible assumption | with_reducible refine Ext.al ?_ _ | with_reducible refine Ext.dr ?_ | with_reducible refine Ext.st ?_ (by simp) _ | with_reducible refine Ext.tr ?_ (by assumption)))⟩
          · have hE9 := HE.out
            rw [if_neg hle] at hE9
            have HE9 := Lib.hid hE9
            clear hE9 HE
            go_upto_region 11 with (first | (go_at_call 78; with_reducible refine Calls.mono (HI.out _) ?_; rintro e w1 ⟨rfl, hb⟩; have hc := hb.ccell; have hf := hb.frz; have hs := hb.sz; (try simp at hs); (try have hs0 := hs w.heap.size (by omega)); (try have hs1 := hs (w.heap.size + 1) (by omega)); (try have hs2 := hs (w.heap.size + 1 + 1) (by omega)); (try have hs3 := hs (w.heap.size + 1 + 1 + 1) (by omega))))
            have tb := hs b (by omega)
            have tp := hs w.heap.size (by omega)
            refine region_grow (by kernel_rfl) (by kernel_rfl) ?_
            repeat (first | go_big_quiet_step (first  | fail) | quiet_step (first  | fail))
            refine wpQuiet_nil ?_
            intro w1 hb
            have hc := hb.ccell
            have hf := hb.frz
            have hs := hb.sz
            (try simp at hs); (try have hs0 := hs w.heap.size (by omega)); (try have hs1 := hs (w.heap.size + 1) (by omega)); (try have hs2 := hs (w.heap.size + 1 + 1) (by omega)); (try have hs3 := hs (w.heap.size + 1 + 1 + 1) (by omega))
            (try simp only [IntWalk.i64_left])
            go_wp2
            exact ⟨⟨by (repeat (first | with_reducible exact Ext.rfl' _ | with_reducible assumption | with_reducible refine Ext.al ?_ _ | with_reducible refine Ext.dr ?_ | with_reducible refine Ext.st ?_ (by simp) _ | with_reducible refine Ext.tr ?_ (by assumption))), k + 1, by omega, by go_num, firstE_step hF.out HE9.out⟩, by simp [intOf]; omega⟩
    · have hks : k = l.length := by omega
      have hT := HT.out
      rw [← hks, hF.out] at hT
      have HT2 := Lib.hid hT
      clear hT hF
      go_wp2
      go_ret
      exact ⟨ret_int HT2.out, by (repeat (first | with_reducible exact Ext.rfl' _ | with_reducible assumption | with_reducible refine Ext.al ?_ _ | with_reducible refine Ext.dr ?_ | with_reducible refine Ext.st ?_ (by simp) _ | with_reducible refine Ext.tr ?_ (by assumption)))⟩
end Go.Proofs.Ytmhmfjgahhgbpaa

/- Contracts of the checks of a view: gauges, a place and a window. -/
import Derived.Test.YtblmljcgjibfgaaTrefall
import Derived.Test.YtblmljcgjibfgaaTlevel
import Derived.Test.YtblmljcgjibfgaaTawake
namespace Go.Proofs.Ytblmljcgjibfgaa
open Go Go.RowKit Go.IntWalk

def winE (f t : Int) : Int := if f < 0 ∨ t < f ∨ 1000000 < t ∨ 3000 < t - f then 2 else 0
def viewE (gs : List Ga) (x f t : Int) : Int := if gausE gs ≠ 0 then gausE gs else if withinB x (-1000000) 1000000 = false then 2 else winE f t
def lightB (gs : List Ga) (f t : Int) : Bool := shortAllB gs && (decide (f < 0) || decide (t < f) || decide (1000000 < t) || decide (t - f ≤ 150) || decide (3000 < t - f))
set_option maxHeartbeats 2000000 in
theorem checkWindow_c (f t : Int) (w : World) :
    Calls Try.prog 104 #[.agg #[.int .i64 f, .int .i64 t]] w fun e w' => e = .returned (.int .i64 (winE f t)) ∧ Ext w w' := by
  have HF := Lib.hid (fun w => isMinute_c f w)
  have HT := Lib.hid (fun w => isMinute_c t w)
  have HD := Lib.hid (fun w => tin_c (t - f) 0 3000 w)
  cases hf : withinB f 0 1000000
  · have he : winE f t = 2 := by unfold winE; unfold withinB at hf; rw [if_pos]; simp at hf; omega
    rw [hf] at HF
    rw [he]
    clear hf he
    go_enter Try.func104, Try.ntmps104
    go_wp2_with (first | (go_at_call 63; with_reducible refine Calls.mono (HF.out _) ?_; rintro e w' ⟨rfl, rfl⟩))
    go_ret
    exact ⟨rfl, by (repeat (first | with_reducible exact Ext.rfl' _ | with_reducible assumption | with_reducible refine Ext.al ?_ _ | with_reducible refine Ext.dr ?_ | with_reducible refine Ext.st ?_ (by simp) _ | with_reducible refine Ext.tr ?_ (by assumption)))⟩
  cases ht : withinB t 0 1000000
  · have he : winE f t = 2 := by unfold winE; unfold withinB at hf ht; rw [if_pos]; simp at hf ht; omega
    rw [hf] at HF
    rw [ht] at HT
    rw [he]
    clear hf he ht
    go_enter Try.func104, Try.ntmps104
    go_wp2_with (first | (go_at_call 63; (first | (with_reducible refine Calls.mono (HF.out _) ?_) | (with_reducible refine Calls.mono (HT.out _) ?_)); rintro e w' ⟨rfl, rfl⟩))
    go_ret
    exact ⟨rfl, by (repeat (first | with_reducible exact Ext.rfl' _ | with_reducible assumption | with_reducible refine Ext.al ?_ _ | with_reducible refine Ext.dr ?_ | with_reducible refine Ext.st ?_ (by simp) _ | with_reducible refine Ext.tr ?_ (by assumption)))⟩
  have he : winE f t = if withinB (t - f) 0 3000 then 0 else 2 := by
    unfold winE withinB
    unfold withinB at hf ht
    simp at hf ht
    by_cases hc : 0 ≤ t - f ∧ t - f ≤ 3000
    · rw [if_neg (by omega), if_pos (by simp; omega)]
    · rw [if_pos (by omega), if_neg (by simp; omega)]
  rw [he]
  rw [hf] at HF
  rw [ht] at HT
  unfold withinB at hf ht
  simp at hf ht
  obtain ⟨f1, f2⟩ := hf
  obtain ⟨t1, t2⟩ := ht
  clear he
  cases hd : withinB (t - f) 0 3000
  all_goals
    rw [hd] at HD
    clear hd
    go_enter Try.func104, Try.ntmps104
    go_wp2_with (first | (go_at_call 63; (first | (with_reducible refine Calls.mono (HF.out _) ?_) | (with_reducible refine Calls.mono (HT.out _) ?_)); rintro e w' ⟨rfl, rfl⟩) | (go_at_call 84; with_reducible refine Calls.mono (HD.out _) ?_; rintro e w' ⟨rfl, rfl⟩))
    go_ret
    exact ⟨rfl, by (repeat (first | with_reducible exact Ext.rfl' _ | with_reducible assumption | with_reducible refine Ext.al ?_ _ | with_reducible refine Ext.dr ?_ | with_reducible refine Ext.st ?_ (by simp) _ | with_reducible refine Ext.tr ?_ (by assumption)))⟩
set_option maxHeartbeats 2000000 in
theorem rcheckWindow_c (f t : Int) (w : World) :
    Calls Try.prog 74 #[.agg #[.int .i64 f, .int .i64 t]] w fun e w' => e = .returned (.int .i64 (winE f t)) ∧ Ext w w' := by
  rcases (by omega : f < 0 ∨ (0 ≤ f ∧ t < f) ∨ (0 ≤ f ∧ f ≤ t ∧ 1000000 < t) ∨ (0 ≤ f ∧ f ≤ t ∧ t ≤ 1000000 ∧ 3000 < t - f) ∨ (0 ≤ f ∧ f ≤ t ∧ t ≤ 1000000 ∧ t - f ≤ 3000)) with h | ⟨h1, h2⟩ | ⟨h1, h2, h3⟩ | ⟨h1, h2, h3, h4⟩ | ⟨h1, h2, h3, h4⟩
  · rw [show winE f t = 2 by unfold winE; rw [if_pos (by omega)]]
    go_enter Try.func74, Try.ntmps74
    go_wp2
    go_ret
    exact ⟨rfl, by (repeat (first | with_reducible exact Ext.rfl' _ | with_reducible assumption | with_reducible refine Ext.al ?_ _ | with_reducible refine Ext.dr ?_ | with_reducible refine Ext.st ?_ (by simp) _ | with_reducible refine Ext.tr ?_ (by assumption)))⟩
  · rw [show winE f t = 2 by unfold winE; rw [if_pos (by omega)]]
    go_enter Try.func74, Try.ntmps74
    go_wp2
    go_ret
    exact ⟨rfl, by (repeat (first | with_reducible exact Ext.rfl' _ | with_reducible assumption | with_reducible refine Ext.al ?_ _ | with_reducible refine Ext.dr ?_ | with_reducible refine Ext.st ?_ (by simp) _ | with_reducible refine Ext.tr ?_ (by assumption)))⟩
  · rw [show winE f t = 2 by unfold winE; rw [if_pos (by omega)]]
    go_enter Try.func74, Try.ntmps74
    go_wp2
    go_ret
    exact ⟨rfl, by (repeat (first | with_reducible exact Ext.rfl' _ | with_reducible assumption | with_reducible refine Ext.al ?_ _ | with_reducible refine Ext.dr ?_ | with_reducible refine Ext.st ?_ (by simp) _ | with_reducible refine Ext.tr ?_ (by assumption)))⟩
  · rw [show winE f t = 2 by unfold winE; rw [if_pos (by omega)]]
    go_enter Try.func74, Try.ntmps74
    go_wp2
    go_ret
    exact ⟨rfl, by (repeat (first | with_reducible exact Ext.rfl' _ | with_reducible assumption | with_reducible refine Ext.al ?_ _ | with_reducible refine Ext.dr ?_ | with_reducible refine Ext.st ?_ (by simp) _ | with_reducible refine Ext.tr ?_ (by assumption)))⟩
  · rw [show winE f t = 0 by unfold winE; rw [if_neg (by omega)]]
    go_enter Try.func74, Try.ntmps74
    go_wp2
    go_ret
    exact ⟨rfl, by (repeat (first | with_reducible exact Ext.rfl' _ | with_reducible assumption | with_reducible refine Ext.al ?_ _ | with_reducible refine Ext.dr ?_ | with_reducible refine Ext.st ?_ (by simp) _ | with_reducible refine Ext.tr ?_ (by assumption)))⟩
set_option maxHeartbeats 2000000 in
theorem checkLook_c (gs : List Ga) (x f t : Int) (w : World) (A : Option Addr) (c : Nat) (hl : gs.length ≤ 1000) (hc : gs.length ≤ c) (hA : Row 4 encG w A gs) (hM : Marks w gs) :
    Calls Try.prog 72 #[.slice A gs.length c, .int .i64 x, .agg #[.int .i64 f, .int .i64 t]] w fun e w' => e = .returned (.int .i64 (viewE gs x f t)) ∧ Ext w w' := by
  have HC := Lib.hid (fun w' (hw : Ext w w') => checkAll_c gs w' A c hl hc (hA.ext hw) (hM.ext hw))
  have HP := Lib.hid (fun w => isPlace_c x w)
  have HW := Lib.hid (fun w => checkWindow_c f t w)
  unfold viewE
  by_cases h0 : gausE gs = 0
  case neg =>
    rw [if_pos h0]
    generalize gausE gs = r at *
    have h' : (r == 0) = false := by simp [h0]
    go_enter Try.func72, Try.ntmps72
    go_wp2_with (first | (go_at_call 24; with_reducible refine Calls.mono (HC.out _ (by (repeat (first | with_reducible exact Ext.rfl' _ | with_reducible assumption | with_reducible refine Ext.al ?_ _ | with_reducible refine Ext.dr ?_ | with_reducible refine Ext.st ?_ (by simp) _ | with_reducible refine Ext.tr ?_ (by assumption))))) ?_; rintro e w1 ⟨rfl, hb⟩; have hc := hb.ccell; have hf := hb.frz; have hs := hb.sz; (try simp at hs); (try have hs0 := hs w.heap.size (by omega)); (try have hs1 := hs (w.heap.size + 1) (by omega)); (try have hs2 := hs (w.heap.size + 1 + 1) (by omega)); (try have hs3 := hs (w.heap.size + 1 + 1 + 1) (by omega))))
    go_ret
    exact ⟨rfl, by (repeat (first | with_reducible exact Ext.rfl' _ | with_reducible assumption | with_reducible refine Ext.al ?_ _ | with_reducible refine Ext.dr ?_ | with_reducible refine Ext.st ?_ (by simp) _ | with_reducible refine Ext.tr ?_ (by assumption)))⟩
  rw [h0] at HC ⊢
  rw [if_neg (by simp)]
  clear h0
  cases hx : withinB x (-1000000) 1000000
  · rw [hx] at HP
    rw [if_pos rfl]
    clear hx
    go_enter Try.func72, Try.ntmps72
    go_wp2_with (first | (go_at_call 24; with_reducible refine Calls.mono (HC.out _ (by (repeat (first | with_reducible exact Ext.rfl' _ | with_reducible assumption | with_reducible refine Ext.al ?_ _ | with_reducible refine Ext.dr ?_ | with_reducible refine Ext.st ?_ (by simp) _ | with_reducible refine Ext.tr ?_ (by assumption))))) ?_; rintro e w1 ⟨rfl, hb⟩; have hc := hb.ccell; have hf := hb.frz; have hs := hb.sz; (try simp at hs); (try have hs0 := hs w.heap.size (by omega)); (try have hs1 := hs (w.heap.size + 1) (by omega)); (try have hs2 := hs (w.heap.size + 1 + 1) (by omega)); (try have hs3 := hs (w.heap.size + 1 + 1 + 1) (by omega))) | (go_at_call 69; with_reducible refine Calls.mono (HP.out _) ?_; rintro e w' ⟨rfl, rfl⟩))
    go_ret
    exact ⟨rfl, by (repeat (first | with_reducible exact Ext.rfl' _ | with_reducible assumption | with_reducible refine Ext.al ?_ _ | with_reducible refine Ext.dr ?_ | with_reducible refine Ext.st ?_ (by simp) _ | with_reducible refine Ext.tr ?_ (by assumption)))⟩
  · rw [hx] at HP
    rw [if_neg (by decide)]
    clear hx
    generalize winE f t = r at *
    go_enter Try.func72, Try.ntmps72
    go_wp2_with (first | (go_at_call 24; with_reducible refine Calls.mono (HC.out _ (by (repeat (first | with_reducible exact Ext.rfl' _ | with_reducible assumption | with_reducible refine Ext.al ?_ _ | with_reducible refine Ext.dr ?_ | with_reducible refine Ext.st ?_ (by simp) _ | with_reducible refine Ext.tr ?_ (by assumption))))) ?_; rintro e w1 ⟨rfl, hb⟩; have hc := hb.ccell; have hf := hb.frz; have hs := hb.sz; (try simp at hs); (try have hs0 := hs w.heap.size (by omega)); (try have hs1 := hs (w.heap.size + 1) (by omega)); (try have hs2 := hs (w.heap.size + 1 + 1) (by omega)); (try have hs3 := hs (w.heap.size + 1 + 1 + 1) (by omega))) | (go_at_call 69; with_reducible refine Calls.mono (HP.out _) ?_; rintro e w' ⟨rfl, rfl⟩) | (go_at_call 104; with_reducible refine Calls.mono (HW.out _) ?_; rintro e w1 ⟨rfl, hb⟩; have hc := hb.ccell; have hf := hb.frz; have hs := hb.sz; (try simp at hs); (try have hs0 := hs w.heap.size (by omega)); (try have hs1 := hs (w.heap.size + 1) (by omega)); (try have hs2 := hs (w.heap.size + 1 + 1) (by omega)); (try have hs3 := hs (w.heap.size + 1 + 1 + 1) (by omega))))
    go_ret
    exact ⟨rfl, by (repeat (first | with_reducible exact Ext.rfl' _ | with_reducible assumption | with_reducible refine Ext.al ?_ _ | with_reducible refine Ext.dr ?_ | with_reducible refine Ext.st ?_ (by simp) _ | with_reducible refine Ext.tr ?_ (by assumption)))⟩
set_option maxHeartbeats 2000000 in
theorem rcheckView_c (gs : List Ga) (x f t : Int) (w : World) (A : Option Addr) (c : Nat) (hl : gs.length ≤ 1000) (hA : Row 4 encG w A gs) (hM : Marks w gs) :
    Calls Try.prog 29 #[.slice A gs.length c, .int .i64 x, .agg #[.int .i64 f, .int .i64 t]] w fun e w' => e = .returned (.int .i64 (viewE gs x f t)) ∧ Ext w w' := by
  have HC := Lib.hid (fun w' (hw : Ext w w') => rcheckAll_c gs w' A c hl (hA.ext hw) (hM.ext hw))
  have HP := Lib.hid (fun w => inside_c x (-1000000) 1000000 w)
  have HW := Lib.hid (fun w => rcheckWindow_c f t w)
  unfold viewE
  by_cases h0 : gausE gs = 0
  case neg =>
    rw [if_pos h0]
    generalize gausE gs = r at *
    have h' : (r == 0) = false := by simp [h0]
    go_enter Try.func29, Try.ntmps29
    go_wp2_with (first | (go_at_call 23; with_reducible refine Calls.mono (HC.out _ (by (repeat (first | with_reducible exact Ext.rfl' _ | with_reducible assumption | with_reducible refine Ext.al ?_ _ | with_reducible refine Ext.dr ?_ | with_reducible refine Ext.st ?_ (by simp) _ | with_reducible refine Ext.tr ?_ (by assumption))))) ?_; rintro e w1 ⟨rfl, hb⟩; have hc := hb.ccell; have hf := hb.frz; have hs := hb.sz; (try simp at hs); (try have hs0 := hs w.heap.size (by omega)); (try have hs1 := hs (w.heap.size + 1) (by omega)); (try have hs2 := hs (w.heap.size + 1 + 1) (by omega)); (try have hs3 := hs (w.heap.size + 1 + 1 + 1) (by omega))))
    go_ret
    exact ⟨rfl, by (repeat (first | with_reducible exact Ext.rfl' _ | with_reducible assumption | with_reducible refine Ext.al ?_ _ | with_reducible refine Ext.dr ?_ | with_reducible refine Ext.st ?_ (by simp) _ | with_reducible refine Ext.tr ?_ (by assumption)))⟩
  rw [h0] at HC ⊢
  rw [if_neg (by simp)]
  clear h0
  cases hx : withinB x (-1000000) 1000000
  · rw [hx] at HP
    rw [if_pos rfl]
    clear hx
    go_enter Try.func29, Try.ntmps29
    go_wp2_with (first | (go_at_call 23; with_reducible refine Calls.mono (HC.out _ (by (repeat (first | with_reducible exact Ext.rfl' _ | with_reducible assumption | with_reducible refine Ext.al ?_ _ | with_reducible refine Ext.dr ?_ | with_reducible refine Ext.st ?_ (by simp) _ | with_reducible refine Ext.tr ?_ (by assumption))))) ?_; rintro e w1 ⟨rfl, hb⟩; have hc := hb.ccell; have hf := hb.frz; have hs := hb.sz; (try simp at hs); (try have hs0 := hs w.heap.size (by omega)); (try have hs1 := hs (w.heap.size + 1) (by omega)); (try have hs2 := hs (w.heap.size + 1 + 1) (by omega)); (try have hs3 := hs (w.heap.size + 1 + 1 + 1) (by omega))) | (go_at_call 73; with_reducible refine Calls.mono (HP.out _) ?_; rintro e w' ⟨rfl, rfl⟩))
    go_ret
    exact ⟨rfl, by (repeat (first | with_reducible exact Ext.rfl' _ | with_reducible assumption | with_reducible refine Ext.al ?_ _ | with_reducible refine Ext.dr ?_ | with_reducible refine Ext.st ?_ (by simp) _ | with_reducible refine Ext.tr ?_ (by assumption)))⟩
  · rw [hx] at HP
    rw [if_neg (by decide)]
    clear hx
    generalize winE f t = r at *
    go_enter Try.func29, Try.ntmps29
    go_wp2_with (first | (go_at_call 23; with_reducible refine Calls.mono (HC.out _ (by (repeat (first | with_reducible exact Ext.rfl' _ | with_reducible assumption | with_reducible refine Ext.al ?_ _ | with_reducible refine Ext.dr ?_ | with_reducible refine Ext.st ?_ (by simp) _ | with_reducible refine Ext.tr ?_ (by assumption))))) ?_; rintro e w1 ⟨rfl, hb⟩; have hc := hb.ccell; have hf := hb.frz; have hs := hb.sz; (try simp at hs); (try have hs0 := hs w.heap.size (by omega)); (try have hs1 := hs (w.heap.size + 1) (by omega)); (try have hs2 := hs (w.heap.size + 1 + 1) (by omega)); (try have hs3 := hs (w.heap.size + 1 + 1 + 1) (by omega))) | (go_at_call 73; with_reducible refine Calls.mono (HP.out _) ?_; rintro e w' ⟨rfl, rfl⟩) | (go_at_call 74; with_reducible refine Calls.mono (HW.out _) ?_; rintro e w1 ⟨rfl, hb⟩; have hc := hb.ccell; have hf := hb.frz; have hs := hb.sz; (try simp at hs); (try have hs0 := hs w.heap.size (by omega)); (try have hs1 := hs (w.heap.size + 1) (by omega)); (try have hs2 := hs (w.heap.size + 1 + 1) (by omega)); (try have hs3 := hs (w.heap.size + 1 + 1 + 1) (by omega))))
    go_ret
    exact ⟨rfl, by (repeat (first | with_reducible exact Ext.rfl' _ | with_reducible assumption | with_reducible refine Ext.al ?_ _ | with_reducible refine Ext.dr ?_ | with_reducible refine Ext.st ?_ (by simp) _ | with_reducible refine Ext.tr ?_ (by assumption)))⟩
set_option maxHeartbeats 2000000 in
theorem light_c (gs : List Ga) (x f t : Int) (w : World) (A : Option Addr) (c : Nat) (hA : Row 4 encG w A gs) :
    Calls Try.prog 27 #[.agg #[.slice A gs.length c, .int .i64 x, .int .i64 f, .int .i64 t]] w fun e w' => e = .returned (.bool (lightB gs f t)) ∧ Ext w w' := by
  have HS := Lib.hid (fun w' (hw : Ext w w') => shortAll_c gs w' A c (hA.ext hw))
  unfold lightB
  cases hs : shortAllB gs
  · rw [hs] at HS
    clear hs
    go_enter Try.func27, Try.ntmps27
    go_wp2_with (first | (go_at_call 21; with_reducible refine Calls.mono (HS.out _ (by (repeat (first | with_reducible exact Ext.rfl' _ | with_reducible assumption | with_reducible refine Ext.al ?_ _ | with_reducible refine Ext.dr ?_ | with_reducible refine Ext.st ?_ (by simp) _ | with_reducible refine Ext.tr ?_ (by assumption))))) ?_; rintro e w1 ⟨rfl, hb⟩; have hc := hb.ccell; have hf := hb.frz; have hs := hb.sz; (try simp at hs); (try have hs0 := hs w.heap.size (by omega)); (try have hs1 := hs (w.heap.size + 1) (by omega)); (try have hs2 := hs (w.heap.size + 1 + 1) (by omega)); (try have hs3 := hs (w.heap.size + 1 + 1 + 1) (by omega))))
    go_ret
    exact ⟨by first | rfl | (simp; done) | (simp; omega), by (repeat (first | with_reducible exact Ext.rfl' _ | with_reducible assumption | with_reducible refine Ext.al ?_ _ | with_reducible refine Ext.dr ?_ | with_reducible refine Ext.st ?_ (by simp) _ | with_reducible refine Ext.tr ?_ (by assumption)))⟩
  rw [hs] at HS
  clear hs
  rcases (by omega : f < 0 ∨ (0 ≤ f ∧ t < f) ∨ (0 ≤ f ∧ f ≤ t ∧ 1000000 < t) ∨ (0 ≤ f ∧ f ≤ t ∧ t ≤ 1000000 ∧ t - f ≤ 150) ∨ (0 ≤ f ∧ f ≤ t ∧ t ≤ 1000000 ∧ 150 < t - f)) with h | ⟨h1, h2⟩ | ⟨h1, h2, h3⟩ | ⟨h1, h2, h3, h4⟩ | ⟨h1, h2, h3, h4⟩
  all_goals
    go_enter Try.func27, Try.ntmps27
    go_wp2_with (first | (go_at_call 21; with_reducible refine Calls.mono (HS.out _ (by (repeat (first | with_reducible exact Ext.rfl' _ | with_reducible assumption | with_reducible refine Ext.al ?_ _ | with_reducible refine Ext.dr ?_ | with_reducible refine Ext.st ?_ (by simp) _ | with_reducible refine Ext.tr ?_ (by assumption))))) ?_; rintro e w1 ⟨rfl, hb⟩; have hc := hb.ccell; have hf := hb.frz; have hs := hb.sz; (try simp at hs); (try have hs0 := hs w.heap.size (by omega)); (try have hs1 := hs (w.heap.size + 1) (by omega)); (try have hs2 := hs (w.heap.size + 1 + 1) (by omega)); (try have hs3 := hs (w.heap.size + 1 + 1 + 1) (by omega))))
    all_goals go_ret
    all_goals exact ⟨by first | rfl | (simp; done) | (simp; omega), by (repeat (first | with_reducible exact Ext.rfl' _ | with_reducible assumption | with_reducible refine Ext.al ?_ _ | with_reducible refine Ext.dr ?_ | with_reducible refine Ext.st ?_ (by simp) _ | with_reducible refine Ext.tr ?_ (by assumption)))⟩
end Go.Proofs.Ytblmljcgjibfgaa

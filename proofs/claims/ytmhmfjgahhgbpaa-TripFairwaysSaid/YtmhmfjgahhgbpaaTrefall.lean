/- The contract of the reference's CheckGauges. -/
import Derived.Test.YtmhmfjgahhgbpaaTall
namespace Go.Proofs.Ytmhmfjgahhgbpaa
open Go Go.RowKit Go.IntWalk

def recE (x er : Int) (l : List Pt) : Int := if (withinB x (-1000000) 1000000 && withinB er 0 1000) = false then 2 else marksE l
theorem hasB_take_no {gs : List Ga} {k : Nat} {s : ByteArray} (hk : k ≤ gs.length) (h : ∀ j (hj : j < gs.length), j < k → (gs[j].s.toList == s.toList) = false) : hasB (gs.take k) s = false := by
  refine hasB_false fun j hj => ?_
  rw [List.length_take] at hj
  rw [List.getElem_take]
  exact h j (by omega) (by omega)
theorem hasB_take_yes {gs : List Ga} {k j : Nat} {s : ByteArray} (hk : k ≤ gs.length) (hj : j < k) (h : (gs[j].s.toList == s.toList) = true) : hasB (gs.take k) s = true := by
  refine hasB_true (j := j) (by rw [List.length_take]; omega) ?_
  rw [List.getElem_take]
  exact h
theorem errG_name {gs : List Ga} {k : Nat} (hk : k < gs.length) (hn : nameB gs[k].s = false) : errG gs k = 4 := by
  rw [errG_lt hk]; unfold nextE; rw [if_pos hn]
theorem errG_has {gs : List Ga} {k : Nat} (hk : k < gs.length) (hn : nameB gs[k].s = true) (hh : hasB (gs.take k) gs[k].s = true) : errG gs k = 5 := by
  rw [errG_lt hk]; unfold nextE; rw [if_neg (by rw [hn]; decide), if_pos hh]
theorem errG_rec {gs : List Ga} {k : Nat} (hk : k < gs.length) (hn : nameB gs[k].s = true) (hh : hasB (gs.take k) gs[k].s = false) (hr : recE gs[k].x gs[k].er gs[k].l ≠ 0) : errG gs k = recE gs[k].x gs[k].er gs[k].l := by
  rw [errG_lt hk]; unfold nextE recE at *; rw [if_neg (by rw [hn]; decide), if_neg (by rw [hh]; decide)]
  by_cases hw : (withinB gs[k].x (-1000000) 1000000 && withinB gs[k].er 0 1000) = false
  · rw [if_pos hw, if_pos hw]
  · rw [if_neg hw] at hr
    rw [if_neg hw, if_neg hw, if_neg hr]
theorem errG_zero {gs : List Ga} {k : Nat} (hk : k < gs.length) (hn : nameB gs[k].s = true) (hh : hasB (gs.take k) gs[k].s = false) (hr : recE gs[k].x gs[k].er gs[k].l = 0) (h0 : k = 0) : errG gs k = 0 := by
  rw [errG_lt hk]; unfold nextE recE at *; rw [if_neg (by rw [hn]; decide), if_neg (by rw [hh]; decide)]
  by_cases hw : (withinB gs[k].x (-1000000) 1000000 && withinB gs[k].er 0 1000) = false
  · rw [if_pos hw] at hr; omega
  · rw [if_neg hw] at hr
    subst h0
    rw [if_neg hw, if_pos hr]; rfl
theorem errG_next {gs : List Ga} {k j : Nat} (hk : k < gs.length) (hjl : j < gs.length) (hn : nameB gs[k].s = true) (hh : hasB (gs.take k) gs[k].s = false) (hr : recE gs[k].x gs[k].er gs[k].l = 0) (hj : k = j + 1) : errG gs k = if gs[k].x ≤ gs[j].x then 9 else 0 := by
  rw [errG_lt hk]; unfold nextE recE at *; rw [if_neg (by rw [hn]; decide), if_neg (by rw [hh]; decide)]
  by_cases hw : (withinB gs[k].x (-1000000) 1000000 && withinB gs[k].er 0 1000) = false
  · rw [if_pos hw] at hr; omega
  · rw [if_neg hw] at hr
    rw [if_neg hw, if_pos hr]
    have hl : (gs.take k).getLast? = some gs[j] := by
      subst hj
      rw [List.getLast?_eq_getElem?, List.length_take, Nat.min_eq_left (by omega), Nat.add_sub_cancel, List.getElem?_take_of_lt (by omega), List.getElem?_eq_getElem (by omega)]
    have hne : decide (gs.take k = []) = false := by
      refine decide_eq_false fun h => ?_
      rw [h] at hl; cases hl
    rw [hne, hl, Bool.false_or]
    show (if decide (gs[j].x < gs[k].x) = true then (0 : Int) else 9) = _
    by_cases hc : gs[k].x ≤ gs[j].x
    · rw [if_pos hc, if_neg (by simp; omega)]
    · rw [if_neg hc, if_pos (by simp; omega)]
set_option maxHeartbeats 4000000 in
theorem rcheckAll_c (gs : List Ga) (w : World) (A : Option Addr) (c : Nat) (hl : gs.length ≤ 1000) (hA : Row 4 encG w A gs) (hM : Marks w gs) :
    Calls Try.prog 40 #[.slice A gs.length c] w fun e w' => e = .returned (.int .i64 (gausE gs)) ∧ Ext w w' := by
  by_cases h1 : 6 < gs.length
  · have h1' : (6 : Int) < (gs.length : Int) := by omega
    unfold gausE
    rw [if_pos h1]
    go_enter Try.func40, Try.ntmps40
    go_wp2
    go_ret
    exact ⟨rfl, by (repeat (first | with_reducible exact Ext.rfl' _ | with_reducible assumption | with_reducible refine Ext.al ?_ _ | with_reducible refine Ext.dr ?_ | with_reducible refine Ext.st ?_ (by simp) _ | with_reducible refine Ext.tr ?_ (by assumption)))⟩
  have h1' : ¬ (6 : Int) < (gs.length : Int) := by omega
  obtain ⟨E, hE0⟩ : ∃ E, gausE gs = E := ⟨_, rfl⟩
  rw [hE0]
  unfold gausE at hE0
  rw [if_neg h1] at hE0
  have HT := Lib.hid hE0
  clear hE0 h1
  go_enter Try.func40, Try.ntmps40
  go_wp2
  go_loopw [3, 4, 5] (fun i _ _ wr => Ext w wr ∧ ∃ k : Nat, k ≤ gs.length ∧ i = .int .i64 k ∧ Hid (firstE (errG gs) k = 0)) (fun i _ _ _ => gs.length - (intOf i).toNat)
  case atStart => exact ⟨Ext.rfl' _, 0, Nat.zero_le _, rfl, rfl⟩
  case round =>
    obtain ⟨hE, k, hk, rfl, hF⟩ := hrel
    by_cases hlt : k < gs.length
    · obtain ⟨b, off, rfl, hb0, hcell⟩ := hA.p4 hlt
      have HCC := Lib.hid hcell
      have cc := hcell _ hE
      clear hcell
      have hz := hE.sz _ hb0
      have HN := Lib.hid (fun w : World => rIsName_c gs[k].s w)
      rw [name_same] at HN
      cases hn : nameB gs[k].s
      · have HR := Lib.hid (errG_name hlt hn)
        rw [hn] at HN
        clear hn
        go_wp2_with (first | (go_at_call 35; refine Calls.mono (HN.out _) ?_; rintro e w' ⟨rfl, rfl⟩))
        go_ret
        exact ⟨ret_int (by rw [← HT.out, firstE_at hlt hF.out (by rw [HR.out]; decide), HR.out]), by (repeat (first | with_reducible exact Ext.rfl' _ | with_reducible assumption | with_reducible refine Ext.al ?_ _ | with_reducible refine Ext.dr ?_ | with_reducible refine Ext.st ?_ (by simp) _ | with_reducible refine Ext.tr ?_ (by assumption)))⟩
      · have HN1 := Lib.hid hn
        rw [hn] at HN
        clear hn
        go_wp2_with (first | (go_at_call 35; refine Calls.mono (HN.out _) ?_; rintro e w' ⟨rfl, rfl⟩))
        clear cc hz
        go_loopw [4] (fun i wx => Ext w wx ∧ ∃ j : Nat, j ≤ k ∧ i = .int .i64 j ∧ Hid (∀ m (hm : m < gs.length), m < j → (gs[m].s.toList == gs[k].s.toList) = false)) (fun i _ => k - (intOf i).toNat)
        case atStart => exact ⟨hE, 0, Nat.zero_le _, rfl, fun m _ h => absurd h (by omega)⟩
        case round =>
          obtain ⟨hx, j, hj, rfl, hJ⟩ := hrel
          have hzx := hx.sz _ hb0
          by_cases hlj : j < k
          · obtain ⟨k0, k1, k2, k3⟩ := HCC.out _ hx
            obtain ⟨j0, j1, j2, j3⟩ := hA.r4 (show j < gs.length by omega) _ hx
            cases hs : (gs[j].s.toList == gs[k].s.toList)
            · have HS := Lib.hid hs
              go_wp2_with fail
              refine region_grow (by kernel_rfl) (by kernel_rfl) ?_
              repeat (first | go_big_quiet_step (first  | fail) | quiet_step (first  | fail))
              refine wpQuiet_nil ?_
              intro w1 hb
              have hc := hb.ccell
              have hf := hb.frz
              have hs := hb.sz
              (try simp at hs); (try have hs0 := hs w.heap.size (by omega)); (try have hs1 := hs (w.heap.size + 1) (by omega)); (try have hs2 := hs (w.heap.size + 1 + 1) (by omega)); (try have hs3 := hs (w.heap.size + 1 + 1 + 1) (by omega))
              (try simp only [IntWalk.i64_left])
              go_wp2
              refine ⟨⟨by (repeat (first | with_reducible exact Ext.rfl' _ | with_reducible assumption | with_reducible refine Ext.al ?_ _ | with_reducible refine Ext.dr ?_ | with_reducible refine Ext.st ?_ (by simp) _ | with_reducible refine Ext.tr ?_ (by assumption))), j + 1, by omega, by go_num, fun m hm hmj => ?_⟩, by simp [intOf]; omega⟩
              rcases Nat.lt_or_ge m j with h | h
              · exact hJ.out m hm h
              · have h2 : m = j := by omega
                subst h2
                exact HS.out
            · have HS := Lib.hid hs
              go_wp2_with fail
              refine region_grow (by kernel_rfl) (by kernel_rfl) ?_
              repeat (first | go_big_quiet_step (first  | fail) | quiet_step (first  | fail))
              refine wpQuiet_nil ?_
              intro w1 hb
              have hc := hb.ccell
              have hf := hb.frz
              have hs := hb.sz
              (try simp at hs); (try have hs0 := hs w.heap.size (by omega)); (try have hs1 := hs (w.heap.size + 1) (by omega)); (try have hs2 := hs (w.heap.size + 1 + 1) (by omega)); (try have hs3 := hs (w.heap.size + 1 + 1 + 1) (by omega))
              (try simp only [IntWalk.i64_left])
              go_wp2
              go_ret
              have HR := errG_has hlt HN1.out (hasB_take_yes (by omega) hlj HS.out)
              exact ⟨ret_int (by rw [← HT.out, firstE_at hlt hF.out (by rw [HR]; decide), HR]), by (repeat (first | with_reducible exact Ext.rfl' _ | with_reducible assumption | with_reducible refine Ext.al ?_ _ | with_reducible refine Ext.dr ?_ | with_reducible refine Ext.st ?_ (by simp) _ | with_reducible refine Ext.tr ?_ (by assumption)))⟩
          · have hjk : j = k := by omega
            subst hjk
            have HH := Lib.hid (hasB_take_no hk hJ.out)
            have HRC := Lib.hid (fun w' (hw : Ext w w') => record_c gs[j].s gs[j].x gs[j].er gs[j].l w' gs[j].A gs[j].c (hM j hlt).1 ((hM j hlt).2.ext hw))
            have hrd : ∀ x er l, (if (withinB x (-1000000) 1000000 && withinB er 0 1000) = false then 2 else marksE l) = recE x er l := fun _ _ _ => rfl
            rw [hrd] at HRC
            clear hrd hJ
            obtain ⟨r, hr⟩ : ∃ r, recE gs[j].x gs[j].er gs[j].l = r := ⟨_, rfl⟩
            rw [hr] at HRC
            have HR := Lib.hid hr
            clear hr
            by_cases h0 : r = 0
            · subst h0
              rcases (by omega : (j : Int) ≤ 0 ∨ 0 < (j : Int)) with k0 | k0
              · have g0 : (0 < j) = False := eq_false (by omega)
                have HZ := Lib.hid (errG_zero hlt HN1.out HH.out HR.out (by omega))
                have cc := HCC.out _ hx
                go_upto_region 8 with (first | (go_at_call 61; with_reducible refine Calls.mono (HRC.out _ (by (repeat (first | with_reducible exact Ext.rfl' _ | with_reducible assumption | with_reducible refine Ext.al ?_ _ | with_reducible refine Ext.dr ?_ | with_reducible refine Ext.st ?_ (by simp) _ | with_reducible refine Ext.tr ?_ (by assumption))))) ?_; rintro e w1 ⟨rfl, hb⟩; have hc := hb.ccell; have hf := hb.frz; have hs := hb.sz; (try simp at hs); (try have hs0 := hs w.heap.size (by omega)); (try have hs1 := hs (w.heap.size + 1) (by omega)); (try have hs2 := hs (w.heap.size + 1 + 1) (by omega)); (try have hs3 := hs (w.heap.size + 1 + 1 + 1) (by omega))))
                refine region_grow (by kernel_rfl) (by kernel_rfl) ?_
                repeat (first | go_big_quiet_step (first  | fail) | quiet_step (first  | fail))
                refine wpQuiet_nil ?_
                intro w1 hb
                have hc := hb.ccell
                have hf := hb.frz
                have hs := hb.sz
                (try simp at hs); (try have hs0 := hs w.heap.size (by omega)); (try have hs1 := hs (w.heap.size + 1) (by omega)); (try have hs2 := hs (w.heap.size + 1 + 1) (by omega)); (try have hs3 := hs (w.heap.size + 1 + 1 + 1) (by omega))
                (try simp only [IntWalk.i64_left])
                go_wp2
                exact ⟨⟨by (repeat (first | with_reducible exact Ext.rfl' _ | with_reducible assumption | with_reducible refine Ext.al ?_ _ | with_reducible refine Ext.dr ?_ | with_reducible refine Ext.st ?_ (by simp) _ | with_reducible refine Ext.tr ?_ (by assumption))), j + 1, by omega, by go_num, firstE_step hF.out HZ.out⟩, by simp [intOf]; omega⟩
              · obtain ⟨i, hi⟩ : ∃ i, j = i + 1 := ⟨j - 1, by omega⟩
                have g0 : (0 < j) = True := eq_true (by omega)
                have hil : i < gs.length := by omega
                have HZ := Lib.hid (errG_next hlt hil HN1.out HH.out HR.out hi)
                have hjz : (j : Int) - 1 = (i : Int) := by omega
                have HJ := Lib.hid hi
                have ci := hA.r4 hil _ hx
                clear hi
                have cc := HCC.out _ hx
                by_cases hle : gs[j].x ≤ gs[i].x
                · have hE9 := HZ.out
                  rw [if_pos hle] at hE9
                  have HE9 := Lib.hid hE9
                  clear hE9 HZ
                  go_upto_region 8 with (first | (go_at_call 61; with_reducible refine Calls.mono (HRC.out _ (by (repeat (first | with_reducible exact Ext.rfl' _ | with_reducible assumption | with_reducible refine Ext.al ?_ _ | with_reducible refine Ext.dr ?_ | with_reducible refine Ext.st ?_ (by simp) _ | with_reducible refine Ext.tr ?_ (by assumption))))) ?_; rintro e w1 ⟨rfl, hb⟩; have hc := hb.ccell; have hf := hb.frz; have hs := hb.sz; (try simp at hs); (try have hs0 := hs w.heap.size (by omega)); (try have hs1 := hs (w.heap.size + 1) (by omega)); (try have hs2 := hs (w.heap.size + 1 + 1) (by omega)); (try have hs3 := hs (w.heap.size + 1 + 1 + 1) (by omega))))
                  have tb := hs b (by omega)
                  refine region_grow (by kernel_rfl) (by kernel_rfl) ?_
                  repeat (first | go_big_quiet_step (first  | fail) | quiet_step (first  | fail))
                  refine wpQuiet_nil ?_
                  intro w1 hb
                  have hc := hb.ccell
                  have hf := hb.frz
                  have hs := hb.sz
                  (try simp at hs); (try have hs0 := hs w.heap.size (by omega)); (try have hs1 := hs (w.heap.size + 1) (by omega)); (try have hs2 := hs (w.heap.size + 1 + 1) (by omega)); (try have hs3 := hs (w.heap.size + 1 + 1 + 1) (by omega))
                  (try simp only [IntWalk.i64_left])
                  go_wp2
                  go_ret
                  exact ⟨ret_int (by rw [← HT.out, firstE_at hlt hF.out (by rw [HE9.out]; decide), HE9.out]), by (repeat (first | with_reducible exact Ext.rfl' _ | with_reducible assumption | with_reducible refine Ext.al ?_ _ | with_reducible refine Ext.dr ?_ | with_reducible refine Ext.st ?_ (by simp) _ | with_reducible refine Ext.tr ?_ (by assumption)))⟩
                · have hE9 := HZ.out
                  rw [if_neg hle] at hE9
                  have HE9 := Lib.hid hE9
                  clear hE9 HZ
                  go_upto_region 8 with (first | (go_at_call 61; with_reducible refine Calls.mono (HRC.out _ (by (repeat (first | with_reducible exact Ext.rfl' _ | with_reducible assumption | with_reducible refine Ext.al ?_ _ | with_reducible refine Ext.dr ?_ | with_reducible refine Ext.st ?_ (by simp) _ | with_reducible refine Ext.tr ?_ (by assumption))))) ?_; rintro e w1 ⟨rfl, hb⟩; have hc := hb.ccell; have hf := hb.frz; have hs := hb.sz; (try simp at hs); (try have hs0 := hs w.heap.size (by omega)); (try have hs1 := hs (w.heap.size + 1) (by omega)); (try have hs2 := hs (w.heap.size + 1 + 1) (by omega)); (try have hs3 := hs (w.heap.size + 1 + 1 + 1) (by omega))))
                  have tb := hs b (by omega)
                  refine region_grow (by kernel_rfl) (by kernel_rfl) ?_
                  repeat (first | go_big_quiet_step (first  | fail) | quiet_step (first  | fail))
                  refine wpQuiet_nil ?_
                  intro w1 hb
                  have hc := hb.ccell
                  have hf := hb.frz
                  have hs := hb.sz
                  (try simp at hs); (try have hs0 := hs w.heap.size (by omega)); (try have hs1 := hs (w.heap.size + 1) (by omega)); (try have hs2 := hs (w.heap.size + 1 + 1) (by omega)); (try have hs3 := hs (w.heap.size + 1 + 1 + 1) (by omega))
                  (try simp only [IntWalk.i64_left])
                  go_wp2
                  exact ⟨⟨by (repeat (first | with_reducible exact Ext.rfl' _ | with_reducible assumption | with_reducible refine Ext.al ?_ _ | with_reducible refine Ext.dr ?_ | with_reducible refine Ext.st ?_ (by simp) _ | with_reducible refine Ext.tr ?_ (by assumption))), j + 1, by omega, by go_num, firstE_step hF.out HE9.out⟩, by simp [intOf]; omega⟩
            · have h' : (r == 0) = false := by simp [h0]
              have HZ := Lib.hid (errG_rec hlt HN1.out HH.out (by rw [HR.out]; exact h0))
              have cc := HCC.out _ hx
              go_wp2_with (first | (go_at_call 61; with_reducible refine Calls.mono (HRC.out _ (by (repeat (first | with_reducible exact Ext.rfl' _ | with_reducible assumption | with_reducible refine Ext.al ?_ _ | with_reducible refine Ext.dr ?_ | with_reducible refine Ext.st ?_ (by simp) _ | with_reducible refine Ext.tr ?_ (by assumption))))) ?_; rintro e w1 ⟨rfl, hb⟩; have hc := hb.ccell; have hf := hb.frz; have hs := hb.sz; (try simp at hs); (try have hs0 := hs w.heap.size (by omega)); (try have hs1 := hs (w.heap.size + 1) (by omega)); (try have hs2 := hs (w.heap.size + 1 + 1) (by omega)); (try have hs3 := hs (w.heap.size + 1 + 1 + 1) (by omega))))
              go_ret
              exact ⟨ret_int (by rw [← HT.out, firstE_at hlt hF.out (by rw [HZ.out, HR.out]; exact h0), HZ.out, HR.out]), by (repeat (first | with_reducible exact Ext.rfl' _ | with_reducible assumption | with_reducible refine Ext.al ?_ _ | with_reducible refine Ext.dr ?_ | with_reducible refine Ext.st ?_ (by simp) _ | with_reducible refine Ext.tr ?_ (by assumption)))⟩
    · have hks : k = gs.length := by omega
      have hT := HT.out
      rw [← hks, hF.out] at hT
      have HT2 := Lib.hid hT
      clear hT hF
      go_wp2
      go_ret
      exact ⟨ret_int HT2.out, by (repeat (first | with_reducible exact Ext.rfl' _ | with_reducible assumption | with_reducible refine Ext.al ?_ _ | with_reducible refine Ext.dr ?_ | with_reducible refine Ext.st ?_ (by simp) _ | with_reducible refine Ext.tr ?_ (by assumption)))⟩
end Go.Proofs.Ytmhmfjgahhgbpaa

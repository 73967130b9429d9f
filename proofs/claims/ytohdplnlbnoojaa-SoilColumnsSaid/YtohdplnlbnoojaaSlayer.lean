/- The contracts of CheckSoils, checkLayer, checkBoring. -/
import Derived.Test.YtohdplnlbnoojaaSnamed
namespace Go.Proofs.Ytohdplnlbnoojaa
open Go Go.RowKit Go.IntWalk

set_option maxHeartbeats 2000000 in
theorem icheckSoils_c (l : List So) (v2 : Value) (w : World) (A : Option Addr) (c : Nat) (hl : l.length ≤ 1000) (hA : Row 5 encSo w A l) (hv2 : v2.oneCell' = true) :
    Calls Try.prog 61 #[.agg #[.slice A l.length c, v2]] w fun e w' => e = .returned (.int .i64 (chkSoils l)) ∧ Ext w w' := by
  have HC := Lib.hid (fun w => checkCount_c l.length 8 w)
  unfold chkSoils
  by_cases h0 : cntE l.length 8 = 0
  case neg =>
    rw [if_pos h0]
    have h0' : (cntE l.length 8 != 0) = true := by simp [h0]
    clear h0
    generalize cntE l.length 8 = E at *
    go_enter Try.func61, Try.ntmps61
    go_wp2_with (first | (go_at_call 96; with_reducible refine Calls.mono (HC.out _) ?_; rintro e w' ⟨rfl, rfl⟩))
    go_ret
    exact ⟨rfl, by (repeat (first | with_reducible exact Ext.rfl' _ | with_reducible assumption | with_reducible refine Ext.al ?_ _ | with_reducible refine Ext.dr ?_ | with_reducible refine Ext.st ?_ (by simp) _ | with_reducible refine Ext.tr ?_ (by assumption)))⟩
  rw [if_neg (by omega)]
  rw [h0] at HC
  have HN := Lib.hid (fun w' (hw : Ext w w') => namedSo_c l (.slice A l.length c) v2 w' A c hl (hA.ext hw) rfl hv2)
  generalize firstE (soE l) l.length = E at *
  clear h0
  go_enter Try.func61, Try.ntmps61
  go_wp2_with (first | (go_at_call 96; with_reducible refine Calls.mono (HC.out _) ?_; rintro e w' ⟨rfl, rfl⟩) | (go_at_call 97; with_reducible refine Calls.mono (HN.out _ (by (repeat (first | with_reducible exact Ext.rfl' _ | with_reducible assumption | with_reducible refine Ext.al ?_ _ | with_reducible refine Ext.dr ?_ | with_reducible refine Ext.st ?_ (by simp) _ | with_reducible refine Ext.tr ?_ (by assumption))))) ?_; rintro e w1 ⟨rfl, hb⟩; have hc := hb.ccell; have hf := hb.frz; have hs := hb.sz; (try simp at hs); (try have hs0 := hs w.heap.size (by omega)); (try have hs1 := hs (w.heap.size + 1) (by omega)); (try have hs2 := hs (w.heap.size + 1 + 1) (by omega)); (try have hs3 := hs (w.heap.size + 1 + 1 + 1) (by omega))))
  go_ret
  exact ⟨rfl, by (repeat (first | with_reducible exact Ext.rfl' _ | with_reducible assumption | with_reducible refine Ext.al ?_ _ | with_reducible refine Ext.dr ?_ | with_reducible refine Ext.st ?_ (by simp) _ | with_reducible refine Ext.tr ?_ (by assumption)))⟩
set_option maxHeartbeats 2000000 in
theorem checkSoils_c (l : List So) (w : World) (A : Option Addr) (c : Nat) (hl : l.length ≤ 1000) (hA : Row 5 encSo w A l) :
    Calls Try.prog 16 #[.slice A l.length c] w fun e w' => e = .returned (.int .i64 (chkSoils l)) ∧ Ext w w' := by
  have HN := Lib.hid (fun w' v2 (hw : Ext w w') hv => icheckSoils_c l v2 w' A c hl (hA.ext hw) hv)
  go_enter Try.func16, Try.ntmps16
  go_wp2_with (first | (go_at_call 61; with_reducible refine Calls.mono (HN.out _ _ (by (repeat (first | with_reducible exact Ext.rfl' _ | with_reducible assumption | with_reducible refine Ext.al ?_ _ | with_reducible refine Ext.dr ?_ | with_reducible refine Ext.st ?_ (by simp) _ | with_reducible refine Ext.tr ?_ (by assumption)))) rfl) ?_; rintro e w1 ⟨rfl, hb⟩; have hc := hb.ccell; have hf := hb.frz; have hs := hb.sz; (try simp at hs); (try have hs0 := hs w.heap.size (by omega)); (try have hs1 := hs (w.heap.size + 1) (by omega)); (try have hs2 := hs (w.heap.size + 1 + 1) (by omega)); (try have hs3 := hs (w.heap.size + 1 + 1 + 1) (by omega))))
  go_ret
  exact ⟨rfl, by (repeat (first | with_reducible exact Ext.rfl' _ | with_reducible assumption | with_reducible refine Ext.al ?_ _ | with_reducible refine Ext.dr ?_ | with_reducible refine Ext.st ?_ (by simp) _ | with_reducible refine Ext.tr ?_ (by assumption)))⟩
theorem laSoil_c (x : So) (s : ByteArray) (n : Nat) (w : World) (h : w.cell? ⟨n, 1, none⟩ = some (.string s)) (hn : n < w.heap.size) :
    Calls Try.prog 150 #[.agg #[.string x.s, .int .i64 x.run, .int .i64 x.den, .int .i64 x.num, .int .i64 x.dn], .pointer (some ⟨n, 0, none⟩)] w fun e w' => e = .returned (.bool (sameS x.s s)) ∧ Ext w w' := by
  go_enter Try.func150, Try.ntmps150
  go_wp2
  go_ret
  exact ⟨rfl, by (repeat (first | with_reducible exact Ext.rfl' _ | with_reducible assumption | with_reducible refine Ext.al ?_ _ | with_reducible refine Ext.dr ?_ | with_reducible refine Ext.st ?_ (by simp) _ | with_reducible refine Ext.tr ?_ (by assumption)))⟩
set_option maxHeartbeats 1000000 in
theorem indexSo_c (l : List So) (s : ByteArray) (n : Nat) (w : World) (A : Option Addr) (c : Nat) (hl : l.length ≤ 1000) (hA : Row 5 encSo w A l) (h : ∀ w', Ext w w' → w'.cell? ⟨n, 1, none⟩ = some (.string s)) (hn : n < w.heap.size) :
    Calls Try.prog 167 #[.slice A l.length c, .func (.func 150) #[] #[.pointer (some ⟨n, 0, none⟩)]] w
      fun e w' => (∃ r : Int, e = .returned (.int .i64 r) ∧ decide (0 ≤ r) = hasSoil l s) ∧ Ext w w' := by
  unfold hasSoil
  go_enter Try.func167, Try.ntmps167
  go_wp2
  go_loopw [5, 8] (fun _ i wr => Ext w wr ∧ ∃ k : Nat, k ≤ l.length ∧ i = .int .i64 k ∧ Hid (anyN (fun j => sameS (el l j).s s) k = false)) (fun _ i _ => l.length - (intOf i).toNat)
  case atStart => exact ⟨Ext.rfl' _, 0, Nat.zero_le _, rfl, rfl⟩
  case round =>
    obtain ⟨hE, k, hk, rfl, HN⟩ := hrel
    by_cases hlt : k < l.length
    · obtain ⟨b, off, rfl, hb0, hcell⟩ := hA.so hlt
      have c := hcell _ hE
      clear hcell
      have hz := hE.sz _ hb0
      have hzn := hE.sz _ hn
      obtain ⟨x, hx⟩ : ∃ x, el l k = x := ⟨_, rfl⟩
      rw [hx] at c
      have HX := Lib.hid hx
      have HS := Lib.hid (laSoil_c x s n wr (h _ hE) hzn)
      clear hx
      cases hb : sameS x.s s
      · rw [hb] at HS
        have HF := Lib.hid hb
        clear hb
        go_wp2_with (first | (go_at_call 150; with_reducible refine Calls.mono (HS.out) ?_; rintro e w1 ⟨rfl, hb⟩; have hc := hb.ccell; have hf := hb.frz; have hs := hb.sz; (try simp at hs); (try have hs0 := hs w.heap.size (by omega)); (try have hs1 := hs (w.heap.size + 1) (by omega)); (try have hs2 := hs (w.heap.size + 1 + 1) (by omega)); (try have hs3 := hs (w.heap.size + 1 + 1 + 1) (by omega))))
        exact ⟨⟨by (repeat (first | with_reducible exact Ext.rfl' _ | with_reducible assumption | with_reducible refine Ext.al ?_ _ | with_reducible refine Ext.dr ?_ | with_reducible refine Ext.st ?_ (by simp) _ | with_reducible refine Ext.tr ?_ (by assumption))), k + 1, by omega, by go_num, by show anyN _ (k + 1) = false; rw [anyN, HN.out, HX.out, HF.out]; rfl⟩, by simp [intOf]; omega⟩
      · rw [hb] at HS
        have HF := Lib.hid hb
        clear hb
        go_wp2_with (first | (go_at_call 150; with_reducible refine Calls.mono (HS.out) ?_; rintro e w1 ⟨rfl, hb⟩; have hc := hb.ccell; have hf := hb.frz; have hs := hb.sz; (try simp at hs); (try have hs0 := hs w.heap.size (by omega)); (try have hs1 := hs (w.heap.size + 1) (by omega)); (try have hs2 := hs (w.heap.size + 1 + 1) (by omega)); (try have hs3 := hs (w.heap.size + 1 + 1 + 1) (by omega))))
        go_ret
        exact ⟨⟨k, rfl, by rw [anyN_at (fun j => sameS (el l j).s s) hlt (by show sameS (el l k).s s = true; rw [HX.out, HF.out])]; simp⟩, by (repeat (first | with_reducible exact Ext.rfl' _ | with_reducible assumption | with_reducible refine Ext.al ?_ _ | with_reducible refine Ext.dr ?_ | with_reducible refine Ext.st ?_ (by simp) _ | with_reducible refine Ext.tr ?_ (by assumption)))⟩
    · have hks : k = l.length := by omega
      subst hks
      go_wp2
      go_ret
      exact ⟨⟨-1, rfl, by rw [HN.out]; rfl⟩, hE⟩
theorem containsSo_c (l : List So) (s : ByteArray) (n : Nat) (w : World) (A : Option Addr) (c : Nat) (hl : l.length ≤ 1000) (hA : Row 5 encSo w A l) (h : ∀ w', Ext w w' → w'.cell? ⟨n, 1, none⟩ = some (.string s)) (hn : n < w.heap.size) :
    Calls Try.prog 149 #[.slice A l.length c, .func (.func 150) #[] #[.pointer (some ⟨n, 0, none⟩)]] w
      fun e w' => e = .returned (.bool (hasSoil l s)) ∧ Ext w w' := by
  have HI := Lib.hid (indexSo_c l s n w A c hl hA h hn)
  go_enter Try.func149, Try.ntmps149
  go_wp2_with (first | (go_at_call 167; with_reducible refine Calls.mono (HI.out) ?_; rintro e w1 ⟨⟨r, rfl, hr⟩, hb⟩))
  go_ret
  exact ⟨by rw [← hr]; rfl, hb⟩
set_option maxHeartbeats 4000000 in
theorem checkLayer_c (soils : List So) (L : List La) (k : Nat) (v2 : Value) (w : World) (A AL : Option Addr) (c cc : Nat) (hl : soils.length ≤ 1000) (hk : k < L.length) (hL : L.length ≤ 1000) (hA : Row 5 encSo w A soils) (hAL : Row 2 encLa w AL L) (_hv2 : v2.oneCell' = true) :
    Calls Try.prog 122 #[.agg #[.slice A soils.length c, v2], .slice AL k cc, .agg #[.int .i64 (el L k).t, .string (el L k).s]] w fun e w' => e = .returned (.int .i64 (laE soils L k)) ∧ Ext w w' := by
  unfold laE
  obtain ⟨x, hx⟩ : ∃ x, el L k = x := ⟨_, rfl⟩
  rw [hx]
  clear hx
  have HV := Lib.hid (fun w => sLevel_c x.t w)
  have HCO := Lib.hid (fun w' n (hw : Ext w w') h hn => containsSo_c soils x.s n w' A c hl (hA.ext hw) h hn)
  cases h1 : lvB x.t
  · rw [h1] at HV
    clear h1
    rw [if_pos rfl]
    go_enter Try.func122, Try.ntmps122
    go_wp2_with (first | (go_at_call 104; with_reducible refine Calls.mono (HV.out _) ?_; rintro e w' ⟨rfl, rfl⟩))
    go_ret
    exact ⟨rfl, by (repeat (first | with_reducible exact Ext.rfl' _ | with_reducible assumption | with_reducible refine Ext.al ?_ _ | with_reducible refine Ext.dr ?_ | with_reducible refine Ext.st ?_ (by simp) _ | with_reducible refine Ext.tr ?_ (by assumption)))⟩
  rw [h1] at HV
  clear h1
  rw [if_neg (by decide)]
  by_cases h0 : 0 < k
  case neg =>
    have hk0 : k = 0 := by omega
    subst hk0
    rw [if_neg (by omega)]
    cases h2 : hasSoil soils x.s
    all_goals
      rw [h2] at HCO
      clear h2
      go_enter Try.func122, Try.ntmps122
      go_upto_region 4 with (first | (go_at_call 104; with_reducible refine Calls.mono (HV.out _) ?_; rintro e w' ⟨rfl, rfl⟩))
      refine region_grow (by kernel_rfl) (by kernel_rfl) ?_
      repeat (first | go_big_quiet_step (first  | fail) | quiet_step (first  | fail))
      refine wpQuiet_nil ?_
      intro w1 hb
      have hc := hb.ccell
      have hf := hb.frz
      have hs := hb.sz
      (try simp at hs); (try have hs0 := hs w.heap.size (by omega)); (try have hs1 := hs (w.heap.size + 1) (by omega)); (try have hs2 := hs (w.heap.size + 1 + 1) (by omega)); (try have hs3 := hs (w.heap.size + 1 + 1 + 1) (by omega))
      (try simp only [IntWalk.i64_left])
      have s1 : w1.cell? ⟨w.heap.size + 1, 1, none⟩ = some (.string x.s) := by simp [*, go_sem]
      have hE1 : Ext w w1 := by (repeat (first | with_reducible exact Ext.rfl' _ | with_reducible assumption | with_reducible refine Ext.al ?_ _ | with_reducible refine Ext.dr ?_ | with_reducible refine Ext.st ?_ (by simp) _ | with_reducible refine Ext.tr ?_ (by assumption)))
      go_wp2_with (first | (go_at_call 149; with_reducible refine Calls.mono (HCO.out _ _ hE1 (fun w' hw => (hw.ccell _ 1 hs1).trans s1) hs1) ?_; rintro e w1 ⟨rfl, hb⟩; have hc := hb.ccell; have hf := hb.frz; have hs := hb.sz; (try simp at hs); (try have hs0 := hs w.heap.size (by omega)); (try have hs1 := hs (w.heap.size + 1) (by omega)); (try have hs2 := hs (w.heap.size + 1 + 1) (by omega)); (try have hs3 := hs (w.heap.size + 1 + 1 + 1) (by omega))))
      go_ret
      exact ⟨rfl, by (repeat (first | with_reducible exact Ext.rfl' _ | with_reducible assumption | with_reducible refine Ext.al ?_ _ | with_reducible refine Ext.dr ?_ | with_reducible refine Ext.st ?_ (by simp) _ | with_reducible refine Ext.tr ?_ (by assumption)))⟩
  obtain ⟨m, hkm⟩ : ∃ m, k = m + 1 := ⟨k - 1, by omega⟩
  obtain ⟨b, off, rfl, hb0, hcell⟩ := hAL.la (k := m) (by omega)
  have c1 := hcell _ (Ext.rfl' w)
  obtain ⟨y, hy⟩ : ∃ y, el L m = y := ⟨_, rfl⟩
  rw [show k - 1 = m by omega, hy]
  rw [hy] at c1
  obtain ⟨c0, _⟩ := c1
  have hm0 : decide (0 < k) = true := decide_eq_true h0
  have hw1 : IntKind.i64.wrap ((k : Int) - 1) = (m : Int) := by rw [show (k : Int) - 1 = (m : Int) by omega]; exact IntWalk.i64_in _ (by omega)
  have hmk : (m : Int) < (k : Int) := by omega
  have hm00 : (0 : Int) ≤ (m : Int) := by omega
  have HKM := Lib.hid hkm
  clear hcell hy hkm
  by_cases h3 : y.t ≤ x.t
  · rw [if_pos ⟨by omega, h3⟩]
    go_enter Try.func122, Try.ntmps122
    go_upto_region 4 with (first | (go_at_call 104; with_reducible refine Calls.mono (HV.out _) ?_; rintro e w' ⟨rfl, rfl⟩))
    refine wp_name (fun W hW => ?_)
    have hEW : Ext w W := by rw [hW]; (repeat (first | with_reducible exact Ext.rfl' _ | with_reducible assumption | with_reducible refine Ext.al ?_ _ | with_reducible refine Ext.dr ?_ | with_reducible refine Ext.st ?_ (by simp) _ | with_reducible refine Ext.tr ?_ (by assumption)))
    have s0 : W.cell? ⟨w.heap.size + 1, 0, none⟩ = some (.int .i64 x.t) := by rw [hW]; simp [go_sem]
    have s1 : W.cell? ⟨w.heap.size + 1, 1, none⟩ = some (.string x.s) := by rw [hW]; simp [go_sem]
    have r0 : W.cell? ⟨w.heap.size, 0, none⟩ = some (.slice A soils.length c) := by rw [hW]; simp [go_sem]
    have hWz : w.heap.size + 1 < W.heap.size := by rw [hW]; simp
    have hWz0 : w.heap.size < W.heap.size := by omega
    have hWb := hEW.sz _ hb0
    have c2 := (hEW.ccell _ (off + m * 2) hb0).trans c0
    clear hW c0 hb0
    refine region_grow (by kernel_rfl) (by kernel_rfl) ?_
    repeat (first | go_big_quiet_step (first  | fail) | quiet_step (first  | fail))
    refine wpQuiet_nil ?_
    intro w1 hb
    have hc := hb.ccell
    have hf := hb.frz
    have hs := hb.sz
    (try simp at hs); (try have hs0 := hs w.heap.size (by omega)); (try have hs1 := hs (w.heap.size + 1) (by omega)); (try have hs2 := hs (w.heap.size + 1 + 1) (by omega)); (try have hs3 := hs (w.heap.size + 1 + 1 + 1) (by omega))
    (try simp only [IntWalk.i64_left])
    go_wp2
    go_ret
    exact ⟨rfl, by (repeat (first | with_reducible exact Ext.rfl' _ | with_reducible assumption | with_reducible refine Ext.al ?_ _ | with_reducible refine Ext.dr ?_ | with_reducible refine Ext.st ?_ (by simp) _ | with_reducible refine Ext.tr ?_ (by assumption)))⟩
  rw [if_neg (fun h => h3 h.2)]
  cases h2 : hasSoil soils x.s
  all_goals
    rw [h2] at HCO
    clear h2
    go_enter Try.func122, Try.ntmps122
    go_upto_region 4 with (first | (go_at_call 104; with_reducible refine Calls.mono (HV.out _) ?_; rintro e w' ⟨rfl, rfl⟩))
    refine wp_name (fun W hW => ?_)
    have hEW : Ext w W := by rw [hW]; (repeat (first | with_reducible exact Ext.rfl' _ | with_reducible assumption | with_reducible refine Ext.al ?_ _ | with_reducible refine Ext.dr ?_ | with_reducible refine Ext.st ?_ (by simp) _ | with_reducible refine Ext.tr ?_ (by assumption)))
    have s0 : W.cell? ⟨w.heap.size + 1, 0, none⟩ = some (.int .i64 x.t) := by rw [hW]; simp [go_sem]
    have s1 : W.cell? ⟨w.heap.size + 1, 1, none⟩ = some (.string x.s) := by rw [hW]; simp [go_sem]
    have r0 : W.cell? ⟨w.heap.size, 0, none⟩ = some (.slice A soils.length c) := by rw [hW]; simp [go_sem]
    have hWz : w.heap.size + 1 < W.heap.size := by rw [hW]; simp
    have hWz0 : w.heap.size < W.heap.size := by omega
    have hWb := hEW.sz _ hb0
    have c2 := (hEW.ccell _ (off + m * 2) hb0).trans c0
    clear hW c0 hb0
    refine region_grow (by kernel_rfl) (by kernel_rfl) ?_
    repeat (first | go_big_quiet_step (first  | fail) | quiet_step (first  | fail))
    refine wpQuiet_nil ?_
    intro w1 hb
    have hc := hb.ccell
    have hf := hb.frz
    have hs := hb.sz
    (try simp at hs); (try have hs0 := hs w.heap.size (by omega)); (try have hs1 := hs (w.heap.size + 1) (by omega)); (try have hs2 := hs (w.heap.size + 1 + 1) (by omega)); (try have hs3 := hs (w.heap.size + 1 + 1 + 1) (by omega))
    (try simp only [IntWalk.i64_left])
    have hE1 : Ext W w1 := by assumption
    have r1 := (hE1.ccell _ 0 hWz0).trans r0
    have j1 := (hE1.ccell _ 1 hWz).trans s1
    have z1 := hE1.sz _ hWz
    have z0 := hE1.sz _ hWz0
    have hEw := hEW.tr hE1
    go_wp2_with (first | (go_at_call 149; with_reducible refine Calls.mono (HCO.out _ _ hEw (fun w' hw => (hw.ccell _ 1 z1).trans j1) z1) ?_; rintro e w1 ⟨rfl, hb⟩; have hc := hb.ccell; have hf := hb.frz; have hs := hb.sz; (try simp at hs); (try have hs0 := hs w.heap.size (by omega)); (try have hs1 := hs (w.heap.size + 1) (by omega)); (try have hs2 := hs (w.heap.size + 1 + 1) (by omega)); (try have hs3 := hs (w.heap.size + 1 + 1 + 1) (by omega))))
    go_ret
    exact ⟨rfl, by (repeat (first | with_reducible exact Ext.rfl' _ | with_reducible assumption | with_reducible refine Ext.al ?_ _ | with_reducible refine Ext.dr ?_ | with_reducible refine Ext.st ?_ (by simp) _ | with_reducible refine Ext.tr ?_ (by assumption)))⟩
end Go.Proofs.Ytohdplnlbnoojaa

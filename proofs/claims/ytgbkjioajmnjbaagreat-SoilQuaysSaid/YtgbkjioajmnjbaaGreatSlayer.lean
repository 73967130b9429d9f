/- The contract of checkNamed for soils, of CheckSoils. The contracts of CheckSoils, checkLayer, checkBoring. -/
import Derived.Test.YtgbkjioajmnjbaaGreatSsoil
import Derived.Test.YtgbkjioajmnjbaaGreatSgpure
import Derived.Test.YtgbkjioajmnjbaaGreatTtail
import Derived.Deep.Cut

namespace Go.Proofs.YtgbkjioajmnjbaaGreat
open Go Go.RowKit Go.IntWalk

theorem grown_cellS {w w' : World} {row : Option Nat} (h : w.grownBy w' row) {b : Nat} (hb : b < w.heap.size) (hne : some b ≠ row) (o : Nat) : w'.cell? ⟨b, o, none⟩ = w.cell? ⟨b, o, none⟩ := by
  have := h.block b hb hne
  unfold World.cell?
  simp only [this]
theorem name_le {s : ByteArray} (h : nameB s = true) : s.size ≤ maxLen := by
  unfold nameB at h
  unfold maxLen
  by_cases h1 : s.size = 0
  · omega
  · rw [if_neg h1] at h
    by_cases h2 : 12 < s.size
    · rw [if_pos h2] at h; cases h
    · omega
/-- The names of the first k elements. -/
def nmSet (nm : Nat → ByteArray) (k : Nat) (y : ByteArray) : Bool := anyN (fun j => sameS (nm j) y) k
theorem nmSet_succ (nm : Nat → ByteArray) (k : Nat) (s : ByteArray) (hs : nm k = s) : (fun y => sameS y s || nmSet nm k y) = nmSet nm (k + 1) := by
  funext y
  unfold nmSet
  rw [anyN, hs, sameS_comm s y, Bool.or_comm]
set_option maxHeartbeats 8000000 in
theorem namedSo_c (l : List So) (v1 v2 : Value) (w : World) (A : Option Addr) (c : Nat) (hl : l.length ≤ 1000) (hA : Row 5 encSo w A l) (hv1 : v1.oneCell' = true) (hv2 : v2.oneCell' = true) :
    Calls Tryz.prog 105 #[.slice A l.length c, .func (.func 106) #[] #[], .func (.func 107) #[.agg #[v1, v2]] #[]] w
      fun e w' => e = .returned (.int .i64 (firstE (soE l) l.length)) ∧ Ext w w' := by
  obtain ⟨E, hE0⟩ : ∃ E, firstE (soE l) l.length = E := ⟨_, rfl⟩
  rw [hE0]
  have HE := Lib.hid hE0
  have hmm := @run_makeMap Tryz.prog
  clear hE0
  go_enter Tryz.func105, Tryz.ntmps105
  go_wp2
  have hS : SetS (w.alloc (.map #[] 0)) w.heap.size 0 (nmSet (fun k => (el l k).s) 0) := SetS.made w
  have hX0 : Ext w (w.alloc (.map #[] 0)) := Ext.al (Ext.rfl' w) _
  have HS0 := Lib.hid hS
  generalize w.alloc (.map #[] 0) = w0 at *
  clear hS hmm
  go_loopw [15] (fun i wr => Ext w wr ∧ ∃ k : Nat, k ≤ l.length ∧ i = .int .i64 k ∧ Hid (SetS wr w.heap.size k (nmSet (fun k => (el l k).s) k)) ∧ Hid (firstE (soE l) k = 0)) (fun i _ => l.length - (intOf i).toNat)
  case atStart => exact ⟨hX0, 0, Nat.zero_le _, rfl, HS0, rfl⟩
  case round =>
    obtain ⟨hE, k, hk, rfl, hS, hF⟩ := hrel
    by_cases hlt : k < l.length
    · obtain ⟨b, off, rfl, hb0, hcell⟩ := hA.so hlt
      have c1 := hcell _ hE
      have hz := hE.sz _ hb0
      have HSE : Hid (soE l k = if (!nameB (el l k).s) = true then 4 else if nmSet (fun k => (el l k).s) k (el l k).s = true then 5 else numE (el l k)) := rfl
      have HNX := Lib.hid (nmSet_succ (fun k => (el l k).s) k (el l k).s rfl)
      clear hcell
      generalize el l k = x at *
      have HN := Lib.hid (fun w' => soName_c x w')
      have HNO := Lib.hid (fun w' A c hr => containsNo1_c x.s w' A c hr)
      have HCK := Lib.hid (fun w' => checkSoil_c x v1 v2 w' hv1 hv2)
      have hsz := hS.out.lt
      go_upto_region 5 with fail
      refine wp_name (fun W hW => ?_)
      have hEW : Ext wr W := by rw [hW]; (repeat (first | with_reducible exact Ext.rfl' _ | with_reducible assumption | with_reducible refine Ext.al ?_ _ | with_reducible refine Ext.dr ?_ | with_reducible refine Ext.st ?_ (by simp) _ | with_reducible refine Ext.tr ?_ (by assumption)))
      have s0 : W.cell? ⟨wr.heap.size, 0, none⟩ = some (.string x.s) := by rw [hW]; simp [go_sem]
      have s1 : W.cell? ⟨wr.heap.size, 1, none⟩ = some (.int .i64 x.run) := by rw [hW]; simp [go_sem]
      have s2 : W.cell? ⟨wr.heap.size, 2, none⟩ = some (.int .i64 x.den) := by rw [hW]; simp [go_sem]
      have s3 : W.cell? ⟨wr.heap.size, 3, none⟩ = some (.int .i64 x.num) := by rw [hW]; simp [go_sem]
      have s4 : W.cell? ⟨wr.heap.size, 4, none⟩ = some (.int .i64 x.dn) := by rw [hW]; simp [go_sem]
      have hWz : wr.heap.size < W.heap.size := by rw [hW]; simp
      have hww : w.heap.size < W.heap.size := by omega
      have HSW := Lib.hid (hS.out.ext hEW)
      have hEw : Ext w W := hE.tr hEW
      clear hW hS c1 hz hb0
      cases hb : nameB x.s
      · rw [hb] at HNO HSE
        have HT : Hid ((4 : Int) = E) := Lib.hid (by rw [← HE.out, firstE_at (soE l) hF.out (by rw [HSE.out]; simp) hlt, HSE.out]; rfl)
        clear hb
        go_wp2_with (first | (go_at_call 106; (with_reducible refine Calls.mono (HN.out _) ?_); rintro e w1 ⟨⟨A1, c1', rfl, hR1⟩, hb⟩; have hc := hb.ccell; have hf := hb.frz; have hs := hb.sz; (try simp at hs); (try have t0 := hs (wr.heap.size) (by first | assumption | omega)); (try have t1 := hs (w.heap.size) (by first | assumption | omega)); (try have t2 := hs (w.heap.size) (by first | assumption | omega)); (try have t3 := hs (w.heap.size) (by first | assumption | omega)); (try have t4 := hs (w.heap.size) (by first | assumption | omega)); (try have t5 := hs (w.heap.size) (by first | assumption | omega))) | (go_at_call 108; with_reducible refine Calls.mono (HNO.out _ _ _ (hR1.ext (by (repeat (first | with_reducible exact Ext.rfl' _ | with_reducible assumption | with_reducible refine Ext.al ?_ _ | with_reducible refine Ext.dr ?_ | with_reducible refine Ext.st ?_ (by simp) _ | with_reducible refine Ext.tr ?_ (by assumption)))))) ?_; rintro e w2 ⟨rfl, hb⟩; have hc := hb.ccell; have hf := hb.frz; have hs := hb.sz; (try simp at hs); (try have t0 := hs (wr.heap.size) (by first | assumption | omega)); (try have t1 := hs (w.heap.size) (by first | assumption | omega)); (try have t2 := hs (w.heap.size) (by first | assumption | omega)); (try have t3 := hs (w.heap.size) (by first | assumption | omega)); (try have t4 := hs (w.heap.size) (by first | assumption | omega)); (try have t5 := hs (w.heap.size) (by first | assumption | omega))))
        go_ret
        exact ⟨ret_int HT.out, by (repeat (first | with_reducible exact Ext.rfl' _ | with_reducible assumption | with_reducible refine Ext.al ?_ _ | with_reducible refine Ext.dr ?_ | with_reducible refine Ext.st ?_ (by simp) _ | with_reducible refine Ext.tr ?_ (by assumption)))⟩
      rw [hb] at HNO HSE
      have hnl := Lib.hid (name_le hb)
      clear hb
      go_upto_region 8 with (first | (go_at_call 106; (with_reducible refine Calls.mono (HN.out _) ?_); rintro e w1 ⟨⟨A1, c1', rfl, hR1⟩, hb⟩; have hc := hb.ccell; have hf := hb.frz; have hs := hb.sz; (try simp at hs); (try have t0 := hs (wr.heap.size) (by first | assumption | omega)); (try have t1 := hs (w.heap.size) (by first | assumption | omega)); (try have t2 := hs (w.heap.size) (by first | assumption | omega)); (try have t3 := hs (w.heap.size) (by first | assumption | omega)); (try have t4 := hs (w.heap.size) (by first | assumption | omega)); (try have t5 := hs (w.heap.size) (by first | assumption | omega))) | (go_at_call 108; with_reducible refine Calls.mono (HNO.out _ _ _ (hR1.ext (by (repeat (first | with_reducible exact Ext.rfl' _ | with_reducible assumption | with_reducible refine Ext.al ?_ _ | with_reducible refine Ext.dr ?_ | with_reducible refine Ext.st ?_ (by simp) _ | with_reducible refine Ext.tr ?_ (by assumption)))))) ?_; rintro e w2 ⟨rfl, hb⟩; have hc := hb.ccell; have hf := hb.frz; have hs := hb.sz; (try simp at hs); (try have t0 := hs (wr.heap.size) (by first | assumption | omega)); (try have t1 := hs (w.heap.size) (by first | assumption | omega)); (try have t2 := hs (w.heap.size) (by first | assumption | omega)); (try have t3 := hs (w.heap.size) (by first | assumption | omega)); (try have t4 := hs (w.heap.size) (by first | assumption | omega)); (try have t5 := hs (w.heap.size) (by first | assumption | omega))))
      obtain ⟨b1, o1, rfl, hb1, hc1⟩ := hR1.s1 (k := 0) (by simp)
      have hE12 : Ext w1 w2 := by assumption
      have hE2 : Ext W w2 := by (repeat (first | with_reducible exact Ext.rfl' _ | with_reducible assumption | with_reducible refine Ext.al ?_ _ | with_reducible refine Ext.dr ?_ | with_reducible refine Ext.st ?_ (by simp) _ | with_reducible refine Ext.tr ?_ (by assumption)))
      have e1 := hc1 w2 hE12
      simp only [List.getElem_cons_zero, Nat.add_zero] at e1
      have HS2 := Lib.hid (HSW.out.ext hE2)
      have hlk := HS2.out.look x.s hnl.out
      have hb1' := hE12.sz _ hb1
      have z2 := hE2.sz _ hWz
      have zw := hE2.sz _ hww
      have k0 := (hE2.ccell _ 0 hWz).trans s0
      have k1 := (hE2.ccell _ 1 hWz).trans s1
      have k2 := (hE2.ccell _ 2 hWz).trans s2
      have k3 := (hE2.ccell _ 3 hWz).trans s3
      have k4 := (hE2.ccell _ 4 hWz).trans s4
      have hEw2 := hEw.tr hE2
      clear hc hf hs hb t0 t1 t2 t3 t4 t5 hc1 hR1 s0 s1 s2 s3 s4
      cases hd : nmSet (fun k => (el l k).s) k x.s
      case true =>
        rw [hd] at hlk HSE
        have HT : Hid ((5 : Int) = E) := Lib.hid (by rw [← HE.out, firstE_at (soE l) hF.out (by rw [HSE.out]; simp) hlt, HSE.out]; rfl)
        clear hd
        go_wp2
        go_ret
        exact ⟨ret_int HT.out, by (repeat (first | with_reducible exact Ext.rfl' _ | with_reducible assumption | with_reducible refine Ext.al ?_ _ | with_reducible refine Ext.dr ?_ | with_reducible refine Ext.st ?_ (by simp) _ | with_reducible refine Ext.tr ?_ (by assumption)))⟩
      rw [hd] at hlk HSE
      have hkm : k < maxLen := by unfold maxLen; omega
      clear hd
      go_wp2_with (first | (at_mapUpdate; refine wpList_setPutS rfl _ _ _ rfl w.heap.size k _ rfl HS2.out hkm x.s rfl rfl hnl.out ?_))
      intro w3 hS3 hg3
      rw [HNX.out] at hS3
      have HS3 := Lib.hid hS3
      have j0 := (grown_cellS hg3 z2 (by intro e; injection e with e; omega) 0).trans k0
      have j1 := (grown_cellS hg3 z2 (by intro e; injection e with e; omega) 1).trans k1
      have j2 := (grown_cellS hg3 z2 (by intro e; injection e with e; omega) 2).trans k2
      have j3 := (grown_cellS hg3 z2 (by intro e; injection e with e; omega) 3).trans k3
      have j4 := (grown_cellS hg3 z2 (by intro e; injection e with e; omega) 4).trans k4
      have hE3 : Ext w w3 := Below.grown hEw2 hg3 hEw2.size (by intro q hq; injection hq with hq; omega)
      have z3 : wr.heap.size < w3.heap.size := Nat.lt_of_lt_of_le z2 hg3.size
      clear hS3 hg3 hlk e1 k0 k1 k2 k3 k4 z2 zw hb1' HS2 HNX
      have HSE2 : Hid (soE l k = numE x) := Lib.hid (by rw [HSE.out]; rfl)
      by_cases hn : numE x = 0
      · rw [hn] at HCK HSE2
        clear hn HSE
        go_wp2_with (first | (go_at_call 107; with_reducible refine Calls.mono (HCK.out _) ?_; rintro e w4 ⟨rfl, hb⟩; have hc := hb.ccell; have hf := hb.frz; have hs := hb.sz; (try simp at hs); (try have t0 := hs (w.heap.size) (by first | assumption | omega)); (try have t1 := hs (w.heap.size) (by first | assumption | omega)); (try have t2 := hs (w.heap.size) (by first | assumption | omega)); (try have t3 := hs (w.heap.size) (by first | assumption | omega)); (try have t4 := hs (w.heap.size) (by first | assumption | omega)); (try have t5 := hs (w.heap.size) (by first | assumption | omega))))
        have hE4 : Ext w3 w4 := by assumption
        exact ⟨⟨hE3.tr hE4, k + 1, by omega, by go_num, Lib.hid (HS3.out.ext hE4), firstE_step _ hF.out HSE2.out⟩, by simp [intOf]; omega⟩
      · have hn' : (numE x != 0) = true := by simp [hn]
        have HT : Hid (numE x = E) := Lib.hid (by rw [← HE.out, firstE_at (soE l) hF.out (by rw [HSE2.out]; exact hn) hlt, HSE2.out])
        clear hn HSE HSE2
        generalize numE x = q at *
        go_wp2_with (first | (go_at_call 107; with_reducible refine Calls.mono (HCK.out _) ?_; rintro e w4 ⟨rfl, hb⟩; have hc := hb.ccell; have hf := hb.frz; have hs := hb.sz; (try simp at hs); (try have t0 := hs (w.heap.size) (by first | assumption | omega)); (try have t1 := hs (w.heap.size) (by first | assumption | omega)); (try have t2 := hs (w.heap.size) (by first | assumption | omega)); (try have t3 := hs (w.heap.size) (by first | assumption | omega)); (try have t4 := hs (w.heap.size) (by first | assumption | omega)); (try have t5 := hs (w.heap.size) (by first | assumption | omega))))
        have hE4 : Ext w3 w4 := by assumption
        go_ret
        exact ⟨ret_int HT.out, hE3.tr hE4⟩
    · have hks : k = l.length := by omega
      have HT : Hid ((0 : Int) = E) := Lib.hid (by rw [← HE.out, ← hks, hF.out])
      go_wp2
      go_ret
      exact ⟨ret_int HT.out, by (repeat (first | with_reducible exact Ext.rfl' _ | with_reducible assumption | with_reducible refine Ext.al ?_ _ | with_reducible refine Ext.dr ?_ | with_reducible refine Ext.st ?_ (by simp) _ | with_reducible refine Ext.tr ?_ (by assumption)))⟩
end Go.Proofs.YtgbkjioajmnjbaaGreat

namespace Go.Proofs.YtgbkjioajmnjbaaGreat
open Go Go.RowKit Go.IntWalk

set_option maxHeartbeats 2000000 in
theorem icheckSoils_c (l : List So) (v2 : Value) (w : World) (A : Option Addr) (c : Nat) (hl : l.length ≤ 1000) (hA : Row 5 encSo w A l) (hv2 : v2.oneCell' = true) :
    Calls Tryz.prog 93 #[.agg #[.slice A l.length c, v2]] w fun e w' => e = .returned (.int .i64 (chkSoils l)) ∧ Ext w w' := by
  have HC := Lib.hid (fun w => checkCount_c l.length 8 w)
  unfold chkSoils
  by_cases h0 : cntE l.length 8 = 0
  case neg =>
    rw [if_pos h0]
    have h0' : (cntE l.length 8 != 0) = true := by simp [h0]
    clear h0
    generalize cntE l.length 8 = E at *
    go_enter Tryz.func93, Tryz.ntmps93
    go_wp2_with (first | (go_at_call 94; with_reducible refine Calls.mono (HC.out _) ?_; rintro e w' ⟨rfl, rfl⟩))
    go_ret
    exact ⟨rfl, by (repeat (first | with_reducible exact Ext.rfl' _ | with_reducible assumption | with_reducible refine Ext.al ?_ _ | with_reducible refine Ext.dr ?_ | with_reducible refine Ext.st ?_ (by simp) _ | with_reducible refine Ext.tr ?_ (by assumption)))⟩
  rw [if_neg (by omega)]
  rw [h0] at HC
  have HN := Lib.hid (fun w' (hw : Ext w w') => namedSo_c l (.slice A l.length c) v2 w' A c hl (hA.ext hw) rfl hv2)
  generalize firstE (soE l) l.length = E at *
  clear h0
  go_enter Tryz.func93, Tryz.ntmps93
  go_wp2_with (first | (go_at_call 94; with_reducible refine Calls.mono (HC.out _) ?_; rintro e w' ⟨rfl, rfl⟩) | (go_at_call 105; with_reducible refine Calls.mono (HN.out _ (by (repeat (first | with_reducible exact Ext.rfl' _ | with_reducible assumption | with_reducible refine Ext.al ?_ _ | with_reducible refine Ext.dr ?_ | with_reducible refine Ext.st ?_ (by simp) _ | with_reducible refine Ext.tr ?_ (by assumption))))) ?_; rintro e w1 ⟨rfl, hb⟩; have hc := hb.ccell; have hf := hb.frz; have hs := hb.sz; (try simp at hs); (try have hs0 := hs w.heap.size (by omega)); (try have hs1 := hs (w.heap.size + 1) (by omega)); (try have hs2 := hs (w.heap.size + 1 + 1) (by omega)); (try have hs3 := hs (w.heap.size + 1 + 1 + 1) (by omega))))
  go_ret
  exact ⟨rfl, by (repeat (first | with_reducible exact Ext.rfl' _ | with_reducible assumption | with_reducible refine Ext.al ?_ _ | with_reducible refine Ext.dr ?_ | with_reducible refine Ext.st ?_ (by simp) _ | with_reducible refine Ext.tr ?_ (by assumption)))⟩
set_option maxHeartbeats 2000000 in
theorem checkSoils_c (l : List So) (w : World) (A : Option Addr) (c : Nat) (hl : l.length ≤ 1000) (hA : Row 5 encSo w A l) :
    Calls Tryz.prog 76 #[.slice A l.length c] w fun e w' => e = .returned (.int .i64 (chkSoils l)) ∧ Ext w w' := by
  have HN := Lib.hid (fun w' v2 (hw : Ext w w') hv => icheckSoils_c l v2 w' A c hl (hA.ext hw) hv)
  go_enter Tryz.func76, Tryz.ntmps76
  go_wp2_with (first | (go_at_call 93; with_reducible refine Calls.mono (HN.out _ _ (by (repeat (first | with_reducible exact Ext.rfl' _ | with_reducible assumption | with_reducible refine Ext.al ?_ _ | with_reducible refine Ext.dr ?_ | with_reducible refine Ext.st ?_ (by simp) _ | with_reducible refine Ext.tr ?_ (by assumption)))) rfl) ?_; rintro e w1 ⟨rfl, hb⟩; have hc := hb.ccell; have hf := hb.frz; have hs := hb.sz; (try simp at hs); (try have hs0 := hs w.heap.size (by omega)); (try have hs1 := hs (w.heap.size + 1) (by omega)); (try have hs2 := hs (w.heap.size + 1 + 1) (by omega)); (try have hs3 := hs (w.heap.size + 1 + 1 + 1) (by omega))))
  go_ret
  exact ⟨rfl, by (repeat (first | with_reducible exact Ext.rfl' _ | with_reducible assumption | with_reducible refine Ext.al ?_ _ | with_reducible refine Ext.dr ?_ | with_reducible refine Ext.st ?_ (by simp) _ | with_reducible refine Ext.tr ?_ (by assumption)))⟩
theorem laSoil_c (x : So) (s : ByteArray) (n : Nat) (w : World) (h : w.cell? ⟨n, 1, none⟩ = some (.string s)) (hn : n < w.heap.size) :
    Calls Tryz.prog 116 #[.agg #[.string x.s, .int .i64 x.run, .int .i64 x.den, .int .i64 x.num, .int .i64 x.dn], .pointer (some ⟨n, 0, none⟩)] w fun e w' => e = .returned (.bool (sameS x.s s)) ∧ Ext w w' := by
  go_enter Tryz.func116, Tryz.ntmps116
  go_wp2
  go_ret
  exact ⟨rfl, by (repeat (first | with_reducible exact Ext.rfl' _ | with_reducible assumption | with_reducible refine Ext.al ?_ _ | with_reducible refine Ext.dr ?_ | with_reducible refine Ext.st ?_ (by simp) _ | with_reducible refine Ext.tr ?_ (by assumption)))⟩
set_option maxHeartbeats 1000000 in
theorem indexSo_c (l : List So) (s : ByteArray) (n : Nat) (w : World) (A : Option Addr) (c : Nat) (hl : l.length ≤ 1000) (hA : Row 5 encSo w A l) (h : ∀ w', Ext w w' → w'.cell? ⟨n, 1, none⟩ = some (.string s)) (hn : n < w.heap.size) :
    Calls Tryz.prog 117 #[.slice A l.length c, .func (.func 116) #[] #[.pointer (some ⟨n, 0, none⟩)]] w
      fun e w' => (∃ r : Int, e = .returned (.int .i64 r) ∧ decide (0 ≤ r) = hasSoil l s) ∧ Ext w w' := by
  unfold hasSoil
  go_enter Tryz.func117, Tryz.ntmps117
  go_wp2
  go_loopw [5, 8] (fun _ i wr => Ext w wr ∧ ∃ k : Nat, k ≤ l.length ∧ i = .int .i64 k ∧ Hid (anyN (fun j => sameS (el l j).s s) k = false)) (fun _ i _ => l.length - (intOf i).toNat)
  case atStart => exact ⟨Ext.rfl' _, 0, Nat.zero_le _, rfl, rfl⟩
  case round =>
    obtain ⟨hE, k, hk, rfl, HN⟩ := hrel
    by_cases hlt : k < l.length
    · obtain ⟨b, off, rfl, hb0, hcell⟩ := hA.so hlt
      have c := hcell _ hE
      clear hcell
      have hz := hE.sz _ hb0
      have hzn := hE.sz _ hn
      obtain ⟨x, hx⟩ : ∃ x, el l k = x := ⟨_, rfl⟩
      rw [hx] at c
      have HX := Lib.hid hx
      have HS := Lib.hid (laSoil_c x s n wr (h _ hE) hzn)
      clear hx
      cases hb : sameS x.s s
      · rw [hb] at HS
        have HF := Lib.hid hb
        clear hb
        go_wp2_with (first | (go_at_call 116; with_reducible refine Calls.mono (HS.out) ?_; rintro e w1 ⟨rfl, hb⟩; have hc := hb.ccell; have hf := hb.frz; have hs := hb.sz; (try simp at hs); (try have hs0 := hs w.heap.size (by omega)); (try have hs1 := hs (w.heap.size + 1) (by omega)); (try have hs2 := hs (w.heap.size + 1 + 1) (by omega)); (try have hs3 := hs (w.heap.size + 1 + 1 + 1) (by omega))))
        exact ⟨⟨by (repeat (first | with_reducible exact Ext.rfl' _ | with_reducible assumption | with_reducible refine Ext.al ?_ _ | with_reducible refine Ext.dr ?_ | with_reducible refine Ext.st ?_ (by simp) _ | with_reducible refine Ext.tr ?_ (by assumption))), k + 1, by omega, by go_num, by show anyN _ (k + 1) = false; rw [anyN, HN.out, HX.out, HF.out]; rfl⟩, by simp [intOf]; omega⟩
      · rw [hb] at HS
        have HF := Lib.hid hb
        clear hb
        go_wp2_with (first | (go_at_call 116; with_reducible refine Calls.mono (HS.out) ?_; rintro e w1 ⟨rfl, hb⟩; have hc := hb.ccell; have hf := hb.frz; have hs := hb.sz; (try simp at hs); (try have hs0 := hs w.heap.size (by omega)); (try have hs1 := hs (w.heap.size + 1) (by omega)); (try have hs2 := hs (w.heap.size + 1 + 1) (by omega)); (try have hs3 := hs (w.heap.size + 1 + 1 + 1) (by omega))))
        go_ret
        exact ⟨⟨k, rfl, by rw [anyN_at (fun j => sameS (el l j).s s) hlt (by show sameS (el l k).s s = true; rw [HX.out, HF.out])]; simp⟩, by (repeat (first | with_reducible exact Ext.rfl' _ | with_reducible assumption | with_reducible refine Ext.al ?_ _ | with_reducible refine Ext.dr ?_ | with_reducible refine Ext.st ?_ (by simp) _ | with_reducible refine Ext.tr ?_ (by assumption)))⟩
    · have hks : k = l.length := by omega
      subst hks
      go_wp2
      go_ret
      exact ⟨⟨-1, rfl, by rw [HN.out]; rfl⟩, hE⟩
theorem containsSo_c (l : List So) (s : ByteArray) (n : Nat) (w : World) (A : Option Addr) (c : Nat) (hl : l.length ≤ 1000) (hA : Row 5 encSo w A l) (h : ∀ w', Ext w w' → w'.cell? ⟨n, 1, none⟩ = some (.string s)) (hn : n < w.heap.size) :
    Calls Tryz.prog 115 #[.slice A l.length c, .func (.func 116) #[] #[.pointer (some ⟨n, 0, none⟩)]] w
      fun e w' => e = .returned (.bool (hasSoil l s)) ∧ Ext w w' := by
  have HI := Lib.hid (indexSo_c l s n w A c hl hA h hn)
  go_enter Tryz.func115, Tryz.ntmps115
  go_wp2_with (first | (go_at_call 117; with_reducible refine Calls.mono (HI.out) ?_; rintro e w1 ⟨⟨r, rfl, hr⟩, hb⟩))
  go_ret
  exact ⟨by rw [← hr]; rfl, hb⟩
set_option maxHeartbeats 4000000 in
theorem checkLayer_c (soils : List So) (L : List La) (k : Nat) (v2 : Value) (w : World) (A AL : Option Addr) (c cc : Nat) (hl : soils.length ≤ 1000) (hk : k < L.length) (hL : L.length ≤ 1000) (hA : Row 5 encSo w A soils) (hAL : Row 2 encLa w AL L) (_hv2 : v2.oneCell' = true) :
    Calls Tryz.prog 110 #[.agg #[.slice A soils.length c, v2], .slice AL k cc, .agg #[.int .i64 (el L k).t, .string (el L k).s]] w fun e w' => e = .returned (.int .i64 (laE soils L k)) ∧ Ext w w' := by
  unfold laE
  obtain ⟨x, hx⟩ : ∃ x, el L k = x := ⟨_, rfl⟩
  rw [hx]
  clear hx
  have HV := Lib.hid (fun w => sLevel_c x.t w)
  have HCO := Lib.hid (fun w' n (hw : Ext w w') h hn => containsSo_c soils x.s n w' A c hl (hA.ext hw) h hn)
  cases h1 : lvB x.t
  · rw [h1] at HV
    clear h1
    rw [if_pos rfl]
    go_enter Tryz.func110, Tryz.ntmps110
    go_wp2_with (first | (go_at_call 26; with_reducible refine Calls.mono (HV.out _) ?_; rintro e w' ⟨rfl, rfl⟩))
    go_ret
    exact ⟨rfl, by (repeat (first | with_reducible exact Ext.rfl' _ | with_reducible assumption | with_reducible refine Ext.al ?_ _ | with_reducible refine Ext.dr ?_ | with_reducible refine Ext.st ?_ (by simp) _ | with_reducible refine Ext.tr ?_ (by assumption)))⟩
  rw [h1] at HV
  clear h1
  rw [if_neg (by decide)]
  by_cases h0 : 0 < k
  case neg =>
    have hk0 : k = 0 := by omega
    subst hk0
    rw [if_neg (by omega)]
    cases h2 : hasSoil soils x.s
    all_goals
      rw [h2] at HCO
      clear h2
      go_enter Tryz.func110, Tryz.ntmps110
      go_upto_region 4 with (first | (go_at_call 26; with_reducible refine Calls.mono (HV.out _) ?_; rintro e w' ⟨rfl, rfl⟩))
      refine region_grow (by kernel_rfl) (by kernel_rfl) ?_
      repeat (first | go_big_quiet_step (first  | fail) | quiet_step (first  | fail))
      refine wpQuiet_nil ?_
      intro w1 hb
      have hc := hb.ccell
      have hf := hb.frz
      have hs := hb.sz
      (try simp at hs); (try have hs0 := hs w.heap.size (by omega)); (try have hs1 := hs (w.heap.size + 1) (by omega)); (try have hs2 := hs (w.heap.size + 1 + 1) (by omega)); (try have hs3 := hs (w.heap.size + 1 + 1 + 1) (by omega))
      (try simp only [IntWalk.i64_left])
      have s1 : w1.cell? ⟨w.heap.size + 1, 1, none⟩ = some (.string x.s) := by simp [*, go_sem]
      have hE1 : Ext w w1 := by (repeat (first | with_reducible exact Ext.rfl' _ | with_reducible assumption | with_reducible refine Ext.al ?_ _ | with_reducible refine Ext.dr ?_ | with_reducible refine Ext.st ?_ (by simp) _ | with_reducible refine Ext.tr ?_ (by assumption)))
      go_wp2_with (first | (go_at_call 115; with_reducible refine Calls.mono (HCO.out _ _ hE1 (fun w' hw => (hw.ccell _ 1 hs1).trans s1) hs1) ?_; rintro e w1 ⟨rfl, hb⟩; have hc := hb.ccell; have hf := hb.frz; have hs := hb.sz; (try simp at hs); (try have hs0 := hs w.heap.size (by omega)); (try have hs1 := hs (w.heap.size + 1) (by omega)); (try have hs2 := hs (w.heap.size + 1 + 1) (by omega)); (try have hs3 := hs (w.heap.size + 1 + 1 + 1) (by omega))))
      go_ret
      exact ⟨rfl, by (repeat (first | with_reducible exact Ext.rfl' _ | with_reducible assumption | with_reducible refine Ext.al ?_ _ | with_reducible refine Ext.dr ?_ | with_reducible refine Ext.st ?_ (by simp) _ | with_reducible refine Ext.tr ?_ (by assumption)))⟩
  obtain ⟨m, hkm⟩ : ∃ m, k = m + 1 := ⟨k - 1, by omega⟩
  obtain ⟨b, off, rfl, hb0, hcell⟩ := hAL.la (k := m) (by omega)
  have c1 := hcell _ (Ext.rfl' w)
  obtain ⟨y, hy⟩ : ∃ y, el L m = y := ⟨_, rfl⟩
  rw [show k - 1 = m by omega, hy]
  rw [hy] at c1
  obtain ⟨c0, _⟩ := c1
  have hm0 : decide (0 < k) = true := decide_eq_true h0
  have hw1 : IntKind.i64.wrap ((k : Int) - 1) = (m : Int) := by rw [show (k : Int) - 1 = (m : Int) by omega]; exact IntWalk.i64_in _ (by omega)
  have hmk : (m : Int) < (k : Int) := by omega
  have hm00 : (0 : Int) ≤ (m : Int) := by omega
  have HKM := Lib.hid hkm
  clear hcell hy hkm
  by_cases h3 : y.t ≤ x.t
  · rw [if_pos ⟨by omega, h3⟩]
    go_enter Tryz.func110, Tryz.ntmps110
    go_upto_region 4 with (first | (go_at_call 26; with_reducible refine Calls.mono (HV.out _) ?_; rintro e w' ⟨rfl, rfl⟩))
    refine wp_name (fun W hW => ?_)
    have hEW : Ext w W := by rw [hW]; (repeat (first | with_reducible exact Ext.rfl' _ | with_reducible assumption | with_reducible refine Ext.al ?_ _ | with_reducible refine Ext.dr ?_ | with_reducible refine Ext.st ?_ (by simp) _ | with_reducible refine Ext.tr ?_ (by assumption)))
    have s0 : W.cell? ⟨w.heap.size + 1, 0, none⟩ = some (.int .i64 x.t) := by rw [hW]; simp [go_sem]
    have s1 : W.cell? ⟨w.heap.size + 1, 1, none⟩ = some (.string x.s) := by rw [hW]; simp [go_sem]
    have r0 : W.cell? ⟨w.heap.size, 0, none⟩ = some (.slice A soils.length c) := by rw [hW]; simp [go_sem]
    have hWz : w.heap.size + 1 < W.heap.size := by rw [hW]; simp
    have hWz0 : w.heap.size < W.heap.size := by omega
    have hWb := hEW.sz _ hb0
    have c2 := (hEW.ccell _ (off + m * 2) hb0).trans c0
    clear hW c0 hb0
    refine region_grow (by kernel_rfl) (by kernel_rfl) ?_
    repeat (first | go_big_quiet_step (first  | fail) | quiet_step (first  | fail))
    refine wpQuiet_nil ?_
    intro w1 hb
    have hc := hb.ccell
    have hf := hb.frz
    have hs := hb.sz
    (try simp at hs); (try have hs0 := hs w.heap.size (by omega)); (try have hs1 := hs (w.heap.size + 1) (by omega)); (try have hs2 := hs (w.heap.size + 1 + 1) (by omega)); (try have hs3 := hs (w.heap.size + 1 + 1 + 1) (by omega))
    (try simp only [IntWalk.i64_left])
    go_wp2
    go_ret
    exact ⟨rfl, by (repeat (first | with_reducible exact Ext.rfl' _ | with_reducible assumption | with_reducible refine Ext.al ?_ _ | with_reducible refine Ext.dr ?_ | with_reducible refine Ext.st ?_ (by simp) _ | with_reducible refine Ext.tr ?_ (by assumption)))⟩
  rw [if_neg (fun h => h3 h.2)]
  cases h2 : hasSoil soils x.s
  all_goals
    rw [h2] at HCO
    clear h2
    go_enter Tryz.func110, Tryz.ntmps110
    go_upto_region 4 with (first | (go_at_call 26; with_reducible refine Calls.mono (HV.out _) ?_; rintro e w' ⟨rfl, rfl⟩))
    refine wp_name (fun W hW => ?_)
    have hEW : Ext w W := by rw [hW]; (repeat (first | with_reducible exact Ext.rfl' _ | with_reducible assumption | with_reducible refine Ext.al ?_ _ | with_reducible refine Ext.dr ?_ | with_reducible refine Ext.st ?_ (by simp) _ | with_reducible refine Ext.tr ?_ (by assumption)))
    have s0 : W.cell? ⟨w.heap.size + 1, 0, none⟩ = some (.int .i64 x.t) := by rw [hW]; simp [go_sem]
    have s1 : W.cell? ⟨w.heap.size + 1, 1, none⟩ = some (.string x.s) := by rw [hW]; simp [go_sem]
    have r0 : W.cell? ⟨w.heap.size, 0, none⟩ = some (.slice A soils.length c) := by rw [hW]; simp [go_sem]
    have hWz : w.heap.size + 1 < W.heap.size := by rw [hW]; simp
    have hWz0 : w.heap.size < W.heap.size := by omega
    have hWb := hEW.sz _ hb0
    have c2 := (hEW.ccell _ (off + m * 2) hb0).trans c0
    clear hW c0 hb0
    refine region_grow (by kernel_rfl) (by kernel_rfl) ?_
    repeat (first | go_big_quiet_step (first  | fail) | quiet_step (first  | fail))
    refine wpQuiet_nil ?_
    intro w1 hb
    have hc := hb.ccell
    have hf := hb.frz
    have hs := hb.sz
    (try simp at hs); (try have hs0 := hs w.heap.size (by omega)); (try have hs1 := hs (w.heap.size + 1) (by omega)); (try have hs2 := hs (w.heap.size + 1 + 1) (by omega)); (try have hs3 := hs (w.heap.size + 1 + 1 + 1) (by omega))
    (try simp only [IntWalk.i64_left])
    have hE1 : Ext W w1 := by assumption
    have r1 := (hE1.ccell _ 0 hWz0).trans r0
    have j1 := (hE1.ccell _ 1 hWz).trans s1
    have z1 := hE1.sz _ hWz
    have z0 := hE1.sz _ hWz0
    have hEw := hEW.tr hE1
    go_wp2_with (first | (go_at_call 115; with_reducible refine Calls.mono (HCO.out _ _ hEw (fun w' hw => (hw.ccell _ 1 z1).trans j1) z1) ?_; rintro e w1 ⟨rfl, hb⟩; have hc := hb.ccell; have hf := hb.frz; have hs := hb.sz; (try simp at hs); (try have hs0 := hs w.heap.size (by omega)); (try have hs1 := hs (w.heap.size + 1) (by omega)); (try have hs2 := hs (w.heap.size + 1 + 1) (by omega)); (try have hs3 := hs (w.heap.size + 1 + 1 + 1) (by omega))))
    go_ret
    exact ⟨rfl, by (repeat (first | with_reducible exact Ext.rfl' _ | with_reducible assumption | with_reducible refine Ext.al ?_ _ | with_reducible refine Ext.dr ?_ | with_reducible refine Ext.st ?_ (by simp) _ | with_reducible refine Ext.tr ?_ (by assumption)))⟩
end Go.Proofs.YtgbkjioajmnjbaaGreat

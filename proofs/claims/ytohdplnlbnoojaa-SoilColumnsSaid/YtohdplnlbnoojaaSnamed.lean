/- The contract of checkNamed for soils, of CheckSoils. -/
import Derived.Test.YtohdplnlbnoojaaSsoil
import Derived.Test.YtohdplnlbnoojaaSgpure
import Derived.Test.YtohdplnlbnoojaaTtail
import Derived.Deep.Cut
namespace Go.Proofs.Ytohdplnlbnoojaa
open Go Go.RowKit Go.IntWalk

theorem grown_cellS {w w' : World} {row : Option Nat} (h : w.grownBy w' row) {b : Nat} (hb : b < w.heap.size) (hne : some b ≠ row) (o : Nat) : w'.cell? ⟨b, o, none⟩ = w.cell? ⟨b, o, none⟩ := by
  have := h.block b hb hne
  unfold World.cell?
  simp only [this]
theorem name_le {s : ByteArray} (h : nameB s = true) : s.size ≤ maxLen := by
  unfold nameB at h
  unfold maxLen
  by_cases h1 : s.size = 0
  · omega
  · rw [if_neg h1] at h
    by_cases h2 : 12 < s.size
    · rw [if_pos h2] at h; cases h
    · omega
/-- The names of the first k elements. -/
def nmSet (nm : Nat → ByteArray) (k : Nat) (y : ByteArray) : Bool := anyN (fun j => sameS (nm j) y) k
theorem nmSet_succ (nm : Nat → ByteArray) (k : Nat) (s : ByteArray) (hs : nm k = s) : (fun y => sameS y s || nmSet nm k y) = nmSet nm (k + 1) := by
  funext y
  unfold nmSet
  rw [anyN, hs, sameS_comm s y, Bool.or_comm]
set_option maxHeartbeats 8000000 in
theorem namedSo_c (l : List So) (v1 v2 : Value) (w : World) (A : Option Addr) (c : Nat) (hl : l.length ≤ 1000) (hA : Row 5 encSo w A l) (hv1 : v1.oneCell' = true) (hv2 : v2.oneCell' = true) :
    Calls Try.prog 97 #[.slice A l.length c, .func (.func 98) #[] #[], .func (.func 99) #[.agg #[v1, v2]] #[]] w
      fun e w' => e = .returned (.int .i64 (firstE (soE l) l.length)) ∧ Ext w w' := by
  obtain ⟨E, hE0⟩ : ∃ E, firstE (soE l) l.length = E := ⟨_, rfl⟩
  rw [hE0]
  have HE := Lib.hid hE0
  have hmm := @run_makeMap Try.prog
  clear hE0
  go_enter Try.func97, Try.ntmps97
  go_wp2
  have hS : SetS (w.alloc (.map #[] 0)) w.heap.size 0 (nmSet (fun k => (el l k).s) 0) := SetS.made w
  have hX0 : Ext w (w.alloc (.map #[] 0)) := Ext.al (Ext.rfl' w) _
  have HS0 := Lib.hid hS
  generalize w.alloc (.map #[] 0) = w0 at *
  clear hS hmm
  go_loopw [15] (fun i wr => Ext w wr ∧ ∃ k : Nat, k ≤ l.length ∧ i = .int .i64 k ∧ Hid (SetS wr w.heap.size k (nmSet (fun k => (el l k).s) k)) ∧ Hid (firstE (soE l) k = 0)) (fun i _ => l.length - (intOf i).toNat)
  case atStart => exact ⟨hX0, 0, Nat.zero_le _, rfl, HS0, rfl⟩
  case round =>
    obtain ⟨hE, k, hk, rfl, hS, hF⟩ := hrel
    by_cases hlt : k < l.length
    · obtain ⟨b, off, rfl, hb0, hcell⟩ := hA.so hlt
      have c1 := hcell _ hE
      have hz := hE.sz _ hb0
      have HSE : Hid (soE l k = if (!nameB (el l k).s) = true then 4 else if nmSet (fun k => (el l k).s) k (el l k).s = true then 5 else numE (el l k)) := rfl
      have HNX := Lib.hid (nmSet_succ (fun k => (el l k).s) k (el l k).s rfl)
      clear hcell
      generalize el l k = x at *
      have HN := Lib.hid (fun w' => soName_c x w')
      have HNO := Lib.hid (fun w' A c hr => containsNo1_c x.s w' A c hr)
      have HCK := Lib.hid (fun w' => checkSoil_c x v1 v2 w' hv1 hv2)
      have hsz := hS.out.lt
      go_upto_region 5 with fail
      refine wp_name (fun W hW => ?_)
      have hEW : Ext wr W := by rw [hW]; (repeat (first | with_reducible exact Ext.rfl' _ | with_reducible assumption | with_reducible refine Ext.al ?_ _ | with_reducible refine Ext.dr ?_ | with_reducible refine Ext.st ?_ (by simp) _ | with_reducible refine Ext.tr ?_ (by assumption)))
      have s0 : W.cell? ⟨wr.heap.size, 0, none⟩ = some (.string x.s) := by rw [hW]; simp [go_sem]
      have s1 : W.cell? ⟨wr.heap.size, 1, none⟩ = some (.int .i64 x.run) := by rw [hW]; simp [go_sem]
      have s2 : W.cell? ⟨wr.heap.size, 2, none⟩ = some (.int .i64 x.den) := by rw [hW]; simp [go_sem]
      have s3 : W.cell? ⟨wr.heap.size, 3, none⟩ = some (.int .i64 x.num) := by rw [hW]; simp [go_sem]
      have s4 : W.cell? ⟨wr.heap.size, 4, none⟩ = some (.int .i64 x.dn) := by rw [hW]; simp [go_sem]
      have hWz : wr.heap.size < W.heap.size := by rw [hW]; simp
      have hww : w.heap.size < W.heap.size := by omega
      have HSW := Lib.hid (hS.out.ext hEW)
      have hEw : Ext w W := hE.tr hEW
      clear hW hS c1 hz hb0
      cases hb : nameB x.s
      · rw [hb] at HNO HSE
        have HT : Hid ((4 : Int) = E) := Lib.hid (by rw [← HE.out, firstE_at (soE l) hF.out (by rw [HSE.out]; simp) hlt, HSE.out]; rfl)
        clear hb
        go_wp2_with (first | (go_at_call 98; (with_reducible refine Calls.mono (HN.out _) ?_); rintro e w1 ⟨⟨A1, c1', rfl, hR1⟩, hb⟩; have hc := hb.ccell; have hf := hb.frz; have hs := hb.sz; (try simp at hs); (try have t0 := hs (wr.heap.size) (by first | assumption | omega)); (try have t1 := hs (w.heap.size) (by first | assumption | omega)); (try have t2 := hs (w.heap.size) (by first | assumption | omega)); (try have t3 := hs (w.heap.size) (by first | assumption | omega)); (try have t4 := hs (w.heap.size) (by first | assumption | omega)); (try have t5 := hs (w.heap.size) (by first | assumption | omega))) | (go_at_call 119; with_reducible refine Calls.mono (HNO.out _ _ _ (hR1.ext (by (repeat (first | with_reducible exact Ext.rfl' _ | with_reducible assumption | with_reducible refine Ext.al ?_ _ | with_reducible refine Ext.dr ?_ | with_reducible refine Ext.st ?_ (by simp) _ | with_reducible refine Ext.tr ?_ (by assumption)))))) ?_; rintro e w2 ⟨rfl, hb⟩; have hc := hb.ccell; have hf := hb.frz; have hs := hb.sz; (try simp at hs); (try have t0 := hs (wr.heap.size) (by first | assumption | omega)); (try have t1 := hs (w.heap.size) (by first | assumption | omega)); (try have t2 := hs (w.heap.size) (by first | assumption | omega)); (try have t3 := hs (w.heap.size) (by first | assumption | omega)); (try have t4 := hs (w.heap.size) (by first | assumption | omega)); (try have t5 := hs (w.heap.size) (by first | assumption | omega))))
        go_ret
        exact ⟨ret_int HT.out, by (repeat (first | with_reducible exact Ext.rfl' _ | with_reducible assumption | with_reducible refine Ext.al ?_ _ | with_reducible refine Ext.dr ?_ | with_reducible refine Ext.st ?_ (by simp) _ | with_reducible refine Ext.tr ?_ (by assumption)))⟩
      rw [hb] at HNO HSE
      have hnl := Lib.hid (name_le hb)
      clear hb
      go_upto_region 8 with (first | (go_at_call 98; (with_reducible refine Calls.mono (HN.out _) ?_); rintro e w1 ⟨⟨A1, c1', rfl, hR1⟩, hb⟩; have hc := hb.ccell; have hf := hb.frz; have hs := hb.sz; (try simp at hs); (try have t0 := hs (wr.heap.size) (by first | assumption | omega)); (try have t1 := hs (w.heap.size) (by first | assumption | omega)); (try have t2 := hs (w.heap.size) (by first | assumption | omega)); (try have t3 := hs (w.heap.size) (by first | assumption | omega)); (try have t4 := hs (w.heap.size) (by first | assumption | omega)); (try have t5 := hs (w.heap.size) (by first | assumption | omega))) | (go_at_call 119; with_reducible refine Calls.mono (HNO.out _ _ _ (hR1.ext (by (repeat (first | with_reducible exact Ext.rfl' _ | with_reducible assumption | with_reducible refine Ext.al ?_ _ | with_reducible refine Ext.dr ?_ | with_reducible refine Ext.st ?_ (by simp) _ | with_reducible refine Ext.tr ?_ (by assumption)))))) ?_; rintro e w2 ⟨rfl, hb⟩; have hc := hb.ccell; have hf := hb.frz; have hs := hb.sz; (try simp at hs); (try have t0 := hs (wr.heap.size) (by first | assumption | omega)); (try have t1 := hs (w.heap.size) (by first | assumption | omega)); (try have t2 := hs (w.heap.size) (by first | assumption | omega)); (try have t3 := hs (w.heap.size) (by first | assumption | omega)); (try have t4 := hs (w.heap.size) (by first | assumption | omega)); (try have t5 := hs (w.heap.size) (by first | assumption | omega))))
      obtain ⟨b1, o1, rfl, hb1, hc1⟩ := hR1.s1 (k := 0) (by simp)
      have hE12 : Ext w1 w2 := by assumption
      have hE2 : Ext W w2 := by (repeat (first | with_reducible exact Ext.rfl' _ | with_reducible assumption | with_reducible refine Ext.al ?_ _ | with_reducible refine Ext.dr ?_ | with_reducible refine Ext.st ?_ (by simp) _ | with_reducible refine Ext.tr ?_ (by assumption)))
      have e1 := hc1 w2 hE12
      simp only [List.getElem_cons_zero, Nat.add_zero] at e1
      have HS2 := Lib.hid (HSW.out.ext hE2)
      have hlk := HS2.out.look x.s hnl.out
      have hb1' := hE12.sz _ hb1
      have z2 := hE2.sz _ hWz
      have zw := hE2.sz _ hww
      have k0 := (hE2.ccell _ 0 hWz).trans s0
      have k1 := (hE2.ccell _ 1 hWz).trans s1
      have k2 := (hE2.ccell _ 2 hWz).trans s2
      have k3 := (hE2.ccell _ 3 hWz).trans s3
      have k4 := (hE2.ccell _ 4 hWz).trans s4
      have hEw2 := hEw.tr hE2
      clear hc hf hs hb t0 t1 t2 t3 t4 t5 hc1 hR1 s0 s1 s2 s3 s4
      cases hd : nmSet (fun k => (el l k).s) k x.s
      case true =>
        rw [hd] at hlk HSE
        have HT : Hid ((5 : Int) = E) := Lib.hid (by rw [← HE.out, firstE_at (soE l) hF.out (by rw [HSE.out]; simp) hlt, HSE.out]; rfl)
        clear hd
        go_wp2
        go_ret
        exact ⟨ret_int HT.out, by (repeat (first | with_reducible exact Ext.rfl' _ | with_reducible assumption | with_reducible refine Ext.al ?_ _ | with_reducible refine Ext.dr ?_ | with_reducible refine Ext.st ?_ (by simp) _ | with_reducible refine Ext.tr ?_ (by assumption)))⟩
      rw [hd] at hlk HSE
      have hkm : k < maxLen := by unfold maxLen; omega
      clear hd
      go_wp2_with (first | (at_mapUpdate; refine wpList_setPutS rfl _ _ _ rfl w.heap.size k _ rfl HS2.out hkm x.s rfl rfl hnl.out ?_))
      intro w3 hS3 hg3
      rw [HNX.out] at hS3
      have HS3 := Lib.hid hS3
      have j0 := (grown_cellS hg3 z2 (by intro e; injection e with e; omega) 0).trans k0
      have j1 := (grown_cellS hg3 z2 (by intro e; injection e with e; omega) 1).trans k1
      have j2 := (grown_cellS hg3 z2 (by intro e; injection e with e; omega) 2).trans k2
      have j3 := (grown_cellS hg3 z2 (by intro e; injection e with e; omega) 3).trans k3
      have j4 := (grown_cellS hg3 z2 (by intro e; injection e with e; omega) 4).trans k4
      have hE3 : Ext w w3 := Below.grown hEw2 hg3 hEw2.size (by intro q hq; injection hq with hq; omega)
      have z3 : wr.heap.size < w3.heap.size := Nat.lt_of_lt_of_le z2 hg3.size
      clear hS3 hg3 hlk e1 k0 k1 k2 k3 k4 z2 zw hb1' HS2 HNX
      have HSE2 : Hid (soE l k = numE x) := Lib.hid (by rw [HSE.out]; rfl)
      by_cases hn : numE x = 0
      · rw [hn] at HCK HSE2
        clear hn HSE
        go_wp2_with (first | (go_at_call 99; with_reducible refine Calls.mono (HCK.out _) ?_; rintro e w4 ⟨rfl, hb⟩; have hc := hb.ccell; have hf := hb.frz; have hs := hb.sz; (try simp at hs); (try have t0 := hs (w.heap.size) (by first | assumption | omega)); (try have t1 := hs (w.heap.size) (by first | assumption | omega)); (try have t2 := hs (w.heap.size) (by first | assumption | omega)); (try have t3 := hs (w.heap.size) (by first | assumption | omega)); (try have t4 := hs (w.heap.size) (by first | assumption | omega)); (try have t5 := hs (w.heap.size) (by first | assumption | omega))))
        have hE4 : Ext w3 w4 := by assumption
        exact ⟨⟨hE3.tr hE4, k + 1, by omega, by go_num, Lib.hid (HS3.out.ext hE4), firstE_step _ hF.out HSE2.out⟩, by simp [intOf]; omega⟩
      · have hn' : (numE x != 0) = true := by simp [hn]
        have HT : Hid (numE x = E) := Lib.hid (by rw [← HE.out, firstE_at (soE l) hF.out (by rw [HSE2.out]; exact hn) hlt, HSE2.out])
        clear hn HSE HSE2
        generalize numE x = q at *
        go_wp2_with (first | (go_at_call 99; with_reducible refine Calls.mono (HCK.out _) ?_; rintro e w4 ⟨rfl, hb⟩; have hc := hb.ccell; have hf := hb.frz; have hs := hb.sz; (try simp at hs); (try have t0 := hs (w.heap.size) (by first | assumption | omega)); (try have t1 := hs (w.heap.size) (by first | assumption | omega)); (try have t2 := hs (w.heap.size) (by first | assumption | omega)); (try have t3 := hs (w.heap.size) (by first | assumption | omega)); (try have t4 := hs (w.heap.size) (by first | assumption | omega)); (try have t5 := hs (w.heap.size) (by first | assumption | omega))))
        have hE4 : Ext w3 w4 := by assumption
        go_ret
        exact ⟨ret_int HT.out, hE3.tr hE4⟩
    · have hks : k = l.length := by omega
      have HT : Hid ((0 : Int) = E) := Lib.hid (by rw [← HE.out, ← hks, hF.out])
      go_wp2
      go_ret
      exact ⟨ret_int HT.out, by (repeat (first | with_reducible exact Ext.rfl' _ | with_reducible assumption | with_reducible refine Ext.al ?_ _ | with_reducible refine Ext.dr ?_ | with_reducible refine Ext.st ?_ (by simp) _ | with_reducible refine Ext.tr ?_ (by assumption)))⟩
end Go.Proofs.Ytohdplnlbnoojaa

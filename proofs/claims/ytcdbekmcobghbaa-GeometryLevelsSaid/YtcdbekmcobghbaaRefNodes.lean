/- The contract of the reference's CheckNodes. -/
import Derived.Test.YtcdbekmcobghbaaPrism
namespace Go.Proofs.Ytcdbekmcobghbaa
open Go Go.RowKit Go.IntWalk

theorem within3_is (n lo hi : Int) (r : Bool) (hr : withinB n lo hi = r) (w : World) :
    Calls Try.prog 66 #[.int .i64 n, .int .i64 lo, .int .i64 hi] w fun e w' => e = .returned (.bool r) ∧ w = w' := by
  rw [← hr]; exact within3_c n lo hi w
theorem rgood_is (x y : Int) (r : Bool) (hr : good ⟨x, y⟩ = r) (w : World) :
    Calls Try.prog 24 #[.agg #[.int .i64 x, .int .i64 y]] w fun e w' => e = .returned (.bool r) ∧ Ext w w' := by
  rw [← hr]; exact rgood_c x y w

set_option maxHeartbeats 2000000 in
theorem rnodes_c (ns : List I3) (a b c : Int) (w : World) (A : Option Addr) (cA : Nat) (hl : ns.length ≤ maxLen) (hA : Row 3 encI w A ns) :
    Calls Try.prog 65 #[.slice A ns.length cA, .agg #[.int .i64 a, .int .i64 b, .int .i64 c]] w
      fun e w' => e = .returned (.int .i64 (nodesE ns (a, b, c))) ∧ Ext w w' := by
  have hlp : (psN ns).length ≤ maxLen := by rw [psN_len]; exact hl
  have hhas := fun w => has_c (psN ns) a b c w hlp
  rw [psN_len] at hhas
  have HHAS := Lib.hid hhas
  clear hhas hlp
  unfold maxLen at hl
  obtain ⟨E, hE0⟩ : ∃ E, nodesE ns (a, b, c) = E := ⟨_, rfl⟩
  rw [hE0]
  by_cases h : 64 < ns.length
  · have h' : (64 : Int) < (ns.length : Int) := by omega
    have e8 : E = 8 := by rw [← hE0]; unfold nodesE; rw [if_pos h]
    subst e8
    clear hE0
    go_enter Try.func65, Try.ntmps65
    go_wp2
    go_ret
    exact ⟨rfl, by (repeat (first | with_reducible exact Ext.rfl' _ | with_reducible assumption | with_reducible refine Ext.al ?_ _ | with_reducible refine Ext.dr ?_ | with_reducible refine Ext.st ?_ (by simp) _ | with_reducible refine Ext.tr ?_ (by assumption)))⟩
  have h' : (ns.length : Int) ≤ 64 := by omega
  rw [nodesE_mid h] at hE0
  have HE := Lib.hid hE0
  clear hE0
  go_enter Try.func65, Try.ntmps65
  go_wp2
  refine wp_name (fun W hW => ?_)
  have hE : Ext w W := by rw [hW]; (repeat (first | with_reducible exact Ext.rfl' _ | with_reducible assumption | with_reducible refine Ext.al ?_ _ | with_reducible refine Ext.dr ?_ | with_reducible refine Ext.st ?_ (by simp) _ | with_reducible refine Ext.tr ?_ (by assumption)))
  have HW := Lib.hid hW
  clear hW
  have kt : W.cell? ⟨w.heap.size, 0, none⟩ = some (.int .i64 a) ∧ W.cell? ⟨w.heap.size, 1, none⟩ = some (.int .i64 b) ∧ W.cell? ⟨w.heap.size, 2, none⟩ = some (.int .i64 c) := by
    rw [HW.out]; refine ⟨?_, ?_, ?_⟩ <;> simp [World.cell?_alloc_new, go_sem]
  have hz : w.heap.size < W.heap.size := by rw [HW.out]; simp
  have K := Lib.hid kt
  clear kt HW
  go_loopw [5] (fun i wr => Ext W wr ∧ ∃ k : Nat, k ≤ ns.length ∧ i = .int .i64 k ∧ Hid ((ns.take k).all goodN = true)) (fun i _ => ns.length - (intOf i).toNat)
  case atStart => exact ⟨Ext.rfl' _, 0, Nat.zero_le _, rfl, by simp [Hid]⟩
  case round =>
    obtain ⟨hr, k, hk, rfl, hK⟩ := hrel
    have hEr := hE.tr hr
    by_cases hlt : k < ns.length
    · obtain ⟨b0, off, rfl, hb0, hcell⟩ := hA.p3 hlt
      have cc := hcell _ hEr
      clear hcell
      have hzb := hEr.sz _ hb0
      have HP := Lib.hid (fun w => place_c ns[k].1 ns[k].2.1 ns[k].2.2 w)
      have hgd : goodN ns[k] = (good ⟨ns[k].1, ns[k].2.1⟩ && withinB ns[k].2.2 (-20000) 20000) := rfl
      cases hg : good ⟨ns[k].1, ns[k].2.1⟩
      · rw [hg, Bool.false_and] at hgd
        have HG := Lib.hid (rgood_is _ _ _ hg)
        have HB := Lib.hid hgd
        clear hg hgd
        go_wp2_with (first | (go_at_call 109; with_reducible refine Calls.mono (HP.out _) ?_; rintro e w1 ⟨rfl, hb⟩; have hc := hb.ccell; have hf := hb.frz; have hs := hb.sz; (try simp at hs); (try have hs0 := hs w.heap.size (by omega)); (try have hs1 := hs (w.heap.size + 1) (by omega)); (try have hs2 := hs (w.heap.size + 1 + 1) (by omega)); (try have hs3 := hs (w.heap.size + 1 + 1 + 1) (by omega))) | (go_at_call 24; with_reducible refine Calls.mono (HG.out _) ?_; rintro e w1 ⟨rfl, hb⟩; have hc := hb.ccell; have hf := hb.frz; have hs := hb.sz; (try simp at hs); (try have hs0 := hs w.heap.size (by omega)); (try have hs1 := hs (w.heap.size + 1) (by omega)); (try have hs2 := hs (w.heap.size + 1 + 1) (by omega)); (try have hs3 := hs (w.heap.size + 1 + 1 + 1) (by omega))))
        go_ret
        exact ⟨ret_int (by rw [← HE.out, all_false _ _ k hlt HB.out]; rfl), by (repeat (first | with_reducible exact Ext.rfl' _ | with_reducible assumption | with_reducible refine Ext.al ?_ _ | with_reducible refine Ext.dr ?_ | with_reducible refine Ext.st ?_ (by simp) _ | with_reducible refine Ext.tr ?_ (by assumption)))⟩
      cases hg2 : withinB ns[k].2.2 (-20000) 20000
      all_goals
        rw [hg, hg2] at hgd
        have HG := Lib.hid (rgood_is _ _ _ hg)
        have HB := Lib.hid hgd
        have HG2 := Lib.hid (within3_is _ _ _ _ hg2)
        clear hg hg2 hgd
        go_wp2_with (first | (go_at_call 109; with_reducible refine Calls.mono (HP.out _) ?_; rintro e w1 ⟨rfl, hb⟩; have hc := hb.ccell; have hf := hb.frz; have hs := hb.sz; (try simp at hs); (try have t0 := hs b0 (by assumption))) | (go_at_call 24; with_reducible refine Calls.mono (HG.out _) ?_; rintro e w1 ⟨rfl, hb⟩; have hc := hb.ccell; have hf := hb.frz; have hs := hb.sz; (try simp at hs); (try have t0 := hs b0 (by assumption))) | (go_at_call 66; refine Calls.mono (HG2.out _) ?_; rintro e w' ⟨rfl, rfl⟩))
      · go_ret
        exact ⟨ret_int (by rw [← HE.out, all_false _ _ k hlt HB.out]; rfl), by (repeat (first | with_reducible exact Ext.rfl' _ | with_reducible assumption | with_reducible refine Ext.al ?_ _ | with_reducible refine Ext.dr ?_ | with_reducible refine Ext.st ?_ (by simp) _ | with_reducible refine Ext.tr ?_ (by assumption)))⟩
      · exact ⟨⟨by (repeat (first | with_reducible exact Ext.rfl' _ | with_reducible assumption | with_reducible refine Ext.al ?_ _ | with_reducible refine Ext.dr ?_ | with_reducible refine Ext.st ?_ (by simp) _ | with_reducible refine Ext.tr ?_ (by assumption))), k + 1, by omega, by go_num, all_take_succ _ _ k hlt hK.out HB.out⟩, by simp [intOf]; omega⟩
    · have HALL := Lib.hid (take_all _ _ k (by omega) hK.out)
      obtain ⟨t0, t1, t2⟩ := K.out
      have c0 := (hr.ccell _ _ hz).trans t0
      have c1 := (hr.ccell _ _ hz).trans t1
      have c2 := (hr.ccell _ _ hz).trans t2
      have hzr := hr.sz _ hz
      clear t0 t1 t2
      cases hh : hasL (psN ns) (a, b, c)
      · rw [hh] at HHAS
        have HH := Lib.hid hh
        clear hh
        go_wp2_with (first | (go_at_call 105; with_reducible refine Calls.mono (HHAS.out _) ?_; rintro e w1 ⟨rfl, hb⟩; have hc := hb.ccell; have hf := hb.frz; have hs := hb.sz; (try simp at hs); (try have hs0 := hs w.heap.size (by omega)); (try have hs1 := hs (w.heap.size + 1) (by omega)); (try have hs2 := hs (w.heap.size + 1 + 1) (by omega)); (try have hs3 := hs (w.heap.size + 1 + 1 + 1) (by omega))))
        go_ret
        exact ⟨ret_int (by rw [← HE.out, HALL.out, HH.out]; rfl), by (repeat (first | with_reducible exact Ext.rfl' _ | with_reducible assumption | with_reducible refine Ext.al ?_ _ | with_reducible refine Ext.dr ?_ | with_reducible refine Ext.st ?_ (by simp) _ | with_reducible refine Ext.tr ?_ (by assumption)))⟩
      · rw [hh] at HHAS
        have HH := Lib.hid hh
        have hh' := hh
        simp only [hasL, Bool.and_eq_true] at hh'
        obtain ⟨q0, q1, q2⟩ := hh'
        obtain ⟨i0, b0, n0⟩ := inL_nat q0
        obtain ⟨i1, b1, n1⟩ := inL_nat q1
        obtain ⟨i2, b2, n2⟩ := inL_nat q2
        have f0 : i0 < ns.length := by rwa [psN_len] at b0
        have f1 : i1 < ns.length := by rwa [psN_len] at b1
        have f2 : i2 < ns.length := by rwa [psN_len] at b2
        obtain ⟨bl, ol, rfl, hbl, d0⟩ := hA.q3 (x := ns[i0].1) (y := ns[i0].2.1) (z := ns[i0].2.2) (List.getElem?_eq_getElem f0)
        obtain ⟨e0, e1, e2⟩ := d0 _ hEr
        obtain ⟨e3, e4, e5⟩ := hA.q3' (x := ns[i1].1) (y := ns[i1].2.1) (z := ns[i1].2.2) (List.getElem?_eq_getElem f1) _ hEr
        obtain ⟨e6, e7, e8⟩ := hA.q3' (x := ns[i2].1) (y := ns[i2].2.1) (z := ns[i2].2.2) (List.getElem?_eq_getElem f2) _ hEr
        have hzl := hEr.sz _ hbl
        have HP0 := Lib.hid (fun w => place_c ns[i0].1 ns[i0].2.1 ns[i0].2.2 w)
        have HP1 := Lib.hid (fun w => place_c ns[i1].1 ns[i1].2.1 ns[i1].2.2 w)
        have HP2 := Lib.hid (fun w => place_c ns[i2].1 ns[i2].2.1 ns[i2].2.2 w)
        have hO := fun w => rorient_c ns[i0].1 ns[i0].2.1 ns[i1].1 ns[i1].2.1 ns[i2].1 ns[i2].2.1 w
        have hat : ∀ i (hi : i < ns.length), atI (psN ns) (i : Nat) = ⟨ns[i].1, ns[i].2.1⟩ := fun i hi => by
          rw [atI_nat (psN ns) i (by rw [psN_len]; exact hi)]; simp [psN, ptN]
        have hcr : crI (psN ns) (a, b, c) = crossW ⟨ns[i0].1, ns[i0].2.1⟩ ⟨ns[i1].1, ns[i1].2.1⟩ ⟨ns[i2].1, ns[i2].2.1⟩ := by
          unfold crI; simp only [n0, n1, n2, hat i0 f0, hat i1 f1, hat i2 f2]
        rw [← hcr] at hO
        obtain ⟨z, hz0⟩ : ∃ z, crI (psN ns) (a, b, c) = z := ⟨_, rfl⟩
        rw [hz0] at hO
        have HZ := Lib.hid hz0
        have HO := Lib.hid hO
        subst n0 n1 n2
        clear hh q0 q1 q2 d0 hO hat hcr hz0
        by_cases hz1 : cmpI z 0 = 0
        · have hzz : z = 0 := by unfold cmpI at hz1; split at hz1 <;> (try split at hz1) <;> omega
          subst hzz
          go_wp2_with (first | (go_at_call 105; with_reducible refine Calls.mono (HHAS.out _) ?_; rintro e w1 ⟨rfl, hb⟩; have hc := hb.ccell; have hf := hb.frz; have hs := hb.sz; (try simp at hs); (try have hs0 := hs w.heap.size (by omega)); (try have hs1 := hs (w.heap.size + 1) (by omega)); (try have hs2 := hs (w.heap.size + 1 + 1) (by omega)); (try have hs3 := hs (w.heap.size + 1 + 1 + 1) (by omega))))
          refine region_grow (by kernel_rfl) (by kernel_rfl) ?_
          repeat (first | go_big_quiet_step (first | (go_at_call 109; with_reducible exact callsGrow (HP0.out _)) | (go_at_call 109; with_reducible exact callsGrow (HP1.out _)) | (go_at_call 109; with_reducible exact callsGrow (HP2.out _)) | (go_at_call 28; with_reducible exact callsGrow (HO.out _)) | fail) | quiet_step (first | (go_at_call 109; with_reducible exact callsGrow (HP0.out _)) | (go_at_call 109; with_reducible exact callsGrow (HP1.out _)) | (go_at_call 109; with_reducible exact callsGrow (HP2.out _)) | (go_at_call 28; with_reducible exact callsGrow (HO.out _)) | fail))
          refine wpQuiet_nil ?_
          intro w1 hb
          have hc := hb.ccell
          have hf := hb.frz
          have hs := hb.sz
          (try simp at hs); (try have hs0 := hs w.heap.size (by omega)); (try have hs1 := hs (w.heap.size + 1) (by omega)); (try have hs2 := hs (w.heap.size + 1 + 1) (by omega)); (try have hs3 := hs (w.heap.size + 1 + 1 + 1) (by omega))
          (try simp only [IntWalk.i64_left])
          go_wp2
          go_ret
          exact ⟨ret_int (by rw [← HE.out, HALL.out, HH.out, HZ.out]; rfl), by (repeat (first | with_reducible exact Ext.rfl' _ | with_reducible assumption | with_reducible refine Ext.al ?_ _ | with_reducible refine Ext.dr ?_ | with_reducible refine Ext.st ?_ (by simp) _ | with_reducible refine Ext.tr ?_ (by assumption)))⟩
        · have hzz : z ≠ 0 := by intro h0; subst h0; exact hz1 rfl
          have HZ1 := Lib.hid hzz
          clear hzz
          generalize cmpI z 0 = o at hz1 HO
          go_wp2_with (first | (go_at_call 105; with_reducible refine Calls.mono (HHAS.out _) ?_; rintro e w1 ⟨rfl, hb⟩; have hc := hb.ccell; have hf := hb.frz; have hs := hb.sz; (try simp at hs); (try have hs0 := hs w.heap.size (by omega)); (try have hs1 := hs (w.heap.size + 1) (by omega)); (try have hs2 := hs (w.heap.size + 1 + 1) (by omega)); (try have hs3 := hs (w.heap.size + 1 + 1 + 1) (by omega))))
          refine region_grow (by kernel_rfl) (by kernel_rfl) ?_
          repeat (first | go_big_quiet_step (first | (go_at_call 109; with_reducible exact callsGrow (HP0.out _)) | (go_at_call 109; with_reducible exact callsGrow (HP1.out _)) | (go_at_call 109; with_reducible exact callsGrow (HP2.out _)) | (go_at_call 28; with_reducible exact callsGrow (HO.out _)) | fail) | quiet_step (first | (go_at_call 109; with_reducible exact callsGrow (HP0.out _)) | (go_at_call 109; with_reducible exact callsGrow (HP1.out _)) | (go_at_call 109; with_reducible exact callsGrow (HP2.out _)) | (go_at_call 28; with_reducible exact callsGrow (HO.out _)) | fail))
          refine wpQuiet_nil ?_
          intro w1 hb
          have hc := hb.ccell
          have hf := hb.frz
          have hs := hb.sz
          (try simp at hs); (try have hs0 := hs w.heap.size (by omega)); (try have hs1 := hs (w.heap.size + 1) (by omega)); (try have hs2 := hs (w.heap.size + 1 + 1) (by omega)); (try have hs3 := hs (w.heap.size + 1 + 1 + 1) (by omega))
          (try simp only [IntWalk.i64_left])
          go_wp2
          go_ret
          exact ⟨ret_int (by rw [← HE.out, HALL.out, HH.out, HZ.out]; simp [HZ1.out]), by (repeat (first | with_reducible exact Ext.rfl' _ | with_reducible assumption | with_reducible refine Ext.al ?_ _ | with_reducible refine Ext.dr ?_ | with_reducible refine Ext.st ?_ (by simp) _ | with_reducible refine Ext.tr ?_ (by assumption)))⟩
end Go.Proofs.Ytcdbekmcobghbaa

/- The contracts of isLowered and isHeld. -/
import Derived.Test.YtdbabihjnhnnfaaGreatSckb
import Derived.Test.YtdbabihjnhnnfaaGreatSallow
import Derived.Test.YtdbabihjnhnnfaaGreatSprf
namespace Go.Proofs.YtdbabihjnhnnfaaGreat
open Go Go.RowKit Go.IntWalk

/-- Cell k is not as it may be behind a slump: known in one bed alone, or higher. -/
def lwF (g h : Gr) (k : Nat) : Bool := (knB g.L k != knB h.L k) || decide (gi g.L k < gi h.L k)
set_option maxHeartbeats 8000000 in
set_option maxRecDepth 100000 in
theorem low_c (g h : Gr) (w : World) (A B : Option Addr) (c d : Nat) (hn : g.L.length ≤ 1024) (hlen : h.L.length = g.L.length) (hA : Row 1 encZ w A g.L) (hB : Row 1 encZ w B h.L) :
    Calls Tryz.prog 20 #[.agg #[.int .i64 g.X, .int .i64 g.Y, .int .i64 g.S, .int .i64 g.C, .int .i64 g.R, .slice A g.L.length c], .agg #[.int .i64 h.X, .int .i64 h.Y, .int .i64 h.S, .int .i64 h.C, .int .i64 h.R, .slice B h.L.length d]] w fun e w' => e = .returned (.bool (!anyN (lwF g h) g.L.length)) ∧ Ext w w' := by
  have HKG := Lib.hid (fun k (hk : k < g.L.length) w' (hw : Ext w w') => sKnown_c g k w' A c hk (by omega) (hA.ext hw))
  have HKH := Lib.hid (fun k (hk : k < h.L.length) w' (hw : Ext w w') => sKnown_c h k w' B d hk (by omega) (hB.ext hw))
  have HLN := Lib.hid hlen
  have HRA := Lib.hid hA
  have HRB := Lib.hid hB
  obtain ⟨N, hN⟩ : ∃ N, anyN (lwF g h) g.L.length = N := ⟨_, rfl⟩
  rw [hN]
  have HN := Lib.hid hN
  clear hN hA hB hlen
  go_enter Tryz.func20, Tryz.ntmps20
  go_upto_region 1 with fail
  refine wp_name (fun W hW => ?_)
  have hEW : Ext w W := by rw [hW]; (repeat (first | with_reducible exact Ext.rfl' _ | with_reducible assumption | with_reducible refine Ext.al ?_ _ | with_reducible refine Ext.dr ?_ | with_reducible refine Ext.st ?_ (by simp) _ | with_reducible refine Ext.tr ?_ (by assumption)))
  have km : CellsAt W w.heap.size 0 [.int .i64 g.X, .int .i64 g.Y, .int .i64 g.S, .int .i64 g.C, .int .i64 g.R, .slice A g.L.length c] := by rw [hW]; refine cells_six ⟨?_, ?_, ?_, ?_, ?_, ?_⟩ <;> simp [go_sem]
  have kn : CellsAt W (w.heap.size + 1) 0 [.int .i64 h.X, .int .i64 h.Y, .int .i64 h.S, .int .i64 h.C, .int .i64 h.R, .slice B h.L.length d] := by rw [hW]; refine cells_six ⟨?_, ?_, ?_, ?_, ?_, ?_⟩ <;> simp [go_sem]
  have zn : w.heap.size + 1 < W.heap.size := by rw [hW]; simp
  have zm : w.heap.size < W.heap.size := by omega
  clear hW
  obtain ⟨m0, m1, m2, m3, m4, m5⟩ := km.six
  go_wp2
  clear m0 m1 m2 m3 m4 m5
  go_loopw [10] (fun i wr => Ext W wr ∧ ∃ k : Nat, k ≤ g.L.length ∧ i = .int .i64 k ∧ Hid (anyN (lwF g h) k = false)) (fun i _ => g.L.length - (intOf i).toNat)
  case atStart => exact ⟨Ext.rfl' _, 0, Nat.zero_le _, rfl, rfl⟩
  case round =>
    obtain ⟨hr, k, hk, rfl, hF⟩ := hrel
    have hE := hEW.tr hr
    by_cases hlt : k < g.L.length
    · have hlh : k < h.L.length := by rw [HLN.out]; exact hlt
      have hki : (k : Int) < (h.L.length : Int) := by omega
      obtain ⟨bA, oA, rfl, hbA, hcA⟩ := HRA.out.p1 hlt
      obtain ⟨bB, oB, rfl, hbB, hcB⟩ := HRB.out.p1 hlh
      have xa := hcA _ hE
      have xb := hcB _ hE
      rw [← gi_lt] at xa xb
      have zA := hE.sz _ hbA
      have zB := hE.sz _ hbB
      have ym := hr.sz _ zm
      have yn := hr.sz _ zn
      obtain ⟨m0, m1, m2, m3, m4, m5⟩ := (km.ext hr zm).six
      obtain ⟨n0, n1, n2, n3, n4, n5⟩ := (kn.ext hr zn).six
      have HK1 := Lib.hid (fun w' (hw : Ext wr w') => HKG.out k hlt w' (hE.tr hw))
      have HK2 := Lib.hid (fun w' (hw : Ext wr w') => HKH.out k hlh w' (hE.tr hw))
      have HX : Hid (lwF g h k = ((knB g.L k != knB h.L k) || decide (gi g.L k < gi h.L k))) := rfl
      clear hcA hcB
      generalize gi g.L k = x at *
      generalize gi h.L k = y at *
      cases h1 : knB g.L k
      · cases h2 : knB h.L k
        · rw [h1] at HK1 HX
          rw [h2] at HK2 HX
          clear h1 h2
          by_cases hd : x < y
          · rw [decide_eq_true hd] at HX
            have HT : Hid ((!N) = false) := Lib.hid (by rw [← HN.out, anyN_at _ hlt (by rw [HX.out]; rfl)]; rfl)
            go_upto_region 4 with fail
            refine region_grow (by kernel_rfl) (by kernel_rfl) ?_
            repeat (first | go_big_quiet_step (first | (go_at_call 44; with_reducible exact callsGrow (HK1.out _ (Grow.ok _))) | (go_at_call 44; with_reducible exact callsGrow (HK2.out _ (Grow.ok _))) | fail) | quiet_step (first | (go_at_call 44; with_reducible exact callsGrow (HK1.out _ (Grow.ok _))) | (go_at_call 44; with_reducible exact callsGrow (HK2.out _ (Grow.ok _))) | fail))
            refine wpQuiet_nil ?_
            intro w1 hb
            have hc := hb.ccell
            have hf := hb.frz
            have hs := hb.sz
            (try simp at hs); (try have hs0 := hs w.heap.size (by omega)); (try have hs1 := hs (w.heap.size + 1) (by omega)); (try have hs2 := hs (w.heap.size + 1 + 1) (by omega)); (try have hs3 := hs (w.heap.size + 1 + 1 + 1) (by omega))
            (try simp only [IntWalk.i64_left])
            go_wp2
            go_ret
            exact ⟨ret_bool HT.out.symm, by (repeat (first | with_reducible exact Ext.rfl' _ | with_reducible assumption | with_reducible refine Ext.al ?_ _ | with_reducible refine Ext.dr ?_ | with_reducible refine Ext.st ?_ (by simp) _ | with_reducible refine Ext.tr ?_ (by assumption)))⟩
          · rw [decide_eq_false hd] at HX
            have HS : Hid (anyN (lwF g h) (k + 1) = false) := Lib.hid (by show anyN _ (k + 1) = false; rw [anyN, hF.out, HX.out]; rfl)
            go_upto_region 4 with fail
            refine region_grow (by kernel_rfl) (by kernel_rfl) ?_
            repeat (first | go_big_quiet_step (first | (go_at_call 44; with_reducible exact callsGrow (HK1.out _ (Grow.ok _))) | (go_at_call 44; with_reducible exact callsGrow (HK2.out _ (Grow.ok _))) | fail) | quiet_step (first | (go_at_call 44; with_reducible exact callsGrow (HK1.out _ (Grow.ok _))) | (go_at_call 44; with_reducible exact callsGrow (HK2.out _ (Grow.ok _))) | fail))
            refine wpQuiet_nil ?_
            intro w1 hb
            have hc := hb.ccell
            have hf := hb.frz
            have hs := hb.sz
            (try simp at hs); (try have hs0 := hs w.heap.size (by omega)); (try have hs1 := hs (w.heap.size + 1) (by omega)); (try have hs2 := hs (w.heap.size + 1 + 1) (by omega)); (try have hs3 := hs (w.heap.size + 1 + 1 + 1) (by omega))
            (try simp only [IntWalk.i64_left])
            go_wp2
            exact ⟨⟨by (repeat (first | with_reducible exact Ext.rfl' _ | with_reducible assumption | with_reducible refine Ext.al ?_ _ | with_reducible refine Ext.dr ?_ | with_reducible refine Ext.st ?_ (by simp) _ | with_reducible refine Ext.tr ?_ (by assumption))), k + 1, by omega, by go_num, HS⟩, by simp [intOf]; omega⟩
        · rw [h1] at HK1 HX
          rw [h2] at HK2 HX
          clear h1 h2
          have HT : Hid ((!N) = false) := Lib.hid (by rw [← HN.out, anyN_at _ hlt (by rw [HX.out]; rfl)]; rfl)
          go_upto_region 4 with fail
          refine region_grow (by kernel_rfl) (by kernel_rfl) ?_
          repeat (first | go_big_quiet_step (first | (go_at_call 44; with_reducible exact callsGrow (HK1.out _ (Grow.ok _))) | (go_at_call 44; with_reducible exact callsGrow (HK2.out _ (Grow.ok _))) | fail) | quiet_step (first | (go_at_call 44; with_reducible exact callsGrow (HK1.out _ (Grow.ok _))) | (go_at_call 44; with_reducible exact callsGrow (HK2.out _ (Grow.ok _))) | fail))
          refine wpQuiet_nil ?_
          intro w1 hb
          have hc := hb.ccell
          have hf := hb.frz
          have hs := hb.sz
          (try simp at hs); (try have hs0 := hs w.heap.size (by omega)); (try have hs1 := hs (w.heap.size + 1) (by omega)); (try have hs2 := hs (w.heap.size + 1 + 1) (by omega)); (try have hs3 := hs (w.heap.size + 1 + 1 + 1) (by omega))
          (try simp only [IntWalk.i64_left])
          go_wp2
          go_ret
          exact ⟨ret_bool HT.out.symm, by (repeat (first | with_reducible exact Ext.rfl' _ | with_reducible assumption | with_reducible refine Ext.al ?_ _ | with_reducible refine Ext.dr ?_ | with_reducible refine Ext.st ?_ (by simp) _ | with_reducible refine Ext.tr ?_ (by assumption)))⟩
      · cases h2 : knB h.L k
        · rw [h1] at HK1 HX
          rw [h2] at HK2 HX
          clear h1 h2
          have HT : Hid ((!N) = false) := Lib.hid (by rw [← HN.out, anyN_at _ hlt (by rw [HX.out]; rfl)]; rfl)
          go_upto_region 4 with fail
          refine region_grow (by kernel_rfl) (by kernel_rfl) ?_
          repeat (first | go_big_quiet_step (first | (go_at_call 44; with_reducible exact callsGrow (HK1.out _ (Grow.ok _))) | (go_at_call 44; with_reducible exact callsGrow (HK2.out _ (Grow.ok _))) | fail) | quiet_step (first | (go_at_call 44; with_reducible exact callsGrow (HK1.out _ (Grow.ok _))) | (go_at_call 44; with_reducible exact callsGrow (HK2.out _ (Grow.ok _))) | fail))
          refine wpQuiet_nil ?_
          intro w1 hb
          have hc := hb.ccell
          have hf := hb.frz
          have hs := hb.sz
          (try simp at hs); (try have hs0 := hs w.heap.size (by omega)); (try have hs1 := hs (w.heap.size + 1) (by omega)); (try have hs2 := hs (w.heap.size + 1 + 1) (by omega)); (try have hs3 := hs (w.heap.size + 1 + 1 + 1) (by omega))
          (try simp only [IntWalk.i64_left])
          go_wp2
          go_ret
          exact ⟨ret_bool HT.out.symm, by (repeat (first | with_reducible exact Ext.rfl' _ | with_reducible assumption | with_reducible refine Ext.al ?_ _ | with_reducible refine Ext.dr ?_ | with_reducible refine Ext.st ?_ (by simp) _ | with_reducible refine Ext.tr ?_ (by assumption)))⟩
        · rw [h1] at HK1 HX
          rw [h2] at HK2 HX
          clear h1 h2
          by_cases hd : x < y
          · rw [decide_eq_true hd] at HX
            have HT : Hid ((!N) = false) := Lib.hid (by rw [← HN.out, anyN_at _ hlt (by rw [HX.out]; rfl)]; rfl)
            go_upto_region 4 with fail
            refine region_grow (by kernel_rfl) (by kernel_rfl) ?_
            repeat (first | go_big_quiet_step (first | (go_at_call 44; with_reducible exact callsGrow (HK1.out _ (Grow.ok _))) | (go_at_call 44; with_reducible exact callsGrow (HK2.out _ (Grow.ok _))) | fail) | quiet_step (first | (go_at_call 44; with_reducible exact callsGrow (HK1.out _ (Grow.ok _))) | (go_at_call 44; with_reducible exact callsGrow (HK2.out _ (Grow.ok _))) | fail))
            refine wpQuiet_nil ?_
            intro w1 hb
            have hc := hb.ccell
            have hf := hb.frz
            have hs := hb.sz
            (try simp at hs); (try have hs0 := hs w.heap.size (by omega)); (try have hs1 := hs (w.heap.size + 1) (by omega)); (try have hs2 := hs (w.heap.size + 1 + 1) (by omega)); (try have hs3 := hs (w.heap.size + 1 + 1 + 1) (by omega))
            (try simp only [IntWalk.i64_left])
            go_wp2
            go_ret
            exact ⟨ret_bool HT.out.symm, by (repeat (first | with_reducible exact Ext.rfl' _ | with_reducible assumption | with_reducible refine Ext.al ?_ _ | with_reducible refine Ext.dr ?_ | with_reducible refine Ext.st ?_ (by simp) _ | with_reducible refine Ext.tr ?_ (by assumption)))⟩
          · rw [decide_eq_false hd] at HX
            have HS : Hid (anyN (lwF g h) (k + 1) = false) := Lib.hid (by show anyN _ (k + 1) = false; rw [anyN, hF.out, HX.out]; rfl)
            go_upto_region 4 with fail
            refine region_grow (by kernel_rfl) (by kernel_rfl) ?_
            repeat (first | go_big_quiet_step (first | (go_at_call 44; with_reducible exact callsGrow (HK1.out _ (Grow.ok _))) | (go_at_call 44; with_reducible exact callsGrow (HK2.out _ (Grow.ok _))) | fail) | quiet_step (first | (go_at_call 44; with_reducible exact callsGrow (HK1.out _ (Grow.ok _))) | (go_at_call 44; with_reducible exact callsGrow (HK2.out _ (Grow.ok _))) | fail))
            refine wpQuiet_nil ?_
            intro w1 hb
            have hc := hb.ccell
            have hf := hb.frz
            have hs := hb.sz
            (try simp at hs); (try have hs0 := hs w.heap.size (by omega)); (try have hs1 := hs (w.heap.size + 1) (by omega)); (try have hs2 := hs (w.heap.size + 1 + 1) (by omega)); (try have hs3 := hs (w.heap.size + 1 + 1 + 1) (by omega))
            (try simp only [IntWalk.i64_left])
            go_wp2
            exact ⟨⟨by (repeat (first | with_reducible exact Ext.rfl' _ | with_reducible assumption | with_reducible refine Ext.al ?_ _ | with_reducible refine Ext.dr ?_ | with_reducible refine Ext.st ?_ (by simp) _ | with_reducible refine Ext.tr ?_ (by assumption))), k + 1, by omega, by go_num, HS⟩, by simp [intOf]; omega⟩
    · have hks : k = g.L.length := by omega
      subst hks
      have HT : Hid ((!N) = true) := Lib.hid (by rw [← HN.out, hF.out]; rfl)
      go_wp2
      go_ret
      exact ⟨ret_bool HT.out.symm, hE⟩
end Go.Proofs.YtdbabihjnhnnfaaGreat

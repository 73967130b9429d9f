/- Levels in triangles and volumes of prisms are as specified: the law returns true for every input. Conditions: none. -/
import Derived.Test.YtcdbekmcobghbaaRefLevel
import Derived.Test.YtcdbekmcobghbaaRefNodes
namespace Go.Proofs.Ytcdbekmcobghbaa
open Go Go.RowKit Go.IntWalk

theorem nodesE_val (ns : List I3) (t : I3) : nodesE ns t = 0 ∨ nodesE ns t = 8 ∨ nodesE ns t = 2 ∨ nodesE ns t = 6 ∨ nodesE ns t = 10 := by
  unfold nodesE
  repeat (first | split | simp)

set_option maxHeartbeats 4000000 in
theorem levels_walk (ns : List I3) (a b c px py lv : Int) (w : World) (A : Option Addr) (cA : Nat) (hl : ns.length ≤ maxLen) (hA : Row 3 encI w A ns) :
    Calls Try.prog 15 #[.agg #[.slice A ns.length cA, .int .i64 a, .int .i64 b, .int .i64 c, .int .i64 px, .int .i64 py, .int .i64 lv]] w
      fun e w' => e = .returned (.bool true) ∧ Ext w w' := by
  have HN := Lib.hid (fun w' (hw : Ext w w') => rnodes_c ns a b c w' A cA hl (hA.ext hw))
  by_cases h1 : 70 < ns.length
  · have h1' : (70 : Int) < (ns.length : Int) := by omega
    clear hl
    go_enter Try.func15, Try.ntmps15
    go_wp2_with (first | (go_at_call 19; refine Calls.mono (awake_c _) ?_; rintro e w1 ⟨rfl, hb⟩; have hc := hb.ccell; have hf := hb.frz; have hs := hb.sz; (try simp at hs); (try have hs0 := hs w.heap.size (by omega)); (try have hs1 := hs (w.heap.size + 1) (by omega)); (try have hs2 := hs (w.heap.size + 1 + 1) (by omega)); (try have hs3 := hs (w.heap.size + 1 + 1 + 1) (by omega))))
    go_ret
    exact ⟨rfl, by (repeat (first | with_reducible exact Ext.rfl' _ | with_reducible assumption | with_reducible refine Ext.al ?_ _ | with_reducible refine Ext.dr ?_ | with_reducible refine Ext.st ?_ (by simp) _ | with_reducible refine Ext.tr ?_ (by assumption)))⟩
  have h1' : (ns.length : Int) ≤ 70 := by omega
  have hv := nodesE_val ns (a, b, c)
  by_cases h0 : nodesE ns (a, b, c) = 0
  · clear hv
    obtain ⟨i0, i1, i2, x0, y0, L0, x1, y1, L1, x2, y2, L2, T⟩ := three_of h0
    rw [h0] at HN
    cases hg : good ⟨px, py⟩
    · have HL := Lib.hid (fun w' (hw : Ext w w') => glevel_far ns a b c px py w' A cA (hA.ext hw) h0 hg)
      have HG := Lib.hid (rgood_is _ _ _ hg)
      cases hlv : withinB lv (-20000) 20000
      · have HP := Lib.hid (fun w' (hw : Ext w w') => gprism_far ns a b c lv w' A cA (hA.ext hw) h0 hlv)
        have HW := Lib.hid (within3_is _ _ _ _ hlv)
        clear hg hlv h0 hl
        go_enter Try.func15, Try.ntmps15
        go_wp2_with (first | (go_at_call 19; refine Calls.mono (awake_c _) ?_; rintro e w1 ⟨rfl, hb⟩; have hc := hb.ccell; have hf := hb.frz; have hs := hb.sz; (try simp at hs); (try have hs0 := hs w.heap.size (by omega)); (try have hs1 := hs (w.heap.size + 1) (by omega)); (try have hs2 := hs (w.heap.size + 1 + 1) (by omega)); (try have hs3 := hs (w.heap.size + 1 + 1 + 1) (by omega))) | (go_at_call 63; with_reducible refine Calls.mono (HL.out _ (by (repeat (first | with_reducible exact Ext.rfl' _ | with_reducible assumption | with_reducible refine Ext.al ?_ _ | with_reducible refine Ext.dr ?_ | with_reducible refine Ext.st ?_ (by simp) _ | with_reducible refine Ext.tr ?_ (by assumption))))) ?_; rintro e wL ⟨rfl, hb⟩; have hc := hb.ccell; have hf := hb.frz; have hs := hb.sz; (try simp at hs); (try have hs0 := hs w.heap.size (by omega))) | (go_at_call 64; with_reducible refine Calls.mono (HP.out _ (by (repeat (first | with_reducible exact Ext.rfl' _ | with_reducible assumption | with_reducible refine Ext.al ?_ _ | with_reducible refine Ext.dr ?_ | with_reducible refine Ext.st ?_ (by simp) _ | with_reducible refine Ext.tr ?_ (by assumption))))) ?_; rintro e wP ⟨rfl, hb⟩; have hc := hb.ccell; have hf := hb.frz; have hs := hb.sz; (try simp at hs); (try have hs0 := hs w.heap.size (by omega)); (try have tP := hs wL.heap.size (by omega))) | (go_at_call 65; with_reducible refine Calls.mono (HN.out _ (by (repeat (first | with_reducible exact Ext.rfl' _ | with_reducible assumption | with_reducible refine Ext.al ?_ _ | with_reducible refine Ext.dr ?_ | with_reducible refine Ext.st ?_ (by simp) _ | with_reducible refine Ext.tr ?_ (by assumption))))) ?_; rintro e w1 ⟨rfl, hb⟩; have hc := hb.ccell; have hf := hb.frz; have hs := hb.sz; (try have hs0 := hs w.heap.size (by omega)); (try have tN := hs wL.heap.size (by omega))) | (go_at_call 24; with_reducible refine Calls.mono (HG.out _) ?_; rintro e w1 ⟨rfl, hb⟩; have hc := hb.ccell; have hf := hb.frz; have hs := hb.sz; (try have hs0 := hs w.heap.size (by omega)); (try have tG := hs wL.heap.size (by omega))) | (go_at_call 66; refine Calls.mono (HW.out _) ?_; rintro e w' ⟨rfl, rfl⟩))
        refine region_grow (by kernel_rfl) (by kernel_rfl) ?_
        repeat (first | go_big_quiet_step (first  | fail) | quiet_step (first  | fail))
        refine wpQuiet_nil ?_
        intro w1 hb
        have hc := hb.ccell
        have hf := hb.frz
        have hs := hb.sz
        (try simp at hs); (try have hs0 := hs w.heap.size (by omega)); (try have hs1 := hs (w.heap.size + 1) (by omega)); (try have hs2 := hs (w.heap.size + 1 + 1) (by omega)); (try have hs3 := hs (w.heap.size + 1 + 1 + 1) (by omega))
        (try simp only [IntWalk.i64_left])
        go_wp2
        go_ret
        exact ⟨ret_bool rfl, by (repeat (first | with_reducible exact Ext.rfl' _ | with_reducible assumption | with_reducible refine Ext.al ?_ _ | with_reducible refine Ext.dr ?_ | with_reducible refine Ext.st ?_ (by simp) _ | with_reducible refine Ext.tr ?_ (by assumption)))⟩
      · have hlv' : -20000 ≤ lv ∧ lv ≤ 20000 := by simpa [withinB] using hlv
        have HP := Lib.hid (fun w' (hw : Ext w w') => gprism_yes T h0 lv hlv' w' A cA (hA.ext hw))
        have HR := Lib.hid (fun w' (hw : Ext w w') => rprism_c T lv hlv' w' A cA (hA.ext hw))
        have HW := Lib.hid (within3_is _ _ _ _ hlv)
        generalize prismV x0 y0 L0 x1 y1 L1 x2 y2 L2 lv = pv at *
        clear hg hlv hlv' h0 hl T
        go_enter Try.func15, Try.ntmps15
        go_wp2_with (first | (go_at_call 19; refine Calls.mono (awake_c _) ?_; rintro e w1 ⟨rfl, hb⟩; have hc := hb.ccell; have hf := hb.frz; have hs := hb.sz; (try simp at hs); (try have hs0 := hs w.heap.size (by omega)); (try have hs1 := hs (w.heap.size + 1) (by omega)); (try have hs2 := hs (w.heap.size + 1 + 1) (by omega)); (try have hs3 := hs (w.heap.size + 1 + 1 + 1) (by omega))) | (go_at_call 63; with_reducible refine Calls.mono (HL.out _ (by (repeat (first | with_reducible exact Ext.rfl' _ | with_reducible assumption | with_reducible refine Ext.al ?_ _ | with_reducible refine Ext.dr ?_ | with_reducible refine Ext.st ?_ (by simp) _ | with_reducible refine Ext.tr ?_ (by assumption))))) ?_; rintro e wL ⟨rfl, hb⟩; have hc := hb.ccell; have hf := hb.frz; have hs := hb.sz; (try simp at hs); (try have hs0 := hs w.heap.size (by omega))) | (go_at_call 64; with_reducible refine Calls.mono (HP.out _ (by (repeat (first | with_reducible exact Ext.rfl' _ | with_reducible assumption | with_reducible refine Ext.al ?_ _ | with_reducible refine Ext.dr ?_ | with_reducible refine Ext.st ?_ (by simp) _ | with_reducible refine Ext.tr ?_ (by assumption))))) ?_; rintro e wP ⟨rfl, hb⟩; have hc := hb.ccell; have hf := hb.frz; have hs := hb.sz; (try simp at hs); (try have hs0 := hs w.heap.size (by omega)); (try have tP := hs wL.heap.size (by omega))) | (go_at_call 65; with_reducible refine Calls.mono (HN.out _ (by (repeat (first | with_reducible exact Ext.rfl' _ | with_reducible assumption | with_reducible refine Ext.al ?_ _ | with_reducible refine Ext.dr ?_ | with_reducible refine Ext.st ?_ (by simp) _ | with_reducible refine Ext.tr ?_ (by assumption))))) ?_; rintro e w1 ⟨rfl, hb⟩; have hc := hb.ccell; have hf := hb.frz; have hs := hb.sz; (try have hs0 := hs w.heap.size (by omega)); (try have tN := hs wL.heap.size (by omega))) | (go_at_call 24; with_reducible refine Calls.mono (HG.out _) ?_; rintro e w1 ⟨rfl, hb⟩; have hc := hb.ccell; have hf := hb.frz; have hs := hb.sz; (try have hs0 := hs w.heap.size (by omega)); (try have tG := hs wL.heap.size (by omega))) | (go_at_call 66; refine Calls.mono (HW.out _) ?_; rintro e w' ⟨rfl, rfl⟩))
        have hEq : Ext w w1 := by (repeat (first | with_reducible exact Ext.rfl' _ | with_reducible assumption | with_reducible refine Ext.al ?_ _ | with_reducible refine Ext.dr ?_ | with_reducible refine Ext.st ?_ (by simp) _ | with_reducible refine Ext.tr ?_ (by assumption)))
        refine region_grow (by kernel_rfl) (by kernel_rfl) ?_
        repeat (first | go_big_quiet_step (first | (go_at_call 68; with_reducible exact callsGrow (HR.out _ (hEq.tr (Grow.ok _)))) | fail) | quiet_step (first | (go_at_call 68; with_reducible exact callsGrow (HR.out _ (hEq.tr (Grow.ok _)))) | fail))
        refine wpQuiet_nil ?_
        intro w1 hb
        have hc := hb.ccell
        have hf := hb.frz
        have hs := hb.sz
        (try simp at hs); (try have hs0 := hs w.heap.size (by omega)); (try have hs1 := hs (w.heap.size + 1) (by omega)); (try have hs2 := hs (w.heap.size + 1 + 1) (by omega)); (try have hs3 := hs (w.heap.size + 1 + 1 + 1) (by omega))
        (try simp only [IntWalk.i64_left])
        go_wp2
        go_ret
        exact ⟨ret_bool (by simp), by (repeat (first | with_reducible exact Ext.rfl' _ | with_reducible assumption | with_reducible refine Ext.al ?_ _ | with_reducible refine Ext.dr ?_ | with_reducible refine Ext.st ?_ (by simp) _ | with_reducible refine Ext.tr ?_ (by assumption)))⟩
    · have HL := Lib.hid (fun w' (hw : Ext w w') => glevel_yes T h0 px py hg w' A cA (hA.ext hw))
      have HRL := Lib.hid (fun w' (hw : Ext w w') => rlevel_c T px py hg w' A cA (hA.ext hw))
      have HG := Lib.hid (rgood_is _ _ _ hg)
      generalize lowN (levS x0 y0 L0 x1 y1 L1 x2 y2 L2 px py) (crossZ ⟨x0, y0⟩ ⟨x1, y1⟩ ⟨x2, y2⟩) = q1 at HL HRL
      generalize lowD (levS x0 y0 L0 x1 y1 L1 x2 y2 L2 px py) (crossZ ⟨x0, y0⟩ ⟨x1, y1⟩ ⟨x2, y2⟩) = q2 at HL HRL
      cases hlv : withinB lv (-20000) 20000
      · have HP := Lib.hid (fun w' (hw : Ext w w') => gprism_far ns a b c lv w' A cA (hA.ext hw) h0 hlv)
        have HW := Lib.hid (within3_is _ _ _ _ hlv)
        clear hg hlv h0 hl T
        go_enter Try.func15, Try.ntmps15
        go_wp2_with (first | (go_at_call 19; refine Calls.mono (awake_c _) ?_; rintro e w1 ⟨rfl, hb⟩; have hc := hb.ccell; have hf := hb.frz; have hs := hb.sz; (try simp at hs); (try have hs0 := hs w.heap.size (by omega)); (try have hs1 := hs (w.heap.size + 1) (by omega)); (try have hs2 := hs (w.heap.size + 1 + 1) (by omega)); (try have hs3 := hs (w.heap.size + 1 + 1 + 1) (by omega))) | (go_at_call 63; with_reducible refine Calls.mono (HL.out _ (by (repeat (first | with_reducible exact Ext.rfl' _ | with_reducible assumption | with_reducible refine Ext.al ?_ _ | with_reducible refine Ext.dr ?_ | with_reducible refine Ext.st ?_ (by simp) _ | with_reducible refine Ext.tr ?_ (by assumption))))) ?_; rintro e wL ⟨rfl, hb⟩; have hc := hb.ccell; have hf := hb.frz; have hs := hb.sz; (try simp at hs); (try have hs0 := hs w.heap.size (by omega))) | (go_at_call 64; with_reducible refine Calls.mono (HP.out _ (by (repeat (first | with_reducible exact Ext.rfl' _ | with_reducible assumption | with_reducible refine Ext.al ?_ _ | with_reducible refine Ext.dr ?_ | with_reducible refine Ext.st ?_ (by simp) _ | with_reducible refine Ext.tr ?_ (by assumption))))) ?_; rintro e wP ⟨rfl, hb⟩; have hc := hb.ccell; have hf := hb.frz; have hs := hb.sz; (try simp at hs); (try have hs0 := hs w.heap.size (by omega)); (try have tP := hs wL.heap.size (by omega))) | (go_at_call 65; with_reducible refine Calls.mono (HN.out _ (by (repeat (first | with_reducible exact Ext.rfl' _ | with_reducible assumption | with_reducible refine Ext.al ?_ _ | with_reducible refine Ext.dr ?_ | with_reducible refine Ext.st ?_ (by simp) _ | with_reducible refine Ext.tr ?_ (by assumption))))) ?_; rintro e w1 ⟨rfl, hb⟩; have hc := hb.ccell; have hf := hb.frz; have hs := hb.sz; (try have hs0 := hs w.heap.size (by omega)); (try have tN := hs wL.heap.size (by omega))) | (go_at_call 24; with_reducible refine Calls.mono (HG.out _) ?_; rintro e w1 ⟨rfl, hb⟩; have hc := hb.ccell; have hf := hb.frz; have hs := hb.sz; (try have hs0 := hs w.heap.size (by omega)); (try have tG := hs wL.heap.size (by omega))) | (go_at_call 66; refine Calls.mono (HW.out _) ?_; rintro e w' ⟨rfl, rfl⟩))
        have hEq : Ext w w1 := by (repeat (first | with_reducible exact Ext.rfl' _ | with_reducible assumption | with_reducible refine Ext.al ?_ _ | with_reducible refine Ext.dr ?_ | with_reducible refine Ext.st ?_ (by simp) _ | with_reducible refine Ext.tr ?_ (by assumption)))
        refine region_grow (by kernel_rfl) (by kernel_rfl) ?_
        repeat (first | go_big_quiet_step (first | (go_at_call 67; with_reducible exact callsGrow (HRL.out _ (hEq.tr (Grow.ok _)))) | fail) | quiet_step (first | (go_at_call 67; with_reducible exact callsGrow (HRL.out _ (hEq.tr (Grow.ok _)))) | fail))
        refine wpQuiet_nil ?_
        intro w1 hb
        have hc := hb.ccell
        have hf := hb.frz
        have hs := hb.sz
        (try simp at hs); (try have hs0 := hs w.heap.size (by omega)); (try have hs1 := hs (w.heap.size + 1) (by omega)); (try have hs2 := hs (w.heap.size + 1 + 1) (by omega)); (try have hs3 := hs (w.heap.size + 1 + 1 + 1) (by omega))
        (try simp only [IntWalk.i64_left])
        go_wp2
        go_ret
        exact ⟨ret_bool (by simp), by (repeat (first | with_reducible exact Ext.rfl' _ | with_reducible assumption | with_reducible refine Ext.al ?_ _ | with_reducible refine Ext.dr ?_ | with_reducible refine Ext.st ?_ (by simp) _ | with_reducible refine Ext.tr ?_ (by assumption)))⟩
      · have hlv' : -20000 ≤ lv ∧ lv ≤ 20000 := by simpa [withinB] using hlv
        have HP := Lib.hid (fun w' (hw : Ext w w') => gprism_yes T h0 lv hlv' w' A cA (hA.ext hw))
        have HR := Lib.hid (fun w' (hw : Ext w w') => rprism_c T lv hlv' w' A cA (hA.ext hw))
        have HW := Lib.hid (within3_is _ _ _ _ hlv)
        generalize prismV x0 y0 L0 x1 y1 L1 x2 y2 L2 lv = pv at *
        clear hg hlv hlv' h0 hl T
        go_enter Try.func15, Try.ntmps15
        go_wp2_with (first | (go_at_call 19; refine Calls.mono (awake_c _) ?_; rintro e w1 ⟨rfl, hb⟩; have hc := hb.ccell; have hf := hb.frz; have hs := hb.sz; (try simp at hs); (try have hs0 := hs w.heap.size (by omega)); (try have hs1 := hs (w.heap.size + 1) (by omega)); (try have hs2 := hs (w.heap.size + 1 + 1) (by omega)); (try have hs3 := hs (w.heap.size + 1 + 1 + 1) (by omega))) | (go_at_call 63; with_reducible refine Calls.mono (HL.out _ (by (repeat (first | with_reducible exact Ext.rfl' _ | with_reducible assumption | with_reducible refine Ext.al ?_ _ | with_reducible refine Ext.dr ?_ | with_reducible refine Ext.st ?_ (by simp) _ | with_reducible refine Ext.tr ?_ (by assumption))))) ?_; rintro e wL ⟨rfl, hb⟩; have hc := hb.ccell; have hf := hb.frz; have hs := hb.sz; (try simp at hs); (try have hs0 := hs w.heap.size (by omega))) | (go_at_call 64; with_reducible refine Calls.mono (HP.out _ (by (repeat (first | with_reducible exact Ext.rfl' _ | with_reducible assumption | with_reducible refine Ext.al ?_ _ | with_reducible refine Ext.dr ?_ | with_reducible refine Ext.st ?_ (by simp) _ | with_reducible refine Ext.tr ?_ (by assumption))))) ?_; rintro e wP ⟨rfl, hb⟩; have hc := hb.ccell; have hf := hb.frz; have hs := hb.sz; (try simp at hs); (try have hs0 := hs w.heap.size (by omega)); (try have tP := hs wL.heap.size (by omega))) | (go_at_call 65; with_reducible refine Calls.mono (HN.out _ (by (repeat (first | with_reducible exact Ext.rfl' _ | with_reducible assumption | with_reducible refine Ext.al ?_ _ | with_reducible refine Ext.dr ?_ | with_reducible refine Ext.st ?_ (by simp) _ | with_reducible refine Ext.tr ?_ (by assumption))))) ?_; rintro e w1 ⟨rfl, hb⟩; have hc := hb.ccell; have hf := hb.frz; have hs := hb.sz; (try have hs0 := hs w.heap.size (by omega)); (try have tN := hs wL.heap.size (by omega))) | (go_at_call 24; with_reducible refine Calls.mono (HG.out _) ?_; rintro e w1 ⟨rfl, hb⟩; have hc := hb.ccell; have hf := hb.frz; have hs := hb.sz; (try have hs0 := hs w.heap.size (by omega)); (try have tG := hs wL.heap.size (by omega))) | (go_at_call 66; refine Calls.mono (HW.out _) ?_; rintro e w' ⟨rfl, rfl⟩))
        have hEq : Ext w w1 := by (repeat (first | with_reducible exact Ext.rfl' _ | with_reducible assumption | with_reducible refine Ext.al ?_ _ | with_reducible refine Ext.dr ?_ | with_reducible refine Ext.st ?_ (by simp) _ | with_reducible refine Ext.tr ?_ (by assumption)))
        refine region_grow (by kernel_rfl) (by kernel_rfl) ?_
        repeat (first | go_big_quiet_step (first | (go_at_call 67; with_reducible exact callsGrow (HRL.out _ (hEq.tr (Grow.ok _)))) | (go_at_call 68; with_reducible exact callsGrow (HR.out _ (hEq.tr (Grow.ok _)))) | fail) | quiet_step (first | (go_at_call 67; with_reducible exact callsGrow (HRL.out _ (hEq.tr (Grow.ok _)))) | (go_at_call 68; with_reducible exact callsGrow (HR.out _ (hEq.tr (Grow.ok _)))) | fail))
        refine wpQuiet_nil ?_
        intro w1 hb
        have hc := hb.ccell
        have hf := hb.frz
        have hs := hb.sz
        (try simp at hs); (try have hs0 := hs w.heap.size (by omega)); (try have hs1 := hs (w.heap.size + 1) (by omega)); (try have hs2 := hs (w.heap.size + 1 + 1) (by omega)); (try have hs3 := hs (w.heap.size + 1 + 1 + 1) (by omega))
        (try simp only [IntWalk.i64_left])
        go_wp2
        go_ret
        exact ⟨ret_bool (by simp), by (repeat (first | with_reducible exact Ext.rfl' _ | with_reducible assumption | with_reducible refine Ext.al ?_ _ | with_reducible refine Ext.dr ?_ | with_reducible refine Ext.st ?_ (by simp) _ | with_reducible refine Ext.tr ?_ (by assumption)))⟩
  · obtain ⟨r, hr⟩ : ∃ r, nodesE ns (a, b, c) = r := ⟨_, rfl⟩
    have HL := Lib.hid (fun w' (hw : Ext w w') => glevel_no ns a b c px py r w' A cA hl (hA.ext hw) hr (by rw [← hr]; exact h0))
    have HP := Lib.hid (fun w' (hw : Ext w w') => gprism_no ns a b c lv r w' A cA hl (hA.ext hw) hr (by rw [← hr]; exact h0))
    rw [hr] at HN hv h0
    clear hr hl
    rcases hv with hv | hv | hv | hv | hv
    · exact absurd hv h0
    all_goals
      subst hv
      clear h0
      go_enter Try.func15, Try.ntmps15
      go_wp2_with (first | (go_at_call 19; refine Calls.mono (awake_c _) ?_; rintro e w1 ⟨rfl, hb⟩; have hc := hb.ccell; have hf := hb.frz; have hs := hb.sz; (try simp at hs); (try have hs0 := hs w.heap.size (by omega)); (try have hs1 := hs (w.heap.size + 1) (by omega)); (try have hs2 := hs (w.heap.size + 1 + 1) (by omega)); (try have hs3 := hs (w.heap.size + 1 + 1 + 1) (by omega))) | (go_at_call 63; with_reducible refine Calls.mono (HL.out _ (by (repeat (first | with_reducible exact Ext.rfl' _ | with_reducible assumption | with_reducible refine Ext.al ?_ _ | with_reducible refine Ext.dr ?_ | with_reducible refine Ext.st ?_ (by simp) _ | with_reducible refine Ext.tr ?_ (by assumption))))) ?_; rintro e wL ⟨rfl, hb⟩; have hc := hb.ccell; have hf := hb.frz; have hs := hb.sz; (try simp at hs); (try have hs0 := hs w.heap.size (by omega))) | (go_at_call 64; with_reducible refine Calls.mono (HP.out _ (by (repeat (first | with_reducible exact Ext.rfl' _ | with_reducible assumption | with_reducible refine Ext.al ?_ _ | with_reducible refine Ext.dr ?_ | with_reducible refine Ext.st ?_ (by simp) _ | with_reducible refine Ext.tr ?_ (by assumption))))) ?_; rintro e wP ⟨rfl, hb⟩; have hc := hb.ccell; have hf := hb.frz; have hs := hb.sz; (try simp at hs); (try have hs0 := hs w.heap.size (by omega)); (try have tP := hs wL.heap.size (by omega))) | (go_at_call 65; with_reducible refine Calls.mono (HN.out _ (by (repeat (first | with_reducible exact Ext.rfl' _ | with_reducible assumption | with_reducible refine Ext.al ?_ _ | with_reducible refine Ext.dr ?_ | with_reducible refine Ext.st ?_ (by simp) _ | with_reducible refine Ext.tr ?_ (by assumption))))) ?_; rintro e w1 ⟨rfl, hb⟩; have hc := hb.ccell; have hf := hb.frz; have hs := hb.sz; (try have hs0 := hs w.heap.size (by omega)); (try have tN := hs wL.heap.size (by omega))) | (go_at_call 24; with_reducible refine Calls.mono (HG.out _) ?_; rintro e w1 ⟨rfl, hb⟩; have hc := hb.ccell; have hf := hb.frz; have hs := hb.sz; (try have hs0 := hs w.heap.size (by omega)); (try have tG := hs wL.heap.size (by omega))) | (go_at_call 66; refine Calls.mono (HW.out _) ?_; rintro e w' ⟨rfl, rfl⟩))
      refine region_grow (by kernel_rfl) (by kernel_rfl) ?_
      repeat (first | go_big_quiet_step (first  | fail) | quiet_step (first  | fail))
      refine wpQuiet_nil ?_
      intro w1 hb
      have hc := hb.ccell
      have hf := hb.frz
      have hs := hb.sz
      (try simp at hs); (try have hs0 := hs w.heap.size (by omega)); (try have hs1 := hs (w.heap.size + 1) (by omega)); (try have hs2 := hs (w.heap.size + 1 + 1) (by omega)); (try have hs3 := hs (w.heap.size + 1 + 1 + 1) (by omega))
      (try simp only [IntWalk.i64_left])
      go_wp2
      go_ret
      exact ⟨ret_bool rfl, by (repeat (first | with_reducible exact Ext.rfl' _ | with_reducible assumption | with_reducible refine Ext.al ?_ _ | with_reducible refine Ext.dr ?_ | with_reducible refine Ext.st ?_ (by simp) _ | with_reducible refine Ext.tr ?_ (by assumption)))⟩
end Go.Proofs.Ytcdbekmcobghbaa

/- BedCompares: the law returns true for every input. Conditions: none. -/
import Derived.Test.YtgnakeemcccfjaaBawake
import Derived.Test.YtgnakeemcccfjaaBchs
namespace Go.Proofs.Ytgnakeemcccfjaa
open Go Go.RowKit Go.IntWalk

theorem three_newZ (w : World) (x y z : Value) (t : TypeId) : ∀ j u, [x, y, z][j]? = some u → (w.alloc (.cells #[x, y, z] t)).cell? ((⟨w.heap.size, 0, none⟩ : Addr).add j) = some u := by
  intro j u hu
  match j with
  | 0 => simpa [Addr.add, go_sem] using hu
  | 1 => simpa [Addr.add, go_sem] using hu
  | 2 => simpa [Addr.add, go_sem] using hu
  | j + 3 => simp at hu
theorem st_col (f : Nat → Int) {cn col : Nat} (hc : col < cn) (r : Nat) : sumN (fun i => if selB cn (col : Int) i = true then f i else 0) (cn * r) = sumN (fun j => f (col + j * cn)) r := by
  rw [← sumN_col f hc r]
  apply sumN_congr
  intro i _
  unfold selB
  rw [decide_eq_false (show ¬ (col : Int) < 0 by omega), Bool.false_or]
  by_cases h : i % cn = col
  · rw [if_pos h, if_pos (by rw [h]; simp)]
  · rw [if_neg h, if_neg (by rw [decide_eq_true_eq]; omega)]
theorem st_all (f : Nat → Int) (cn n : Nat) : sumN (fun i => if selB cn (-1) i = true then f i else 0) n = sumN f n := by
  apply sumN_congr
  intro i _
  rw [if_pos (by unfold selB; rfl)]
theorem mkC_succ (F : Nat → C3) (k : Nat) : (mkC F (k + 1)).flatMap encC = (mkC F k).flatMap encC ++ [.int .i64 (F k).x, .int .i64 (F k).y, .int .i64 (F k).z] := by
  unfold mkC
  rw [List.range_succ, List.map_append, List.flatMap_append]
  simp [encC]
set_option maxHeartbeats 8000000 in
set_option maxRecDepth 100000 in
theorem co_walk (g h : Gr) (w : World) (A B : Option Addr) (c d : Nat) (hl : g.L.length ≤ maxLen) (hm : h.L.length ≤ maxLen) (hA : Row 1 encZ w A g.L) (hB : Row 1 encZ w B h.L) :
    Calls Try.prog 7 #[.agg #[.int .i64 g.X, .int .i64 g.Y, .int .i64 g.S, .int .i64 g.C, .int .i64 g.R, .slice A g.L.length c], .agg #[.int .i64 h.X, .int .i64 h.Y, .int .i64 h.S, .int .i64 h.C, .int .i64 h.R, .slice B h.L.length d]] w fun e w' => e = .returned (.bool true) ∧ Ext w w' := by
  have HF := Lib.hid (fun w' (hw : Ext w w') => few_c g w' A c hl (hA.ext hw))
  have HG := Lib.hid (fun w' (hw : Ext w w') => few_c h w' B d hm (hB.ext hw))
  cases hf : fewB g
  · rw [hf] at HF
    clear hf
    go_enter Try.func7, Try.ntmps7
    go_wp2_with (first | (go_at_call 16; with_reducible refine Calls.mono (awake_c _) ?_; rintro e wa ⟨rfl, hb⟩; have hc := hb.ccell; have hf := hb.frz; have hs := hb.sz; (try simp at hs); (try have t0 := hs (w.heap.size) (by first | assumption | omega)); (try have t1 := hs (w.heap.size + 1) (by first | assumption | omega)); (try have t2 := hs (wc.heap.size) (by first | assumption | omega)); (try have t3 := hs (w.heap.size) (by first | assumption | omega)); (try have t4 := hs (w.heap.size) (by first | assumption | omega)); (try have t5 := hs (w.heap.size) (by first | assumption | omega))) | (go_at_call 17; with_reducible refine Calls.mono (HF.out _ (by (repeat (first | with_reducible exact Ext.rfl' _ | with_reducible assumption | with_reducible refine Ext.al ?_ _ | with_reducible refine Ext.dr ?_ | with_reducible refine Ext.st ?_ (by simp) _ | with_reducible refine Ext.tr ?_ (by assumption))))) ?_; rintro e wf ⟨rfl, hb⟩; have hc := hb.ccell; have hf := hb.frz; have hs := hb.sz; (try simp at hs); (try have t0 := hs (w.heap.size) (by first | assumption | omega)); (try have t1 := hs (w.heap.size + 1) (by first | assumption | omega)); (try have t2 := hs (wc.heap.size) (by first | assumption | omega)); (try have t3 := hs (w.heap.size) (by first | assumption | omega)); (try have t4 := hs (w.heap.size) (by first | assumption | omega)); (try have t5 := hs (w.heap.size) (by first | assumption | omega))))
    go_ret
    exact ⟨rfl, by (repeat (first | with_reducible exact Ext.rfl' _ | with_reducible assumption | with_reducible refine Ext.al ?_ _ | with_reducible refine Ext.dr ?_ | with_reducible refine Ext.st ?_ (by simp) _ | with_reducible refine Ext.tr ?_ (by assumption)))⟩
  rw [hf] at HF
  clear hf
  cases hf : fewB h
  · rw [hf] at HG
    clear hf
    go_enter Try.func7, Try.ntmps7
    go_wp2_with (first | (go_at_call 16; with_reducible refine Calls.mono (awake_c _) ?_; rintro e wa ⟨rfl, hb⟩; have hc := hb.ccell; have hf := hb.frz; have hs := hb.sz; (try simp at hs); (try have t0 := hs (w.heap.size) (by first | assumption | omega)); (try have t1 := hs (w.heap.size + 1) (by first | assumption | omega)); (try have t2 := hs (wc.heap.size) (by first | assumption | omega)); (try have t3 := hs (w.heap.size) (by first | assumption | omega)); (try have t4 := hs (w.heap.size) (by first | assumption | omega)); (try have t5 := hs (w.heap.size) (by first | assumption | omega))) | (go_at_call 17; with_reducible refine Calls.mono (HF.out _ (by (repeat (first | with_reducible exact Ext.rfl' _ | with_reducible assumption | with_reducible refine Ext.al ?_ _ | with_reducible refine Ext.dr ?_ | with_reducible refine Ext.st ?_ (by simp) _ | with_reducible refine Ext.tr ?_ (by assumption))))) ?_; rintro e wf ⟨rfl, hb⟩; have hc := hb.ccell; have hf := hb.frz; have hs := hb.sz; (try simp at hs); (try have t0 := hs (w.heap.size) (by first | assumption | omega)); (try have t1 := hs (w.heap.size + 1) (by first | assumption | omega)); (try have t2 := hs (wc.heap.size) (by first | assumption | omega)); (try have t3 := hs (w.heap.size) (by first | assumption | omega)); (try have t4 := hs (w.heap.size) (by first | assumption | omega)); (try have t5 := hs (w.heap.size) (by first | assumption | omega))) | (go_at_call 17; with_reducible refine Calls.mono (HG.out _ (by (repeat (first | with_reducible exact Ext.rfl' _ | with_reducible assumption | with_reducible refine Ext.al ?_ _ | with_reducible refine Ext.dr ?_ | with_reducible refine Ext.st ?_ (by simp) _ | with_reducible refine Ext.tr ?_ (by assumption))))) ?_; rintro e wg ⟨rfl, hb⟩; have hc := hb.ccell; have hf := hb.frz; have hs := hb.sz; (try simp at hs); (try have t0 := hs (w.heap.size) (by first | assumption | omega)); (try have t1 := hs (w.heap.size + 1) (by first | assumption | omega)); (try have t2 := hs (wc.heap.size) (by first | assumption | omega)); (try have t3 := hs (w.heap.size) (by first | assumption | omega)); (try have t4 := hs (w.heap.size) (by first | assumption | omega)); (try have t5 := hs (w.heap.size) (by first | assumption | omega))))
    go_ret
    exact ⟨rfl, by (repeat (first | with_reducible exact Ext.rfl' _ | with_reducible assumption | with_reducible refine Ext.al ?_ _ | with_reducible refine Ext.dr ?_ | with_reducible refine Ext.st ?_ (by simp) _ | with_reducible refine Ext.tr ?_ (by assumption)))⟩
  rw [hf] at HG
  clear hf
  have HBO := Lib.hid (fun w' (hw : Ext w w') => both_c g h w' A B c d hl hm (hA.ext hw) (hB.ext hw))
  have HCO := Lib.hid (fun w' (hw : Ext w w') => compare_c g h w' A B c d hl hm (hA.ext hw) (hB.ext hw))
  by_cases h0 : twoE g h = 0
  case neg =>
    have HST := Lib.hid (fun w' (hw : Ext w w') => strips_err_c g h w' A B c d hl hm (hA.ext hw) (hB.ext hw) h0)
    have hv : chV (twoE g h) g h = .agg #[.int .i64 0, .int .i64 0, .int .i64 0] := by unfold chV; rw [if_neg h0]
    rw [hv] at HCO
    have h0' : (twoE g h != 0) = true := by rw [bne_iff_ne]; exact h0
    have hch : chB 0 0 0 0 0 0 = true := by kernel_rfl
    clear h0 hv
    generalize twoE g h = X at *
    go_enter Try.func7, Try.ntmps7
    go_wp2_with (first | (go_at_call 16; with_reducible refine Calls.mono (awake_c _) ?_; rintro e wa ⟨rfl, hb⟩; have hc := hb.ccell; have hf := hb.frz; have hs := hb.sz; (try simp at hs); (try have t0 := hs (w.heap.size) (by first | assumption | omega)); (try have t1 := hs (w.heap.size + 1) (by first | assumption | omega)); (try have t2 := hs (wc.heap.size) (by first | assumption | omega)); (try have t3 := hs (w.heap.size) (by first | assumption | omega)); (try have t4 := hs (w.heap.size) (by first | assumption | omega)); (try have t5 := hs (w.heap.size) (by first | assumption | omega))) | (go_at_call 17; with_reducible refine Calls.mono (HF.out _ (by (repeat (first | with_reducible exact Ext.rfl' _ | with_reducible assumption | with_reducible refine Ext.al ?_ _ | with_reducible refine Ext.dr ?_ | with_reducible refine Ext.st ?_ (by simp) _ | with_reducible refine Ext.tr ?_ (by assumption))))) ?_; rintro e wf ⟨rfl, hb⟩; have hc := hb.ccell; have hf := hb.frz; have hs := hb.sz; (try simp at hs); (try have t0 := hs (w.heap.size) (by first | assumption | omega)); (try have t1 := hs (w.heap.size + 1) (by first | assumption | omega)); (try have t2 := hs (wc.heap.size) (by first | assumption | omega)); (try have t3 := hs (w.heap.size) (by first | assumption | omega)); (try have t4 := hs (w.heap.size) (by first | assumption | omega)); (try have t5 := hs (w.heap.size) (by first | assumption | omega))) | (go_at_call 17; with_reducible refine Calls.mono (HG.out _ (by (repeat (first | with_reducible exact Ext.rfl' _ | with_reducible assumption | with_reducible refine Ext.al ?_ _ | with_reducible refine Ext.dr ?_ | with_reducible refine Ext.st ?_ (by simp) _ | with_reducible refine Ext.tr ?_ (by assumption))))) ?_; rintro e wg ⟨rfl, hb⟩; have hc := hb.ccell; have hf := hb.frz; have hs := hb.sz; (try simp at hs); (try have t0 := hs (w.heap.size) (by first | assumption | omega)); (try have t1 := hs (w.heap.size + 1) (by first | assumption | omega)); (try have t2 := hs (wc.heap.size) (by first | assumption | omega)); (try have t3 := hs (w.heap.size) (by first | assumption | omega)); (try have t4 := hs (w.heap.size) (by first | assumption | omega)); (try have t5 := hs (w.heap.size) (by first | assumption | omega))) | (go_at_call 42; with_reducible refine Calls.mono (HCO.out _ (by (repeat (first | with_reducible exact Ext.rfl' _ | with_reducible assumption | with_reducible refine Ext.al ?_ _ | with_reducible refine Ext.dr ?_ | with_reducible refine Ext.st ?_ (by simp) _ | with_reducible refine Ext.tr ?_ (by assumption))))) ?_; rintro e wc ⟨rfl, hb⟩; have hc := hb.ccell; have hf := hb.frz; have hs := hb.sz; (try simp at hs); (try have t0 := hs (w.heap.size) (by first | assumption | omega)); (try have t1 := hs (w.heap.size + 1) (by first | assumption | omega)); (try have t2 := hs (wc.heap.size) (by first | assumption | omega)); (try have t3 := hs (w.heap.size) (by first | assumption | omega)); (try have t4 := hs (w.heap.size) (by first | assumption | omega)); (try have t5 := hs (w.heap.size) (by first | assumption | omega))) | (go_at_call 43; with_reducible refine Calls.mono (HST.out _ (by (repeat (first | with_reducible exact Ext.rfl' _ | with_reducible assumption | with_reducible refine Ext.al ?_ _ | with_reducible refine Ext.dr ?_ | with_reducible refine Ext.st ?_ (by simp) _ | with_reducible refine Ext.tr ?_ (by assumption))))) ?_; rintro e ws ⟨rfl, hb⟩; have hc := hb.ccell; have hf := hb.frz; have hs := hb.sz; (try simp at hs); (try have t0 := hs (w.heap.size) (by first | assumption | omega)); (try have t1 := hs (w.heap.size + 1) (by first | assumption | omega)); (try have t2 := hs (wc.heap.size) (by first | assumption | omega)); (try have t3 := hs (w.heap.size) (by first | assumption | omega)); (try have t4 := hs (w.heap.size) (by first | assumption | omega)); (try have t5 := hs (w.heap.size) (by first | assumption | omega))) | (go_at_call 38; with_reducible refine Calls.mono (HBO.out _ (by (repeat (first | with_reducible exact Ext.rfl' _ | with_reducible assumption | with_reducible refine Ext.al ?_ _ | with_reducible refine Ext.dr ?_ | with_reducible refine Ext.st ?_ (by simp) _ | with_reducible refine Ext.tr ?_ (by assumption))))) ?_; rintro e wb ⟨rfl, hb⟩; have hc := hb.ccell; have hf := hb.frz; have hs := hb.sz; (try simp at hs); (try have t0 := hs (w.heap.size) (by first | assumption | omega)); (try have t1 := hs (w.heap.size + 1) (by first | assumption | omega)); (try have t2 := hs (wc.heap.size) (by first | assumption | omega)); (try have t3 := hs (w.heap.size) (by first | assumption | omega)); (try have t4 := hs (w.heap.size) (by first | assumption | omega)); (try have t5 := hs (w.heap.size) (by first | assumption | omega))))
    go_ret
    exact ⟨rfl, by (repeat (first | with_reducible exact Ext.rfl' _ | with_reducible assumption | with_reducible refine Ext.al ?_ _ | with_reducible refine Ext.dr ?_ | with_reducible refine Ext.st ?_ (by simp) _ | with_reducible refine Ext.tr ?_ (by assumption)))⟩
  obtain ⟨vg, vh, hsame, hn⟩ := twoE_ok h0
  obtain ⟨cn, rn, e1, e2, e3, e4, e5, e6, e7, e8⟩ := vg.nat
  have HST := Lib.hid (fun w' (hw : Ext w w') => strips_ok_c g h cn rn w' A B c d e1 e2 (hA.ext hw) (hB.ext hw) h0)
  obtain ⟨F, hF⟩ : ∃ F, colF g h cn rn = F := ⟨_, rfl⟩
  have HS : Hid (∀ k : Nat, k < cn → ∀ w', Ext w w' → Calls Try.prog 44 #[.agg #[.int .i64 g.X, .int .i64 g.Y, .int .i64 g.S, .int .i64 g.C, .int .i64 g.R, .slice A g.L.length c], .agg #[.int .i64 h.X, .int .i64 h.Y, .int .i64 h.S, .int .i64 h.C, .int .i64 h.R, .slice B h.L.length d], .int .i64 k] w' fun e w'' => e = .returned (.agg #[.int .i64 (F k).x, .int .i64 (F k).y, .int .i64 (F k).z]) ∧ Ext w' w'') := Lib.hid fun k hk w' hw => by
    have h9 := rstrip_c g h cn k w' A B c d vg vh e1 (by omega) hn (hA.ext hw) (hB.ext hw)
    have q1 : stC g.S g.L h.L cn k g.L.length = (F k).x := by rw [← hF, e7]; exact st_col _ hk rn
    have q2 : stC g.S h.L g.L cn k g.L.length = (F k).y := by rw [← hF, e7]; exact st_col _ hk rn
    have q3 : stU g.L h.L cn k g.L.length = (F k).z := by rw [← hF, e7]; exact st_col _ hk rn
    rw [q1, q2, q3] at h9
    exact h9
  have HSM : Hid (∀ w', Ext w w' → Calls Try.prog 44 #[.agg #[.int .i64 g.X, .int .i64 g.Y, .int .i64 g.S, .int .i64 g.C, .int .i64 g.R, .slice A g.L.length c], .agg #[.int .i64 h.X, .int .i64 h.Y, .int .i64 h.S, .int .i64 h.C, .int .i64 h.R, .slice B h.L.length d], .int .i64 (-1)] w' fun e w'' => e = .returned (.agg #[.int .i64 (allC g h), .int .i64 (allC h g), .int .i64 (allU g h)]) ∧ Ext w' w'') := Lib.hid fun w' hw => by
    have h9 := rstrip_c g h cn (-1) w' A B c d vg vh e1 (by omega) hn (hA.ext hw) (hB.ext hw)
    have q1 : stC g.S g.L h.L cn (-1) g.L.length = allC g h := st_all _ cn _
    have q2 : stC g.S h.L g.L cn (-1) g.L.length = allC h g := by
      have e9 : allC h g = sumN (cutAt g.S h.L g.L) g.L.length := by unfold allC; rw [← hsame.2.2.1, ← hn]
      rw [e9]; exact st_all _ cn _
    have q3 : stU g.L h.L cn (-1) g.L.length = allU g h := st_all _ cn _
    rw [q1, q2, q3] at h9
    exact h9
  have hv : chV 0 g h = .agg #[.int .i64 (allC g h), .int .i64 (allC h g), .int .i64 (allU g h)] := rfl
  rw [h0] at HCO HBO
  rw [hv] at HCO
  rw [hF] at HST
  have HC := Lib.hid e1
  have hcn : cn ≤ 1024 := e4
  clear h0 hv hF vg vh hsame hn hA hB e1 e2 e3 e4 e5 e6 e7 e8
  generalize allC g h = x at *
  generalize allC h g = y at *
  generalize allU g h = z at *
  have hch : chB x y z x y z = true := by unfold chB; simp
  obtain ⟨i0, hi, hz0, hz1, hz2⟩ := info_parts infoC
  have HI := Lib.hid (And.intro hi (And.intro hz0 (And.intro hz1 hz2)))
  clear hi hz0 hz1 hz2
  go_enter Try.func7, Try.ntmps7
  go_upto_region 11 with (first | (go_at_call 16; with_reducible refine Calls.mono (awake_c _) ?_; rintro e wa ⟨rfl, hb⟩; have hc := hb.ccell; have hf := hb.frz; have hs := hb.sz; (try simp at hs); (try have t0 := hs (w.heap.size) (by first | assumption | omega)); (try have t1 := hs (w.heap.size + 1) (by first | assumption | omega)); (try have t2 := hs (wc.heap.size) (by first | assumption | omega)); (try have t3 := hs (w.heap.size) (by first | assumption | omega)); (try have t4 := hs (w.heap.size) (by first | assumption | omega)); (try have t5 := hs (w.heap.size) (by first | assumption | omega))) | (go_at_call 17; with_reducible refine Calls.mono (HF.out _ (by (repeat (first | with_reducible exact Ext.rfl' _ | with_reducible assumption | with_reducible refine Ext.al ?_ _ | with_reducible refine Ext.dr ?_ | with_reducible refine Ext.st ?_ (by simp) _ | with_reducible refine Ext.tr ?_ (by assumption))))) ?_; rintro e wf ⟨rfl, hb⟩; have hc := hb.ccell; have hf := hb.frz; have hs := hb.sz; (try simp at hs); (try have t0 := hs (w.heap.size) (by first | assumption | omega)); (try have t1 := hs (w.heap.size + 1) (by first | assumption | omega)); (try have t2 := hs (wc.heap.size) (by first | assumption | omega)); (try have t3 := hs (w.heap.size) (by first | assumption | omega)); (try have t4 := hs (w.heap.size) (by first | assumption | omega)); (try have t5 := hs (w.heap.size) (by first | assumption | omega))) | (go_at_call 17; with_reducible refine Calls.mono (HG.out _ (by (repeat (first | with_reducible exact Ext.rfl' _ | with_reducible assumption | with_reducible refine Ext.al ?_ _ | with_reducible refine Ext.dr ?_ | with_reducible refine Ext.st ?_ (by simp) _ | with_reducible refine Ext.tr ?_ (by assumption))))) ?_; rintro e wg ⟨rfl, hb⟩; have hc := hb.ccell; have hf := hb.frz; have hs := hb.sz; (try simp at hs); (try have t0 := hs (w.heap.size) (by first | assumption | omega)); (try have t1 := hs (w.heap.size + 1) (by first | assumption | omega)); (try have t2 := hs (wc.heap.size) (by first | assumption | omega)); (try have t3 := hs (w.heap.size) (by first | assumption | omega)); (try have t4 := hs (w.heap.size) (by first | assumption | omega)); (try have t5 := hs (w.heap.size) (by first | assumption | omega))) | (go_at_call 42; with_reducible refine Calls.mono (HCO.out _ (by (repeat (first | with_reducible exact Ext.rfl' _ | with_reducible assumption | with_reducible refine Ext.al ?_ _ | with_reducible refine Ext.dr ?_ | with_reducible refine Ext.st ?_ (by simp) _ | with_reducible refine Ext.tr ?_ (by assumption))))) ?_; rintro e wc ⟨rfl, hb⟩; have hc := hb.ccell; have hf := hb.frz; have hs := hb.sz; (try simp at hs); (try have t0 := hs (w.heap.size) (by first | assumption | omega)); (try have t1 := hs (w.heap.size + 1) (by first | assumption | omega)); (try have t2 := hs (wc.heap.size) (by first | assumption | omega)); (try have t3 := hs (w.heap.size) (by first | assumption | omega)); (try have t4 := hs (w.heap.size) (by first | assumption | omega)); (try have t5 := hs (w.heap.size) (by first | assumption | omega))) | (go_at_call 43; (with_reducible refine Calls.mono (HST.out _ (by (repeat (first | with_reducible exact Ext.rfl' _ | with_reducible assumption | with_reducible refine Ext.al ?_ _ | with_reducible refine Ext.dr ?_ | with_reducible refine Ext.st ?_ (by simp) _ | with_reducible refine Ext.tr ?_ (by assumption))))) ?_); rintro e ws ⟨⟨A2, c2, rfl, hR2⟩, hb⟩; have hc := hb.ccell; have hf := hb.frz; have hs := hb.sz; (try simp at hs); (try have t0 := hs (w.heap.size) (by first | assumption | omega)); (try have t1 := hs (w.heap.size + 1) (by first | assumption | omega)); (try have t2 := hs (wc.heap.size) (by first | assumption | omega)); (try have t3 := hs (w.heap.size) (by first | assumption | omega)); (try have t4 := hs (w.heap.size) (by first | assumption | omega)); (try have t5 := hs (w.heap.size) (by first | assumption | omega))) | (go_at_call 38; with_reducible refine Calls.mono (HBO.out _ (by (repeat (first | with_reducible exact Ext.rfl' _ | with_reducible assumption | with_reducible refine Ext.al ?_ _ | with_reducible refine Ext.dr ?_ | with_reducible refine Ext.st ?_ (by simp) _ | with_reducible refine Ext.tr ?_ (by assumption))))) ?_; rintro e wb ⟨rfl, hb⟩; have hc := hb.ccell; have hf := hb.frz; have hs := hb.sz; (try simp at hs); (try have t0 := hs (w.heap.size) (by first | assumption | omega)); (try have t1 := hs (w.heap.size + 1) (by first | assumption | omega)); (try have t2 := hs (wc.heap.size) (by first | assumption | omega)); (try have t3 := hs (w.heap.size) (by first | assumption | omega)); (try have t4 := hs (w.heap.size) (by first | assumption | omega)); (try have t5 := hs (w.heap.size) (by first | assumption | omega))))
  have hEW : Ext w wb := by (repeat (first | with_reducible exact Ext.rfl' _ | with_reducible assumption | with_reducible refine Ext.al ?_ _ | with_reducible refine Ext.dr ?_ | with_reducible refine Ext.st ?_ (by simp) _ | with_reducible refine Ext.tr ?_ (by assumption)))
  have kg : CellsAt wb w.heap.size 0 [.int .i64 g.X, .int .i64 g.Y, .int .i64 g.S, .int .i64 g.C, .int .i64 g.R, .slice A g.L.length c] := by refine cells_six ⟨?_, ?_, ?_, ?_, ?_, ?_⟩ <;> simp [*, go_sem]
  have kh : CellsAt wb (w.heap.size + 1) 0 [.int .i64 h.X, .int .i64 h.Y, .int .i64 h.S, .int .i64 h.C, .int .i64 h.R, .slice B h.L.length d] := by refine cells_six ⟨?_, ?_, ?_, ?_, ?_, ?_⟩ <;> simp [*, go_sem]
  have kc : CellsAt wb wc.heap.size 0 [.int .i64 x, .int .i64 y, .int .i64 z] := by refine cells_three ⟨?_, ?_, ?_⟩ <;> simp [*, go_sem]
  have zg : w.heap.size < wb.heap.size := by assumption
  have zh : w.heap.size + 1 < wb.heap.size := by assumption
  have zc : wc.heap.size < wb.heap.size := by assumption
  have hR3 := Lib.hid (hR2.ext (show Ext ws wb by (repeat (first | with_reducible exact Ext.rfl' _ | with_reducible assumption | with_reducible refine Ext.al ?_ _ | with_reducible refine Ext.dr ?_ | with_reducible refine Ext.st ?_ (by simp) _ | with_reducible refine Ext.tr ?_ (by assumption)))))
  clear hb hc hf hs t0 t1 t2 t3 t4 t5 hR2
  generalize wc.heap.size = nc at *
  go_wp2
  go_loopw [10, 11] (fun v i wr => Ext wb wr ∧ ∃ k : Nat, k ≤ cn ∧ i = .int .i64 k ∧ Hid (wr.ownsRow wb.heap.size 58 3 v k ((mkC F k).flatMap encC))) (fun _ i _ => cn - (intOf i).toNat)
  case atStart => exact ⟨Ext.rfl' _, 0, Nat.zero_le _, rfl, Lib.hid (World.ownsRow_nil _ _ _ _)⟩
  case round =>
    obtain ⟨hr, k, hk, rfl, hO⟩ := hrel
    have hE := hEW.tr hr
    obtain ⟨g0, g1, g2, g3, g4, g5⟩ := (kg.ext hr zg).six
    obtain ⟨h0, h1, h2, h3, h4, h5⟩ := (kh.ext hr zh).six
    obtain ⟨c0, c1, c2'⟩ := (kc.ext hr zc).three
    have zg2 := hr.sz _ zg
    have zh2 := hr.sz _ zh
    have zc2 := hr.sz _ zc
    by_cases hlt : k < cn
    · have hkc : (k : Int) < g.C := by rw [HC.out]; omega
      have S1 := Lib.hid (fun w' (hw : Ext w w') => HS.out k hlt w' hw)
      obtain ⟨hi, hzi0, hzi1, hzi2⟩ := HI.out
      go_wp2_with (first | (go_at_call 44; with_reducible refine Calls.mono (S1.out _ (by (repeat (first | with_reducible exact Ext.rfl' _ | with_reducible assumption | with_reducible refine Ext.al ?_ _ | with_reducible refine Ext.dr ?_ | with_reducible refine Ext.st ?_ (by simp) _ | with_reducible refine Ext.tr ?_ (by assumption))))) ?_; rintro e w3 ⟨rfl, hb⟩; have hc := hb.ccell; have hf := hb.frz; have hs := hb.sz; (try simp at hs); (try have t0 := hs (w.heap.size) (by first | assumption | omega)); (try have t1 := hs (w.heap.size) (by first | assumption | omega)); (try have t2 := hs (w.heap.size) (by first | assumption | omega)); (try have t3 := hs (w.heap.size) (by first | assumption | omega)); (try have t4 := hs (w.heap.size) (by first | assumption | omega)); (try have t5 := hs (w.heap.size) (by first | assumption | omega))) | (at_builtin; refine wpList_append_own _ rfl _ _ 61 rfl wb.heap.size 58 i0 _ 3 24 Try.underlying61 hi hzi0 hzi1 hzi2 rfl (by decide) _ _ _ rfl (World.ownsRow.alloc (ownsRow_ext hO.out (by assumption)) _) ⟨_, 0, none⟩ 1 1 [.int .i64 (F k).x, .int .i64 (F k).y, .int .i64 (F k).z] rfl rfl ?_ ?_ ?_ ?_ ?_ ?_))
      · exact three_newZ _ _ _ _ _
      · intro u hu; simp at hu; rcases hu with rfl | rfl | rfl <;> rfl
      · unfold maxLen; omega
      · omega
      · have hE3 : Ext wr w3 := by assumption
        have := (hr.tr hE3).size
        simp; omega
      intro v' w4 hown hgrow _
      have hE3 : Ext wr w3 := by assumption
      have hE4 : Ext wb w4 := grown_ext (Ext.al (hr.tr hE3) _) (World.ownsRow.alloc (ownsRow_ext hO.out hE3) _) (Nat.le_refl _) hgrow
      have hown2 := Lib.hid hown
      clear hown hgrow hi hzi0 hzi1 hzi2
      go_wp2
      refine ⟨⟨hE4, k + 1, by omega, by go_num, Lib.hid ?_⟩, by simp [intOf]; omega⟩
      rw [mkC_succ]
      exact hown2.out
    · have hks : k = cn := by omega
      subst hks
      have hkc : ¬ (k : Int) < g.C := by rw [HC.out]; omega
      obtain ⟨A', c', hv, _, _, hcase⟩ := ownK_cases encC_len (l := mkC F k) rfl (mkC_len _ _).symm hO.out
      subst hv
      have hrow := Lib.hid (ownK_row encC_len hcase)
      have CH := Lib.hid (fun w' (hw : Ext wr w') => changes_c (mkC F k) (mkC F k) w' A2 A' c2 c' (by rw [mkC_len]; omega) (hR3.out.ext (hr.tr hw)) (hrow.out.ext hw) rfl)
      clear hO hcase
      go_wp2
      refine region_grow (by kernel_rfl) (by kernel_rfl) ?_
      repeat (first | go_big_quiet_step (first | (go_at_call 44; with_reducible exact callsGrow (HSM.out _ (hE.tr (Grow.ok _)))) | (go_at_call 45; with_reducible exact callsGrow (CH.out _ (Grow.ok _))) | fail) | quiet_step (first | (go_at_call 44; with_reducible exact callsGrow (HSM.out _ (hE.tr (Grow.ok _)))) | (go_at_call 45; with_reducible exact callsGrow (CH.out _ (Grow.ok _))) | fail))
      refine wpQuiet_nil ?_
      intro w1 hb
      have hc := hb.ccell
      have hf := hb.frz
      have hs := hb.sz
      (try simp at hs); (try have hs0 := hs w.heap.size (by omega)); (try have hs1 := hs (w.heap.size + 1) (by omega)); (try have hs2 := hs (w.heap.size + 1 + 1) (by omega)); (try have hs3 := hs (w.heap.size + 1 + 1 + 1) (by omega))
      (try simp only [IntWalk.i64_left])
      go_wp2
      go_ret
      exact ⟨rfl, by (repeat (first | with_reducible exact Ext.rfl' _ | with_reducible assumption | with_reducible refine Ext.al ?_ _ | with_reducible refine Ext.dr ?_ | with_reducible refine Ext.st ?_ (by simp) _ | with_reducible refine Ext.tr ?_ (by assumption)))⟩
end Go.Proofs.Ytgnakeemcccfjaa

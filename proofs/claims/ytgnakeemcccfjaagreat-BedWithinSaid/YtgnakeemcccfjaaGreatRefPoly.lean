/- The contract of the reference's CheckPolygon. -/
import Derived.Test.YtgnakeemcccfjaaGreatChk
import Derived.Test.YtgnakeemcccfjaaGreatSeg3
import Derived.Deep.DeepCutAuto
namespace Go.Proofs.YtgnakeemcccfjaaGreat
open Go Go.RowKit Go.IntWalk

def rpolyE (l : List Pt) : Int := if l.length < 3 then 10 else if 40 < l.length then 8 else if allGood l = false then 2 else if dupR l = true then 3 else if formR meetR betweenW l = true then 3 else 0
theorem rcornerI_c (l : List Pt) (i : Nat) (w : World) (A : Option Addr) (c : Nat) (z : Int) (h0 : 0 < l.length) (hl : l.length ≤ 1000) (hi : i ≤ 100000) (hA : Row 2 encP w A l) (hz : z = i) :
    Calls Tryz.prog 39 #[.slice A l.length c, .int .i64 z] w
      fun e w' => e = .returned (.agg #[.int .i64 (cor l i).x, .int .i64 (cor l i).y]) ∧ Ext w w' := by
  subst hz; exact rcorner_c l i w A c h0 hl hi hA
theorem pt_eq (a b : Pt) : a = b ↔ a.x = b.x ∧ a.y = b.y := by
  constructor
  · rintro rfl; exact ⟨rfl, rfl⟩
  · intro ⟨h1, h2⟩; cases a; cases b; simp at h1 h2; subst h1 h2; rfl

set_option maxHeartbeats 4000000 in
theorem rcheckPolygon_c (l : List Pt) (w : World) (A : Option Addr) (c : Nat) (hl : l.length ≤ 1000) (hA : Row 2 encP w A l) :
    Calls Tryz.prog 11 #[.slice A l.length c] w
      fun e w' => e = .returned (.int .i64 (rpolyE l)) ∧ Ext w w' := by
  by_cases h1 : l.length < 3
  · have h1' : (l.length : Int) < 3 := by omega
    unfold rpolyE
    rw [if_pos h1]
    go_enter Tryz.func11, Tryz.ntmps11
    go_wp2
    go_ret
    exact ⟨rfl, by (repeat (first | with_reducible exact Ext.rfl' _ | with_reducible assumption | with_reducible refine Ext.al ?_ _ | with_reducible refine Ext.dr ?_ | with_reducible refine Ext.st ?_ (by simp) _ | with_reducible refine Ext.tr ?_ (by assumption)))⟩
  by_cases h2 : 40 < l.length
  · have h1' : ¬ (l.length : Int) < 3 := by omega
    have h2' : (40 : Int) < (l.length : Int) := by omega
    unfold rpolyE
    rw [if_neg h1, if_pos h2]
    go_enter Tryz.func11, Tryz.ntmps11
    go_wp2
    go_ret
    exact ⟨rfl, by (repeat (first | with_reducible exact Ext.rfl' _ | with_reducible assumption | with_reducible refine Ext.al ?_ _ | with_reducible refine Ext.dr ?_ | with_reducible refine Ext.st ?_ (by simp) _ | with_reducible refine Ext.tr ?_ (by assumption)))⟩
  have h1' : ¬ (l.length : Int) < 3 := by omega
  have h2' : ¬ (40 : Int) < (l.length : Int) := by omega
  have h0 : 0 < l.length := by omega
  obtain ⟨E, hE0⟩ : ∃ E, rpolyE l = E := ⟨_, rfl⟩
  rw [hE0]
  unfold rpolyE at hE0
  rw [if_neg h1, if_neg h2] at hE0
  have HT := Lib.hid hE0
  have HCO := Lib.hid (fun i (hi : i ≤ 100000) w' (hw : Ext w w') z hz => rcornerI_c l i w' A c z h0 hl hi (hA.ext hw) hz)
  clear hE0 h1 h2
  go_enter Tryz.func11, Tryz.ntmps11
  go_wp2
  go_loopw [3] (fun i wr => Ext w wr ∧ ∃ k : Nat, k ≤ l.length ∧ i = .int .i64 k ∧ Hid ((l.take k).all good = true)) (fun i _ => l.length - (intOf i).toNat)
  case atStart => exact ⟨Ext.rfl' _, 0, Nat.zero_le _, rfl, by simp [Hid]⟩
  case round =>
    obtain ⟨hE, k, hk, rfl, hK⟩ := hrel
    by_cases hlt : k < l.length
    · obtain ⟨b, off, rfl, hb0, hcell⟩ := hA.p2 hlt
      have c := hcell _ hE
      clear hcell
      have hz := hE.sz _ hb0
      have HG := Lib.hid (fun w => rgood_c l[k].x l[k].y w)
      cases hg : good l[k]
      all_goals
        have hg' : good ⟨l[k].x, l[k].y⟩ = _ := hg
        rw [hg'] at HG
        have H1 := Lib.hid hg
        clear hg hg'
        go_wp2_with (first | (go_at_call 38; with_reducible refine Calls.mono (HG.out _) ?_; rintro e w1 ⟨rfl, hb⟩; have hc := hb.ccell; have hf := hb.frz; have hs := hb.sz; (try simp at hs); (try have hs0 := hs w.heap.size (by omega)); (try have hs1 := hs (w.heap.size + 1) (by omega)); (try have hs2 := hs (w.heap.size + 1 + 1) (by omega)); (try have hs3 := hs (w.heap.size + 1 + 1 + 1) (by omega))))
      · go_ret
        refine ⟨ret_int ?_, by (repeat (first | with_reducible exact Ext.rfl' _ | with_reducible assumption | with_reducible refine Ext.al ?_ _ | with_reducible refine Ext.dr ?_ | with_reducible refine Ext.st ?_ (by simp) _ | with_reducible refine Ext.tr ?_ (by assumption)))⟩
        rw [← HT.out, if_pos (show allGood l = false from all_false _ _ k hlt H1.out)]
      · exact ⟨⟨by (repeat (first | with_reducible exact Ext.rfl' _ | with_reducible assumption | with_reducible refine Ext.al ?_ _ | with_reducible refine Ext.dr ?_ | with_reducible refine Ext.st ?_ (by simp) _ | with_reducible refine Ext.tr ?_ (by assumption))), k + 1, by omega, by go_num, all_take_succ _ _ k hlt hK.out H1.out⟩, by simp [intOf]; omega⟩
    · have HAG := Lib.hid (take_all _ _ k (by omega) hK.out : allGood l = true)
      have hT := HT.out
      rw [if_neg (by rw [show allGood l = true from HAG.out]; decide)] at hT
      have HT := Lib.hid hT
      clear hT hK
      go_wp2
      go_loopw [5, 6] (fun i _ wr => Ext w wr ∧ ∃ k : Nat, k ≤ l.length ∧ i = .int .i64 k ∧ Hid (anyN (fun i => anyN (fun k => decide (cor l i = cor l k)) i) k = false)) (fun i _ _ => l.length - (intOf i).toNat)
      case atStart => exact ⟨hE, 0, Nat.zero_le _, rfl, rfl⟩
      case round =>
        clear hE hk hlt
        obtain ⟨hE, k, hk, rfl, hK⟩ := hrel
        by_cases hlt : k < l.length
        · go_wp2
          go_loopw [6] (fun i wx => Ext w wx ∧ ∃ j : Nat, j ≤ k ∧ i = .int .i64 j ∧ Hid (anyN (fun j => decide (cor l k = cor l j)) j = false)) (fun i _ => k - (intOf i).toNat)
          case atStart => exact ⟨hE, 0, Nat.zero_le _, rfl, rfl⟩
          case round =>
            obtain ⟨hx, j, hj, rfl, hJ⟩ := hrel
            by_cases hlj : j < k
            · obtain ⟨b, off, rfl, hb0, hcell⟩ := hA.p2 hlt
              have c0 := hcell _ hx
              have c1 := hA.r2 (show j < l.length by omega) _ hx
              clear hcell
              have hz := hx.sz _ hb0
              have e0 := cor_lt l k hlt
              have e1 := cor_lt l j (by omega)
              have hd : decide (cor l k = cor l j) = decide (l[k].x = l[j].x ∧ l[k].y = l[j].y) := by rw [decide_eq_decide, e0, e1, pt_eq]
              generalize l[k].x = ax at *
              generalize l[k].y = ay at *
              generalize l[j].x = bx at *
              generalize l[j].y = b_y at *
              clear e0 e1
              have HD := Lib.hid hd
              clear hd
              by_cases hqx : ax = bx
              · subst hqx
                by_cases hqy : ay = b_y
                · subst hqy
                  have HQ := Lib.hid (HD.out.trans (by simp : _ = true))
                  go_wp2_with fail
                  refine region_grow (by kernel_rfl) (by kernel_rfl) ?_
                  repeat (first | go_big_quiet_step (first  | fail) | quiet_step (first  | fail))
                  refine wpQuiet_nil ?_
                  intro w1 hb
                  have hc := hb.ccell
                  have hf := hb.frz
                  have hs := hb.sz
                  (try simp at hs); (try have hs0 := hs w.heap.size (by omega)); (try have hs1 := hs (w.heap.size + 1) (by omega)); (try have hs2 := hs (w.heap.size + 1 + 1) (by omega)); (try have hs3 := hs (w.heap.size + 1 + 1 + 1) (by omega))
                  (try simp only [IntWalk.i64_left])
                  go_wp2
                  go_ret
                  refine ⟨ret_int ?_, by (repeat (first | with_reducible exact Ext.rfl' _ | with_reducible assumption | with_reducible refine Ext.al ?_ _ | with_reducible refine Ext.dr ?_ | with_reducible refine Ext.st ?_ (by simp) _ | with_reducible refine Ext.tr ?_ (by assumption)))⟩
                  rw [← HT.out, if_pos (show dupR l = true from anyN_at (fun i => anyN (fun k => decide (cor l i = cor l k)) i) hlt (anyN_at (fun j => decide (cor l k = cor l j)) hlj HQ.out))]
                · have HQ := Lib.hid (HD.out.trans (by simp [hqy] : _ = false))
                  go_wp2_with fail
                  refine region_grow (by kernel_rfl) (by kernel_rfl) ?_
                  repeat (first | go_big_quiet_step (first  | fail) | quiet_step (first  | fail))
                  refine wpQuiet_nil ?_
                  intro w1 hb
                  have hc := hb.ccell
                  have hf := hb.frz
                  have hs := hb.sz
                  (try simp at hs); (try have hs0 := hs w.heap.size (by omega)); (try have hs1 := hs (w.heap.size + 1) (by omega)); (try have hs2 := hs (w.heap.size + 1 + 1) (by omega)); (try have hs3 := hs (w.heap.size + 1 + 1 + 1) (by omega))
                  (try simp only [IntWalk.i64_left])
                  go_wp2
                  refine ⟨⟨by (repeat (first | with_reducible exact Ext.rfl' _ | with_reducible assumption | with_reducible refine Ext.al ?_ _ | with_reducible refine Ext.dr ?_ | with_reducible refine Ext.st ?_ (by simp) _ | with_reducible refine Ext.tr ?_ (by assumption))), j + 1, by omega, by go_num, ?_⟩, by simp [intOf]; omega⟩
                  show anyN _ (j + 1) = false
                  rw [anyN, hJ.out, HQ.out]; rfl
              · have HQ := Lib.hid (HD.out.trans (by simp [hqx] : _ = false))
                go_wp2_with fail
                refine region_grow (by kernel_rfl) (by kernel_rfl) ?_
                repeat (first | go_big_quiet_step (first  | fail) | quiet_step (first  | fail))
                refine wpQuiet_nil ?_
                intro w1 hb
                have hc := hb.ccell
                have hf := hb.frz
                have hs := hb.sz
                (try simp at hs); (try have hs0 := hs w.heap.size (by omega)); (try have hs1 := hs (w.heap.size + 1) (by omega)); (try have hs2 := hs (w.heap.size + 1 + 1) (by omega)); (try have hs3 := hs (w.heap.size + 1 + 1 + 1) (by omega))
                (try simp only [IntWalk.i64_left])
                go_wp2
                refine ⟨⟨by (repeat (first | with_reducible exact Ext.rfl' _ | with_reducible assumption | with_reducible refine Ext.al ?_ _ | with_reducible refine Ext.dr ?_ | with_reducible refine Ext.st ?_ (by simp) _ | with_reducible refine Ext.tr ?_ (by assumption))), j + 1, by omega, by go_num, ?_⟩, by simp [intOf]; omega⟩
                show anyN _ (j + 1) = false
                rw [anyN, hJ.out, HQ.out]; rfl
            · have hjk : j = k := by omega
              subst hjk
              go_wp2
              refine ⟨⟨by (repeat (first | with_reducible exact Ext.rfl' _ | with_reducible assumption | with_reducible refine Ext.al ?_ _ | with_reducible refine Ext.dr ?_ | with_reducible refine Ext.st ?_ (by simp) _ | with_reducible refine Ext.tr ?_ (by assumption))), j + 1, by omega, by go_num, ?_⟩, by simp [intOf]; omega⟩
              show anyN _ (j + 1) = false
              rw [anyN, hK.out, hJ.out]; rfl
        · have hDU := Lib.hid (show dupR l = false from (by have h := hK.out; rw [show k = l.length by omega] at h; exact h))
          have hT := HT.out
          rw [if_neg (by rw [hDU.out]; decide)] at hT
          have HT := Lib.hid hT
          clear hT hK
          go_wp2
          clear hk hlt
          go_loopw [7, 8, 9, 10, 11] (fun i _ _ _ _ wr => Ext w wr ∧ ∃ k : Nat, k ≤ l.length ∧ i = .int .i64 k ∧ Hid (anyN (fun i => foldR betweenW l i || anyN (fun k => farR meetR l i (i + 2 + k)) (l.length - (i + 2))) k = false)) (fun i _ _ _ _ _ => l.length - (intOf i).toNat)
          case atStart => exact ⟨hE, 0, Nat.zero_le _, rfl, rfl⟩
          case round =>
            clear hE
            obtain ⟨hE, k, hk, rfl, hK⟩ := hrel
            by_cases hlt : k < l.length
            · have HC0 := Lib.hid (fun w' hw z hz => HCO.out k (by omega) w' hw z hz)
              have HC1 := Lib.hid (fun w' hw z hz => HCO.out (k + 1) (by omega) w' hw z hz)
              have HC2 := Lib.hid (fun w' hw z hz => HCO.out (k + 2) (by omega) w' hw z hz)
              have HB1 := Lib.hid (fun w => rbetween_c (cor l k).x (cor l k).y (cor l (k + 1)).x (cor l (k + 1)).y (cor l (k + 2)).x (cor l (k + 2)).y w)
              have HB2 := Lib.hid (fun w => rbetween_c (cor l (k + 1)).x (cor l (k + 1)).y (cor l (k + 2)).x (cor l (k + 2)).y (cor l k).x (cor l k).y w)
              have HF := Lib.hid (show foldR betweenW l k = (betweenW ⟨(cor l k).x, (cor l k).y⟩ ⟨(cor l (k + 1)).x, (cor l (k + 1)).y⟩ ⟨(cor l (k + 2)).x, (cor l (k + 2)).y⟩ || betweenW ⟨(cor l (k + 1)).x, (cor l (k + 1)).y⟩ ⟨(cor l (k + 2)).x, (cor l (k + 2)).y⟩ ⟨(cor l k).x, (cor l k).y⟩) from rfl)
              generalize betweenW ⟨(cor l k).x, (cor l k).y⟩ ⟨(cor l (k + 1)).x, (cor l (k + 1)).y⟩ ⟨(cor l (k + 2)).x, (cor l (k + 2)).y⟩ = r1 at HB1 HF
              generalize betweenW ⟨(cor l (k + 1)).x, (cor l (k + 1)).y⟩ ⟨(cor l (k + 2)).x, (cor l (k + 2)).y⟩ ⟨(cor l k).x, (cor l k).y⟩ = r2 at HB2 HF
              generalize hp : cor l k = p at HC0 HC1 HC2 HB1 HB2
              generalize hq : cor l (k + 1) = q at HC0 HC1 HC2 HB1 HB2
              generalize hs' : cor l (k + 2) = s at HC0 HC1 HC2 HB1 HB2
              have HPQ := Lib.hid (And.intro hp hq)
              clear hp hq hs'
              go_upto_region 23 with (first | (go_at_call 39; with_reducible refine Calls.mono (HC0.out _ (by (repeat (first | with_reducible exact Ext.rfl' _ | with_reducible assumption | with_reducible refine Ext.al ?_ _ | with_reducible refine Ext.dr ?_ | with_reducible refine Ext.st ?_ (by simp) _ | with_reducible refine Ext.tr ?_ (by assumption)))) _ (by omega)) ?_; rintro e w1 ⟨rfl, hb⟩; have hc := hb.ccell; have hf := hb.frz; have hs := hb.sz; (try simp at hs); (try have hs0 := hs w.heap.size (by omega)); (try have hs1 := hs (w.heap.size + 1) (by omega)); (try have hs2 := hs (w.heap.size + 1 + 1) (by omega)); (try have hs3 := hs (w.heap.size + 1 + 1 + 1) (by omega))) | (go_at_call 39; with_reducible refine Calls.mono (HC1.out _ (by (repeat (first | with_reducible exact Ext.rfl' _ | with_reducible assumption | with_reducible refine Ext.al ?_ _ | with_reducible refine Ext.dr ?_ | with_reducible refine Ext.st ?_ (by simp) _ | with_reducible refine Ext.tr ?_ (by assumption)))) _ (by omega)) ?_; rintro e w1 ⟨rfl, hb⟩; have hc := hb.ccell; have hf := hb.frz; have hs := hb.sz; (try simp at hs); (try have hs0 := hs w.heap.size (by omega)); (try have hs1 := hs (w.heap.size + 1) (by omega)); (try have hs2 := hs (w.heap.size + 1 + 1) (by omega)); (try have hs3 := hs (w.heap.size + 1 + 1 + 1) (by omega))) | (go_at_call 39; with_reducible refine Calls.mono (HC2.out _ (by (repeat (first | with_reducible exact Ext.rfl' _ | with_reducible assumption | with_reducible refine Ext.al ?_ _ | with_reducible refine Ext.dr ?_ | with_reducible refine Ext.st ?_ (by simp) _ | with_reducible refine Ext.tr ?_ (by assumption)))) _ (by omega)) ?_; rintro e w1 ⟨rfl, hb⟩; have hc := hb.ccell; have hf := hb.frz; have hs := hb.sz; (try simp at hs); (try have hs0 := hs w.heap.size (by omega)); (try have hs1 := hs (w.heap.size + 1) (by omega)); (try have hs2 := hs (w.heap.size + 1 + 1) (by omega)); (try have hs3 := hs (w.heap.size + 1 + 1 + 1) (by omega))))
              refine wp_name (fun W hW => ?_)
              have hE : Ext w W := by rw [hW]; (repeat (first | with_reducible exact Ext.rfl' _ | with_reducible assumption | with_reducible refine Ext.al ?_ _ | with_reducible refine Ext.dr ?_ | with_reducible refine Ext.st ?_ (by simp) _ | with_reducible refine Ext.tr ?_ (by assumption)))
              have HW := Lib.hid hW
              clear hW
              have k8 : W.cell? ⟨w1.heap.size, 0, none⟩ = some (.int .i64 p.x) ∧ W.cell? ⟨w1.heap.size, 1, none⟩ = some (.int .i64 p.y) := by
                rw [HW.out]; refine ⟨?_, ?_⟩ <;> simp [World.cell?_alloc_past, World.cell?_alloc_new, go_sem]
              have k9 : W.cell? ⟨w1.heap.size + 1, 0, none⟩ = some (.int .i64 q.x) ∧ W.cell? ⟨w1.heap.size + 1, 1, none⟩ = some (.int .i64 q.y) := by
                rw [HW.out]; refine ⟨?_, ?_⟩ <;> simp [World.cell?_alloc_past, go_sem]
              have k10 : W.cell? ⟨w1.heap.size + 1 + 1, 0, none⟩ = some (.int .i64 s.x) ∧ W.cell? ⟨w1.heap.size + 1 + 1, 1, none⟩ = some (.int .i64 s.y) := by
                rw [HW.out]; refine ⟨?_, ?_⟩ <;> simp [go_sem]
              have z10 : w1.heap.size + 1 + 1 < W.heap.size := by rw [HW.out]; simp
              have z9 : w1.heap.size + 1 < W.heap.size := by omega
              have z8 : w1.heap.size < W.heap.size := by omega
              have K8 := Lib.hid k8
              have K9 := Lib.hid k9
              clear HW
              generalize w1.heap.size = n0 at *
              clear hb hc hf hs
              cases r1
              case true =>
                go_wp2_with (first | (go_at_call 40; with_reducible refine Calls.mono (HB1.out _) ?_; rintro e w1 ⟨rfl, hb⟩; have hc := hb.ccell; have hf := hb.frz; have hs := hb.sz; (try simp at hs); (try have hs0 := hs w.heap.size (by omega)); (try have hs1 := hs (w.heap.size + 1) (by omega)); (try have hs2 := hs (w.heap.size + 1 + 1) (by omega)); (try have hs3 := hs (w.heap.size + 1 + 1 + 1) (by omega))))
                go_ret
                refine ⟨ret_int ?_, by (repeat (first | with_reducible exact Ext.rfl' _ | with_reducible assumption | with_reducible refine Ext.al ?_ _ | with_reducible refine Ext.dr ?_ | with_reducible refine Ext.st ?_ (by simp) _ | with_reducible refine Ext.tr ?_ (by assumption)))⟩
                rw [← HT.out, if_pos (show formR meetR betweenW l = true from anyN_at (fun i => foldR betweenW l i || anyN (fun k => farR meetR l i (i + 2 + k)) (l.length - (i + 2))) hlt (show (foldR betweenW l k || _) = true by rw [HF.out]; rfl))]
              cases r2
              case true =>
                go_wp2_with (first | (go_at_call 40; with_reducible refine Calls.mono (HB1.out _) ?_; rintro e w1 ⟨rfl, hb⟩; have hc := hb.ccell; have hf := hb.frz; have hs := hb.sz; (try simp at hs); (try have t0 := hs (n0) (by first | assumption | omega)); (try have t1 := hs (n0 + 1) (by first | assumption | omega)); (try have t2 := hs (n0 + 1 + 1) (by first | assumption | omega))) | (go_at_call 40; with_reducible refine Calls.mono (HB2.out _) ?_; rintro e w1 ⟨rfl, hb⟩; have hc := hb.ccell; have hf := hb.frz; have hs := hb.sz; (try simp at hs); (try have t0 := hs (n0) (by first | assumption | omega)); (try have t1 := hs (n0 + 1) (by first | assumption | omega)); (try have t2 := hs (n0 + 1 + 1) (by first | assumption | omega))))
                go_ret
                refine ⟨ret_int ?_, by (repeat (first | with_reducible exact Ext.rfl' _ | with_reducible assumption | with_reducible refine Ext.al ?_ _ | with_reducible refine Ext.dr ?_ | with_reducible refine Ext.st ?_ (by simp) _ | with_reducible refine Ext.tr ?_ (by assumption)))⟩
                rw [← HT.out, if_pos (show formR meetR betweenW l = true from anyN_at (fun i => foldR betweenW l i || anyN (fun k => farR meetR l i (i + 2 + k)) (l.length - (i + 2))) hlt (show (foldR betweenW l k || _) = true by rw [HF.out]; rfl))]
              go_wp2_with (first | (go_at_call 40; with_reducible refine Calls.mono (HB1.out _) ?_; rintro e w1 ⟨rfl, hb⟩; have hc := hb.ccell; have hf := hb.frz; have hs := hb.sz; (try simp at hs); (try have t0 := hs (n0) (by first | assumption | omega)); (try have t1 := hs (n0 + 1) (by first | assumption | omega)); (try have t2 := hs (n0 + 1 + 1) (by first | assumption | omega))) | (go_at_call 40; with_reducible refine Calls.mono (HB2.out _) ?_; rintro e w1 ⟨rfl, hb⟩; have hc := hb.ccell; have hf := hb.frz; have hs := hb.sz; (try simp at hs); (try have t0 := hs (n0) (by first | assumption | omega)); (try have t1 := hs (n0 + 1) (by first | assumption | omega)); (try have t2 := hs (n0 + 1 + 1) (by first | assumption | omega))))
              have hEW : Ext W w1 := by (repeat (first | with_reducible exact Ext.rfl' _ | with_reducible assumption | with_reducible refine Ext.al ?_ _ | with_reducible refine Ext.dr ?_ | with_reducible refine Ext.st ?_ (by simp) _ | with_reducible refine Ext.tr ?_ (by assumption)))
              clear hb hc hf hs k8 k9 k10
              go_loopw [11] (fun i wx => Ext W wx ∧ ∃ m : Nat, k + 2 ≤ m ∧ m ≤ l.length + 1 ∧ i = .int .i64 m ∧ Hid (∀ t, k + 2 + t < m → farR meetR l k (k + 2 + t) = false)) (fun i _ => l.length - (intOf i).toNat)
              case atStart => exact ⟨hEW, k + 2, Nat.le_refl _, by omega, by go_num, fun t ht => by omega⟩
              case round =>
                obtain ⟨hx, m, hm0, hm1, rfl, hM⟩ := hrel
                by_cases hlm : m < l.length
                · have hEr : Ext w wr := by (repeat (first | with_reducible exact Ext.rfl' _ | with_reducible assumption | with_reducible refine Ext.al ?_ _ | with_reducible refine Ext.dr ?_ | with_reducible refine Ext.st ?_ (by simp) _ | with_reducible refine Ext.tr ?_ (by assumption)))
                  have e80 := (hx.ccell _ 0 z8).trans K8.out.1
                  have e81 := (hx.ccell _ 1 z8).trans K8.out.2
                  have e90 := (hx.ccell _ 0 z9).trans K9.out.1
                  have e91 := (hx.ccell _ 1 z9).trans K9.out.2
                  have y8 := hx.sz _ z8
                  have y9 := hx.sz _ z9
                  have hrem : ((m : Int) + 1) % (l.length : Int) = (((m + 1) % l.length : Nat) : Int) := by rw [Int.natCast_emod]; rfl
                  have hrem2 : ((m : Int) + 1).tmod (l.length : Int) = (((m + 1) % l.length : Nat) : Int) := rem_nat (m + 1) l.length
                  have hne0 : ¬ (l.length : Int) = 0 := by omega
                  have HFAR := Lib.hid (show farR meetR l k (k + 2 + (m - (k + 2))) = (decide ((m + 1) % l.length ≠ k) && meetR ⟨p.x, p.y⟩ ⟨q.x, q.y⟩ ⟨(cor l m).x, (cor l m).y⟩ ⟨(cor l (m + 1)).x, (cor l (m + 1)).y⟩) by
                    rw [show k + 2 + (m - (k + 2)) = m by omega]; unfold farR; rw [HPQ.out.1, HPQ.out.2])
                  generalize (m + 1) % l.length = mm at hrem hrem2 HFAR
                  by_cases hg : mm = k
                  · subst hg
                    go_wp2_with fail
                    refine region_grow (by kernel_rfl) (by kernel_rfl) ?_
                    repeat (first | go_big_quiet_step (first  | fail) | quiet_step (first  | fail))
                    refine wpQuiet_nil ?_
                    intro w1 hb
                    have hc := hb.ccell
                    have hf := hb.frz
                    have hs := hb.sz
                    (try simp at hs); (try have hs0 := hs w.heap.size (by omega)); (try have hs1 := hs (w.heap.size + 1) (by omega)); (try have hs2 := hs (w.heap.size + 1 + 1) (by omega)); (try have hs3 := hs (w.heap.size + 1 + 1 + 1) (by omega))
                    (try simp only [IntWalk.i64_left])
                    go_wp2
                    refine ⟨⟨by (repeat (first | with_reducible exact Ext.rfl' _ | with_reducible assumption | with_reducible refine Ext.al ?_ _ | with_reducible refine Ext.dr ?_ | with_reducible refine Ext.st ?_ (by simp) _ | with_reducible refine Ext.tr ?_ (by assumption))), m + 1, by omega, by omega, by go_num, ?_⟩, by simp [intOf]; omega⟩
                    intro t ht
                    by_cases htm : t = m - (mm + 2)
                    · subst htm; rw [HFAR.out]; simp
                    · exact hM.out t (by omega)
                  · have hg' : ¬ (mm : Int) = (k : Int) := by omega
                    have HCm := Lib.hid (fun w' hw z hz => HCO.out m (by omega) w' hw z hz)
                    have HCn := Lib.hid (fun w' hw z hz => HCO.out (m + 1) (by omega) w' hw z hz)
                    have HMT := Lib.hid (fun w => rmeet_c p.x p.y q.x q.y (cor l m).x (cor l m).y (cor l (m + 1)).x (cor l (m + 1)).y w)
                    generalize cor l m = u at HCm HCn HMT HFAR
                    generalize cor l (m + 1) = v at HCm HCn HMT HFAR
                    cases hmr : meetR ⟨p.x, p.y⟩ ⟨q.x, q.y⟩ ⟨u.x, u.y⟩ ⟨v.x, v.y⟩
                    all_goals
                      rw [hmr] at HMT HFAR
                      clear hmr
                      have HG := Lib.hid hg
                      clear hg
                      go_wp2_with fail
                      refine region_grow (by kernel_rfl) (by kernel_rfl) ?_
                      repeat (first | go_big_quiet_step (first | (go_at_call 39; with_reducible exact callsGrow (HCm.out _ (hEr.tr (Grow.ok _)) _ (by omega))) | (go_at_call 39; with_reducible exact callsGrow (HCn.out _ (hEr.tr (Grow.ok _)) _ (by first | omega | (rw [i64_in _ (by omega)]; omega)))) | (go_at_call 41; with_reducible exact callsGrow (HMT.out _)) | fail) | quiet_step (first | (go_at_call 39; with_reducible exact callsGrow (HCm.out _ (hEr.tr (Grow.ok _)) _ (by omega))) | (go_at_call 39; with_reducible exact callsGrow (HCn.out _ (hEr.tr (Grow.ok _)) _ (by first | omega | (rw [i64_in _ (by omega)]; omega)))) | (go_at_call 41; with_reducible exact callsGrow (HMT.out _)) | fail))
                      refine wpQuiet_nil ?_
                      intro w1 hb
                      have hc := hb.ccell
                      have hf := hb.frz
                      have hs := hb.sz
                      (try simp at hs); (try have hs0 := hs w.heap.size (by omega)); (try have hs1 := hs (w.heap.size + 1) (by omega)); (try have hs2 := hs (w.heap.size + 1 + 1) (by omega)); (try have hs3 := hs (w.heap.size + 1 + 1 + 1) (by omega))
                      (try simp only [IntWalk.i64_left])
                      go_wp2
                    · refine ⟨⟨by (repeat (first | with_reducible exact Ext.rfl' _ | with_reducible assumption | with_reducible refine Ext.al ?_ _ | with_reducible refine Ext.dr ?_ | with_reducible refine Ext.st ?_ (by simp) _ | with_reducible refine Ext.tr ?_ (by assumption))), m + 1, by omega, by omega, by go_num, ?_⟩, by simp [intOf]; omega⟩
                      intro t ht
                      by_cases htm : t = m - (k + 2)
                      · subst htm; rw [HFAR.out]; simp
                      · exact hM.out t (by omega)
                    · go_ret
                      refine ⟨ret_int ?_, by (repeat (first | with_reducible exact Ext.rfl' _ | with_reducible assumption | with_reducible refine Ext.al ?_ _ | with_reducible refine Ext.dr ?_ | with_reducible refine Ext.st ?_ (by simp) _ | with_reducible refine Ext.tr ?_ (by assumption)))⟩
                      rw [← HT.out, if_pos (show formR meetR betweenW l = true from anyN_at (fun i => foldR betweenW l i || anyN (fun k => farR meetR l i (i + 2 + k)) (l.length - (i + 2))) hlt (show (_ || anyN (fun t => farR meetR l k (k + 2 + t)) (l.length - (k + 2))) = true by
                        rw [anyN_at (fun t => farR meetR l k (k + 2 + t)) (k := m - (k + 2)) (by omega) (by show farR meetR l k (k + 2 + (m - (k + 2))) = true; rw [HFAR.out]; simpa using HG.out)]; simp))]
                · go_wp2
                  refine ⟨⟨by (repeat (first | with_reducible exact Ext.rfl' _ | with_reducible assumption | with_reducible refine Ext.al ?_ _ | with_reducible refine Ext.dr ?_ | with_reducible refine Ext.st ?_ (by simp) _ | with_reducible refine Ext.tr ?_ (by assumption))), k + 1, by omega, by go_num, ?_⟩, by simp [intOf]; omega⟩
                  show anyN _ (k + 1) = false
                  rw [anyN, hK.out, HF.out]
                  simp only [Bool.false_or, Bool.or_false]
                  rw [anyN_no]
                  intro t ht
                  exact hM.out t (by omega)
            · have hFO := Lib.hid (show formR meetR betweenW l = false from (by have h := hK.out; rw [show k = l.length by omega] at h; exact h))
              have hT := HT.out
              rw [if_neg (by rw [hFO.out]; decide)] at hT
              go_wp2
              go_ret
              exact ⟨ret_int hT, by (repeat (first | with_reducible exact Ext.rfl' _ | with_reducible assumption | with_reducible refine Ext.al ?_ _ | with_reducible refine Ext.dr ?_ | with_reducible refine Ext.st ?_ (by simp) _ | with_reducible refine Ext.tr ?_ (by assumption)))⟩
end Go.Proofs.YtgnakeemcccfjaaGreat

/- The contract of isHeld. The contract of CheckSlump. -/
import Derived.Test.YtdbabihjnhnnfaaGreatSckb
import Derived.Test.YtdbabihjnhnnfaaGreatSsteep
import Derived.Test.YtdbabihjnhnnfaaGreatSallow
import Derived.Test.YtdbabihjnhnnfaaGreatSprf
import Derived.WalkMore
import Derived.Test.YtdbabihjnhnnfaaGreatSprv
import Derived.Test.YtdbabihjnhnnfaaGreatSrsteep

namespace Go.Proofs.YtdbabihjnhnnfaaGreat
open Go Go.RowKit Go.IntWalk

/-- Cell j holds cell i. -/
def hsF (L : List Int) (al : Nat → Nat → Int) (i j : Nat) : Bool := knB L j && decide (gi L i - gi L j = al i j)
/-- Cell i has another level than in M, and no neighbour holds it. -/
def nhF (L M : List Int) (al : Nat → Nat → Int) (nb : Nat → List Nat) (i : Nat) : Bool := !decide (gi L i = gi M i) && !anyN (fun k => hsF L al i (el (nb i) k)) (nb i).length
set_option maxHeartbeats 16000000 in
set_option maxRecDepth 100000 in
theorem held_c (g M : Gr) (cn rn : Nat) (r : List Int) (w : World) (A B C : Option Addr) (c d e0 : Nat) (h0 : chkG g = 0) (hm : chkG M = 0) (hC : g.C = cn) (hR : g.R = rn) (hrl : r.length = g.L.length) (hrv : ∀ i, i < g.L.length → 1 ≤ gi r i ∧ gi r i ≤ 1000) (hlen : M.L.length = g.L.length) (hA : Row 1 encZ w A g.L) (hB : Row 1 encZ w B r) (hM : Row 1 encZ w C M.L) :
    Calls Tryz.prog 22 #[.agg #[.int .i64 g.X, .int .i64 g.Y, .int .i64 g.S, .int .i64 g.C, .int .i64 g.R, .slice A g.L.length c, .slice B r.length d], .agg #[.int .i64 M.X, .int .i64 M.Y, .int .i64 M.S, .int .i64 M.C, .int .i64 M.R, .slice C M.L.length e0]] w fun e w' => e = .returned (.bool (!anyN (nhF g.L M.L (alw g.S r) (nbr cn rn)) g.L.length)) ∧ Ext w w' := by
  have vg := chkG_ok h0
  have vm := chkG_ok hm
  obtain ⟨cn', rn', e1, e2, e3, e4, e5, e6, e7, e8⟩ := vg.nat
  have hcc : cn' = cn := by omega
  have hrr : rn' = rn := by omega
  subst hcc hrr
  have hn : g.L.length ≤ 1024 := by omega
  have HNB := Lib.hid (fun k (hk : k < g.L.length) w' (hw : Ext w w') => sneigh_c g cn' rn' k w' A c e1 e2 (hA.ext hw) h0 hk)
  have HKG := Lib.hid (fun k (hk : k < g.L.length) w' (hw : Ext w w') => sKnown_c g k w' A c hk (by omega) (hA.ext hw))
  have HCA := Lib.hid (fun a b (ha : a < g.L.length) (hb : b < g.L.length) w' (hw : Ext w w') => allowed_c g r a b w' A B c d vg.hs (by omega) (by omega) (by omega) (hrv a ha) (hrv b hb) (hB.ext hw))
  have HAL := Lib.hid (fun a b (ha : a < g.L.length) (hb : b < g.L.length) => alw_pos vg.hs (hrv a ha) (hrv b hb))
  have HNL : Hid (∀ k, k < g.L.length → ∀ q ∈ nbr cn' rn' k, q < g.L.length) := Lib.hid (fun k hk q hq => by rw [e7]; exact nbr_lt e3 (by omega) hq)
  have HNN := Lib.hid (fun k => nbr_len cn' rn' k)
  have HLV := Lib.hid (fun k (hk : k < g.L.length) => (show -30000 ≤ gi g.L k ∧ gi g.L k ≤ 30000 by have := vg.lev k hk; omega))
  have HLN := Lib.hid hlen
  have HRA := Lib.hid hA
  have HRM := Lib.hid hM
  obtain ⟨N, hN⟩ : ∃ N, anyN (nhF g.L M.L (alw g.S r) (nbr cn' rn')) g.L.length = N := ⟨_, rfl⟩
  rw [hN]
  have HN := Lib.hid hN
  have HNH : Hid (∀ i, nhF g.L M.L (alw g.S r) (nbr cn' rn') i = (!decide (gi g.L i = gi M.L i) && !anyN (fun k => hsF g.L (alw g.S r) i (el (nbr cn' rn' i) k)) (nbr cn' rn' i).length)) := Lib.hid (fun _ => rfl)
  generalize alw g.S r = al at *
  generalize nbr cn' rn' = nb at *
  clear hN e1 e2 e3 e4 e5 e6 e7 e8 vg vm h0 hm hC hR hrv hA hB hM hrl hlen
  go_enter Tryz.func22, Tryz.ntmps22
  go_upto_region 1 with fail
  refine wp_name (fun W hW => ?_)
  have hEW : Ext w W := by rw [hW]; (repeat (first | with_reducible exact Ext.rfl' _ | with_reducible assumption | with_reducible refine Ext.al ?_ _ | with_reducible refine Ext.dr ?_ | with_reducible refine Ext.st ?_ (by simp) _ | with_reducible refine Ext.tr ?_ (by assumption)))
  have ks : CellsAt W w.heap.size 0 [.int .i64 g.X, .int .i64 g.Y, .int .i64 g.S, .int .i64 g.C, .int .i64 g.R, .slice A g.L.length c, .slice B r.length d] := by rw [hW]; refine cells_seven ⟨?_, ?_, ?_, ?_, ?_, ?_, ?_⟩ <;> simp [go_sem]
  have km : CellsAt W (w.heap.size + 1) 0 [.int .i64 M.X, .int .i64 M.Y, .int .i64 M.S, .int .i64 M.C, .int .i64 M.R, .slice C M.L.length e0] := by rw [hW]; refine cells_six ⟨?_, ?_, ?_, ?_, ?_, ?_⟩ <;> simp [go_sem]
  have zm : w.heap.size + 1 < W.heap.size := by rw [hW]; simp
  have zs : w.heap.size < W.heap.size := by omega
  clear hW
  obtain ⟨s0, s1, s2, s3, s4, s5, s6⟩ := ks.seven
  go_step3
  go_wp2
  go_step3
  go_wp2
  clear s0 s1 s2 s3 s4 s5 s6
  go_loopw [13] (fun i wr => Ext W wr ∧ ∃ k : Nat, k ≤ g.L.length ∧ i = .int .i64 k ∧ Hid (anyN (nhF g.L M.L al nb) k = false)) (fun i _ => g.L.length - (intOf i).toNat)
  case atStart => exact ⟨Ext.rfl' _, 0, Nat.zero_le _, rfl, rfl⟩
  case round =>
    obtain ⟨hr, k, hk, rfl, hF⟩ := hrel
    have hE := hEW.tr hr
    by_cases hlt : k < g.L.length
    · have hlm : k < M.L.length := by rw [HLN.out]; exact hlt
      have hkm : (k : Int) < (M.L.length : Int) := by omega
      obtain ⟨bA, oA, rfl, hbA, hcA⟩ := HRA.out.p1 hlt
      obtain ⟨bM, oM, rfl, hbM, hcM⟩ := HRM.out.p1 hlm
      have xa := hcA _ hE
      have xm := hcM _ hE
      rw [← gi_lt] at xa xm
      have ym := hr.sz _ zm
      have ys := hr.sz _ zs
      obtain ⟨m0, m1, m2, m3, m4, m5⟩ := (km.ext hr zm).six
      obtain ⟨s0, s1, s2, s3, s4, s5, s6⟩ := (ks.ext hr zs).seven
      have HX := Lib.hid (HNH.out k)
      clear hcA hcM
      have hbx := HLV.out k hlt
      by_cases hq : gi g.L k = gi M.L k
      · rw [decide_eq_true hq] at HX
        have HS : Hid (anyN (nhF g.L M.L al nb) (k + 1) = false) := Lib.hid (by show anyN _ (k + 1) = false; rw [anyN, hF.out, HX.out]; rfl)
        rw [← hq] at xm
        clear hq
        generalize gi g.L k = x at *
        go_wp2
        exact ⟨⟨by (repeat (first | with_reducible exact Ext.rfl' _ | with_reducible assumption | with_reducible refine Ext.al ?_ _ | with_reducible refine Ext.dr ?_ | with_reducible refine Ext.st ?_ (by simp) _ | with_reducible refine Ext.tr ?_ (by assumption))), k + 1, by omega, by go_num, HS⟩, by simp [intOf]; omega⟩
      · rw [decide_eq_false hq] at HX
        have HB := Lib.hid (fun w' (hw : Ext wr w') => HNB.out k hlt w' (hE.tr hw))
        have HST : Hid (∀ b, anyN (fun j => hsF g.L al k (el (nb k) j)) (nb k).length = b → nhF g.L M.L al nb k = !b) := Lib.hid (fun b hb => by rw [HX.out, hb]; rfl)
        have hNk := HNN.out k
        have HNQ := Lib.hid (HNL.out k hlt)
        have HHS : Hid (∀ j, hsF g.L al k (el (nb k) j) = (knB g.L (el (nb k) j) && decide (gi g.L k - gi g.L (el (nb k) j) = al k (el (nb k) j)))) := Lib.hid (fun _ => rfl)
        generalize hNB : nb k = Q at *
        generalize hx : gi g.L k = x at *
        generalize gi M.L k = y at *
        go_upto_region 6 with (first | (go_at_call 47; (with_reducible refine Calls.mono (HB.out _ (by (repeat (first | with_reducible exact Ext.rfl' _ | with_reducible assumption | with_reducible refine Ext.al ?_ _ | with_reducible refine Ext.dr ?_ | with_reducible refine Ext.st ?_ (by simp) _ | with_reducible refine Ext.tr ?_ (by assumption))))) ?_); rintro e w3 ⟨⟨A3, c3, rfl, hR3⟩, hb⟩; have hc := hb.ccell; have hf := hb.frz; have hs := hb.sz; (try simp at hs); (try have t0 := hs (w.heap.size) (by first | assumption | omega)); (try have t1 := hs (w.heap.size + 1) (by first | assumption | omega)); (try have t2 := hs (w.heap.size) (by first | assumption | omega)); (try have t3 := hs (bA) (by first | assumption | omega)); (try have t4 := hs (bM) (by first | assumption | omega)); (try have t5 := hs (w.heap.size) (by first | assumption | omega))))
        have hE3 : Ext wr w3 := by (repeat (first | with_reducible exact Ext.rfl' _ | with_reducible assumption | with_reducible refine Ext.al ?_ _ | with_reducible refine Ext.dr ?_ | with_reducible refine Ext.st ?_ (by simp) _ | with_reducible refine Ext.tr ?_ (by assumption)))
        have hRQ := Lib.hid hR3
        have zs3 := hE3.sz _ ys
        have ks3 := (ks.ext hr zs).ext hE3 ys
        have hr3 := hr.tr hE3
        clear hb hc hf hs t0 t1 t2 t3 t4 t5 hR3 m0 m1 m2 m3 m4 m5 s0 s1 s2 s3 s4 s5 s6 HB xa xm ym
        go_loopw [30] (fun s wr => Ext w3 wr ∧ ∃ j : Nat, j ≤ Q.length ∧ s = .int .i64 j ∧ Hid (anyN (fun q => hsF g.L al k (el Q q)) j = false)) (fun s _ => Q.length - (intOf s).toNat)
        case atStart => exact ⟨by (repeat (first | with_reducible exact Ext.rfl' _ | with_reducible assumption | with_reducible refine Ext.al ?_ _ | with_reducible refine Ext.dr ?_ | with_reducible refine Ext.st ?_ (by simp) _ | with_reducible refine Ext.tr ?_ (by assumption))), 0, Nat.zero_le _, rfl, rfl⟩
        case round =>
          obtain ⟨hI, j, hj, rfl, hG⟩ := hrel
          have hrI := hr3.tr hI
          have hEI := hEW.tr hrI
          by_cases hjl : j < Q.length
          · obtain ⟨b3, o3, rfl, hb3, hc3⟩ := hRQ.out.p1 (k := j) (by rw [zl_len]; exact hjl)
            have x3 := hc3 _ hI
            have hz : (zl Q)[j]'(by rw [zl_len]; exact hjl) = ((el Q j : Nat) : Int) := by rw [el_lt _ _ hjl]; simp [zl]
            rw [hz] at x3
            have hmem : el Q j ∈ Q := by rw [el_lt _ _ hjl]; exact List.getElem_mem hjl
            have hqn := HNQ.out _ hmem
            have HJ := Lib.hid (HHS.out j)
            have HGS : Hid (∀ b, hsF g.L al k (el Q j) = b → anyN (fun q => hsF g.L al k (el Q q)) (j + 1) = b) := Lib.hid (fun b hb => by rw [anyN, hG.out]; simpa using hb)
            have hjq : (j : Int) < (Q.length : Int) := by omega
            have HFU : Hid (hsF g.L al k (el Q j) = true → anyN (fun q => hsF g.L al k (el Q q)) Q.length = true) := Lib.hid (fun h => anyN_at (fun q => hsF g.L al k (el Q q)) hjl h)
            generalize hq : el Q j = q at *
            obtain ⟨b4, o4, hA4, hb4, hc4⟩ := HRA.out.p1 hqn
            injection hA4 with hA4
            injection hA4 with h5 h6
            subst h5 h6
            have x4 := hc4 _ hEI
            rw [← gi_lt] at x4
            have HKq := Lib.hid (fun w' (hw : Ext wr w') => HKG.out q hqn w' (hEI.tr hw))
            have HCq := Lib.hid (fun w' (hw : Ext wr w') => HCA.out k q hlt hqn w' (hEI.tr hw))
            have hbq := HLV.out q hqn
            have hqi : (q : Int) < (g.L.length : Int) := by omega
            have y4 := hEI.sz _ hb4
            have ysI := hI.sz _ zs3
            obtain ⟨s0, s1, s2, s3, s4, s5, s6⟩ := (ks3.ext hI zs3).seven
            clear hc3 hc4 hz hmem hq
            cases hkq : knB g.L q
            · rw [hkq] at HKq HJ
              have HNo := Lib.hid (HGS.out false (by rw [HJ.out]; rfl))
              clear hkq
              go_upto_region 8 with fail
              refine region_grow (by kernel_rfl) (by kernel_rfl) ?_
              repeat (first | go_big_quiet_step (first | (go_at_call 44; with_reducible exact callsGrow (HKq.out _ (Grow.ok _))) | fail) | quiet_step (first | (go_at_call 44; with_reducible exact callsGrow (HKq.out _ (Grow.ok _))) | fail))
              refine wpQuiet_nil ?_
              intro w1 hb
              have hc := hb.ccell
              have hf := hb.frz
              have hs := hb.sz
              (try simp at hs); (try have hs0 := hs w.heap.size (by omega)); (try have hs1 := hs (w.heap.size + 1) (by omega)); (try have hs2 := hs (w.heap.size + 1 + 1) (by omega)); (try have hs3 := hs (w.heap.size + 1 + 1 + 1) (by omega))
              (try simp only [IntWalk.i64_left])
              go_wp2
              exact ⟨⟨by (repeat (first | with_reducible exact Ext.rfl' _ | with_reducible assumption | with_reducible refine Ext.al ?_ _ | with_reducible refine Ext.dr ?_ | with_reducible refine Ext.st ?_ (by simp) _ | with_reducible refine Ext.tr ?_ (by assumption))), j + 1, by omega, by go_num, HNo⟩, by simp [intOf]; omega⟩
            · rw [hkq] at HKq HJ
              clear hkq
              generalize gi g.L q = z at *
              generalize al k q = a1 at *
              by_cases hd : x - z = a1
              · rw [decide_eq_true hd] at HJ
                have hNk : nhF g.L M.L al nb k = false := HST.out _ (HFU.out (by rw [HJ.out]; rfl))
                have HS : Hid (anyN (nhF g.L M.L al nb) (k + 1) = false) := Lib.hid (by show anyN _ (k + 1) = false; rw [anyN, hF.out, hNk]; rfl)
                have hb : (x - z == a1) = true := by simp [hd]
                clear hNk hd
                go_upto_region 8 with fail
                refine region_grow (by kernel_rfl) (by kernel_rfl) ?_
                repeat (first | go_big_quiet_step (first | (go_at_call 44; with_reducible exact callsGrow (HKq.out _ (Grow.ok _))) | (go_at_call 46; with_reducible exact callsGrow (HCq.out _ (Grow.ok _))) | fail) | quiet_step (first | (go_at_call 44; with_reducible exact callsGrow (HKq.out _ (Grow.ok _))) | (go_at_call 46; with_reducible exact callsGrow (HCq.out _ (Grow.ok _))) | fail))
                refine wpQuiet_nil ?_
                intro w1 hb
                have hc := hb.ccell
                have hf := hb.frz
                have hs := hb.sz
                (try simp at hs); (try have hs0 := hs w.heap.size (by omega)); (try have hs1 := hs (w.heap.size + 1) (by omega)); (try have hs2 := hs (w.heap.size + 1 + 1) (by omega)); (try have hs3 := hs (w.heap.size + 1 + 1 + 1) (by omega))
                (try simp only [IntWalk.i64_left])
                go_wp2
                exact ⟨⟨by (repeat (first | with_reducible exact Ext.rfl' _ | with_reducible assumption | with_reducible refine Ext.al ?_ _ | with_reducible refine Ext.dr ?_ | with_reducible refine Ext.st ?_ (by simp) _ | with_reducible refine Ext.tr ?_ (by assumption))), k + 1, by omega, by go_num, HS⟩, by simp [intOf]; omega⟩
              · rw [decide_eq_false hd] at HJ
                have HNo := Lib.hid (HGS.out false (by rw [HJ.out]; rfl))
                have hb : (x - z == a1) = false := by simp [hd]
                clear hd
                go_upto_region 8 with fail
                refine region_grow (by kernel_rfl) (by kernel_rfl) ?_
                repeat (first | go_big_quiet_step (first | (go_at_call 44; with_reducible exact callsGrow (HKq.out _ (Grow.ok _))) | (go_at_call 46; with_reducible exact callsGrow (HCq.out _ (Grow.ok _))) | fail) | quiet_step (first | (go_at_call 44; with_reducible exact callsGrow (HKq.out _ (Grow.ok _))) | (go_at_call 46; with_reducible exact callsGrow (HCq.out _ (Grow.ok _))) | fail))
                refine wpQuiet_nil ?_
                intro w1 hb
                have hc := hb.ccell
                have hf := hb.frz
                have hs := hb.sz
                (try simp at hs); (try have hs0 := hs w.heap.size (by omega)); (try have hs1 := hs (w.heap.size + 1) (by omega)); (try have hs2 := hs (w.heap.size + 1 + 1) (by omega)); (try have hs3 := hs (w.heap.size + 1 + 1 + 1) (by omega))
                (try simp only [IntWalk.i64_left])
                go_wp2
                exact ⟨⟨by (repeat (first | with_reducible exact Ext.rfl' _ | with_reducible assumption | with_reducible refine Ext.al ?_ _ | with_reducible refine Ext.dr ?_ | with_reducible refine Ext.st ?_ (by simp) _ | with_reducible refine Ext.tr ?_ (by assumption))), j + 1, by omega, by go_num, HNo⟩, by simp [intOf]; omega⟩
          · have hjs : j = Q.length := by omega
            subst hjs
            have hNk : nhF g.L M.L al nb k = true := HST.out _ hG.out
            have HT : Hid ((!N) = false) := Lib.hid (by rw [← HN.out, anyN_at _ hlt hNk]; rfl)
            go_wp2
            rw [Exit.noGoto_ret]
            go_ret
            exact ⟨ret_bool HT.out.symm, hEI⟩
    · have hks : k = g.L.length := by omega
      subst hks
      have HT : Hid ((!N) = true) := Lib.hid (by rw [← HN.out, hF.out]; rfl)
      go_wp2
      rw [Exit.noGoto_ret]
      go_ret
      exact ⟨ret_bool HT.out.symm, hE⟩
end Go.Proofs.YtdbabihjnhnnfaaGreat

namespace Go.Proofs.YtdbabihjnhnnfaaGreat
open Go Go.RowKit Go.IntWalk

/-- The steep pairs of a bed. -/
def stZ (soils : List So) (bos : List Bo) (a : Gr) (cn : Nat) : List St := stN a.L (alw a.S (rL soils bos a cn)) (prsN cn a.L.length (knB a.L) a.L.length) (prsN cn a.L.length (knB a.L) a.L.length).length
/-- Whether a is accepted as the bed to which m slumps. -/
def okS (soils : List So) (bos : List Bo) (m a : Gr) (cn rn : Nat) : Bool := !anyN (lwF m a) m.L.length && (decide ((stZ soils bos a cn).length = 0) && !anyN (nhF a.L m.L (alw a.S (rL soils bos a cn)) (nbr cn rn)) a.L.length)
set_option maxHeartbeats 8000000 in
theorem checkSlump_err (soils : List So) (bos : List Bo) (m a : Gr) (w : World) (AS AB A B : Option Addr) (cS cB c d : Nat) (gw : GrW w soils AS bos AB) (hl : m.L.length ≤ maxLen) (hm : a.L.length ≤ maxLen) (hA : Row 1 encZ w A m.L) (hB : Row 1 encZ w B a.L) (h0 : cb2E soils bos m a ≠ 0) :
    Calls Tryz.prog 7 #[.agg #[.slice AS soils.length cS, .slice AB bos.length cB], .agg #[.int .i64 m.X, .int .i64 m.Y, .int .i64 m.S, .int .i64 m.C, .int .i64 m.R, .slice A m.L.length c], .agg #[.int .i64 a.X, .int .i64 a.Y, .int .i64 a.S, .int .i64 a.C, .int .i64 a.R, .slice B a.L.length d]] w fun e w' => e = .returned (.int .i64 (cb2E soils bos m a)) ∧ Ext w w' := by
  have HC := Lib.hid (fun w' (hw : Ext w w') => checkBeds_c soils bos m a w' AS AB A B cS cB c d (gw.ext hw) hl hm (hA.ext hw) (hB.ext hw))
  have h0' : (cb2E soils bos m a != 0) = true := by simp [h0]
  generalize cb2E soils bos m a = E at *
  clear gw hl hm hA hB h0
  go_enter Tryz.func7, Tryz.ntmps7
  go_wp2_with (first | (go_at_call 18; with_reducible refine Calls.mono (HC.out _ (by (repeat (first | with_reducible exact Ext.rfl' _ | with_reducible assumption | with_reducible refine Ext.al ?_ _ | with_reducible refine Ext.dr ?_ | with_reducible refine Ext.st ?_ (by simp) _ | with_reducible refine Ext.tr ?_ (by assumption))))) ?_; rintro e w1 ⟨rfl, hb⟩; have hc := hb.ccell; have hf := hb.frz; have hs := hb.sz; (try simp at hs); (try have t0 := hs (w.heap.size) (by first | assumption | omega)); (try have t1 := hs (w.heap.size + 1) (by first | assumption | omega)); (try have t2 := hs (w.heap.size + 1 + 1) (by first | assumption | omega)); (try have t3 := hs (w.heap.size) (by first | assumption | omega)); (try have t4 := hs (w.heap.size) (by first | assumption | omega)); (try have t5 := hs (w.heap.size) (by first | assumption | omega))))
  go_ret
  exact ⟨rfl, by (repeat (first | with_reducible exact Ext.rfl' _ | with_reducible assumption | with_reducible refine Ext.al ?_ _ | with_reducible refine Ext.dr ?_ | with_reducible refine Ext.st ?_ (by simp) _ | with_reducible refine Ext.tr ?_ (by assumption)))⟩
set_option maxHeartbeats 16000000 in
set_option maxRecDepth 100000 in
theorem checkSlump_ok (soils : List So) (bos : List Bo) (m a : Gr) (cn rn : Nat) (w : World) (AS AB A B : Option Addr) (cS cB c d : Nat) (gw : GrW w soils AS bos AB) (v : VGd soils bos) (hg : chkG m = 0) (hk : chkG a = 0) (hlen : a.L.length = m.L.length) (hC : a.C = cn) (hR : a.R = rn) (hl : m.L.length ≤ maxLen) (hm : a.L.length ≤ maxLen) (hA : Row 1 encZ w A m.L) (hB : Row 1 encZ w B a.L) (h0 : cb2E soils bos m a = 0) :
    Calls Tryz.prog 7 #[.agg #[.slice AS soils.length cS, .slice AB bos.length cB], .agg #[.int .i64 m.X, .int .i64 m.Y, .int .i64 m.S, .int .i64 m.C, .int .i64 m.R, .slice A m.L.length c], .agg #[.int .i64 a.X, .int .i64 a.Y, .int .i64 a.S, .int .i64 a.C, .int .i64 a.R, .slice B a.L.length d]] w fun e w' => e = .returned (.int .i64 (if okS soils bos m a cn rn = true then 0 else 21)) ∧ Ext w w' := by
  have HC := Lib.hid (fun w' (hw : Ext w w') => checkBeds_c soils bos m a w' AS AB A B cS cB c d (gw.ext hw) hl hm (hA.ext hw) (hB.ext hw))
  rw [h0] at HC
  have vg := chkG_ok hk
  have hn : m.L.length ≤ 1024 := by obtain ⟨_, _, _, _, _, _, _, _, e7, e8⟩ := vg.nat; omega
  have HSO := Lib.hid (fun w' (hw : Ext w w') => slopesOf_c soils bos a cn w' AS AB B cS cB d (gw.ext hw) v hk hC (hB.ext hw))
  have hrl : (rL soils bos a cn).length = a.L.length := by unfold rL; rw [mkI_len]
  have hrv : ∀ i, i < a.L.length → 1 ≤ gi (rL soils bos a cn) i ∧ gi (rL soils bos a cn) i ≤ 1000 := by
    intro i hi
    rw [gi_mkI_rF _ _ _ _ _ hi]
    exact runB_pos v _ _
  have HLO := Lib.hid (fun w' (hw : Ext w w') => low_c m a w' A B c d hn hlen (hA.ext hw) (hB.ext hw))
  have HST := Lib.hid (fun w' B2 d2 (hw : Ext w w') hB2 => (steeps_c a cn rn (rL soils bos a cn) w' B B2 d d2 vg hC hR hrl hrv (hB.ext hw) hB2).mono fun e w'' h => (⟨by obtain ⟨⟨A4, c4, he, _⟩, _⟩ := h; exact ⟨A4, c4, he⟩, h.2⟩ : (∃ A4 c4, e = .returned (.slice A4 (stN a.L (alw a.S (rL soils bos a cn)) (prsN cn a.L.length (knB a.L) a.L.length) (prsN cn a.L.length (knB a.L) a.L.length).length).length c4)) ∧ Ext w' w''))
  have HHE := Lib.hid (fun w' B2 d2 (hw : Ext w w') hB2 => held_c a m cn rn (rL soils bos a cn) w' B B2 A d d2 c hk hg hC hR hrl hrv (by omega) (hB.ext hw) hB2 (hA.ext hw))
  unfold okS stZ
  generalize stN a.L (alw a.S (rL soils bos a cn)) (prsN cn a.L.length (knB a.L) a.L.length) (prsN cn a.L.length (knB a.L) a.L.length).length = R0 at *
  generalize R0.length = R at *
  generalize anyN (lwF m a) m.L.length = b1 at *
  generalize anyN (nhF a.L m.L (alw a.S (rL soils bos a cn)) (nbr cn rn)) a.L.length = b3 at *
  generalize rL soils bos a cn = r at *
  clear gw v hg hk hlen hC hR hl hm hA hB h0 vg hn hrl hrv
  cases b1
  case true =>
    go_enter Tryz.func7, Tryz.ntmps7
    go_wp2_with (first | (go_at_call 18; with_reducible refine Calls.mono (HC.out _ (by (repeat (first | with_reducible exact Ext.rfl' _ | with_reducible assumption | with_reducible refine Ext.al ?_ _ | with_reducible refine Ext.dr ?_ | with_reducible refine Ext.st ?_ (by simp) _ | with_reducible refine Ext.tr ?_ (by assumption))))) ?_; rintro e w1 ⟨rfl, hb⟩; have hc := hb.ccell; have hf := hb.frz; have hs := hb.sz; (try simp at hs); (try have t0 := hs (w.heap.size) (by first | assumption | omega)); (try have t1 := hs (w.heap.size + 1) (by first | assumption | omega)); (try have t2 := hs (w.heap.size + 1 + 1) (by first | assumption | omega)); (try have t3 := hs (w.heap.size) (by first | assumption | omega)); (try have t4 := hs (w.heap.size) (by first | assumption | omega)); (try have t5 := hs (w.heap.size) (by first | assumption | omega))) | (go_at_call 19; (with_reducible refine Calls.mono (HSO.out _ (by (repeat (first | with_reducible exact Ext.rfl' _ | with_reducible assumption | with_reducible refine Ext.al ?_ _ | with_reducible refine Ext.dr ?_ | with_reducible refine Ext.st ?_ (by simp) _ | with_reducible refine Ext.tr ?_ (by assumption))))) ?_); rintro e w2 ⟨⟨B2, d2, rfl, hN2⟩, hb⟩; have hc := hb.ccell; have hf := hb.frz; have hs := hb.sz; (try simp at hs); (try have t0 := hs (w.heap.size) (by first | assumption | omega)); (try have t1 := hs (w.heap.size + 1) (by first | assumption | omega)); (try have t2 := hs (w.heap.size + 1 + 1) (by first | assumption | omega)); (try have t3 := hs (w.heap.size) (by first | assumption | omega)); (try have t4 := hs (w.heap.size) (by first | assumption | omega)); (try have t5 := hs (w.heap.size) (by first | assumption | omega))) | (go_at_call 20; with_reducible refine Calls.mono (HLO.out _ (by (repeat (first | with_reducible exact Ext.rfl' _ | with_reducible assumption | with_reducible refine Ext.al ?_ _ | with_reducible refine Ext.dr ?_ | with_reducible refine Ext.st ?_ (by simp) _ | with_reducible refine Ext.tr ?_ (by assumption))))) ?_; rintro e w3 ⟨rfl, hb⟩; have hc := hb.ccell; have hf := hb.frz; have hs := hb.sz; (try simp at hs); (try have t0 := hs (w.heap.size) (by first | assumption | omega)); (try have t1 := hs (w.heap.size + 1) (by first | assumption | omega)); (try have t2 := hs (w.heap.size + 1 + 1) (by first | assumption | omega)); (try have t3 := hs (w2.heap.size) (by first | assumption | omega)); (try have t4 := hs (w.heap.size) (by first | assumption | omega)); (try have t5 := hs (w.heap.size) (by first | assumption | omega))))
    go_ret
    exact ⟨by simp, by (repeat (first | with_reducible exact Ext.rfl' _ | with_reducible assumption | with_reducible refine Ext.al ?_ _ | with_reducible refine Ext.dr ?_ | with_reducible refine Ext.st ?_ (by simp) _ | with_reducible refine Ext.tr ?_ (by assumption)))⟩
  case false =>
    by_cases hz : R = 0
    case neg =>
      have hz' : (0 : Int) < (R : Int) := by omega
      have hz1 : 0 < R := by omega
      have HD : Hid (decide (R = 0) = false) := Lib.hid (decide_eq_false hz)
      clear hz
      go_enter Tryz.func7, Tryz.ntmps7
      go_wp2_with (first | (go_at_call 18; with_reducible refine Calls.mono (HC.out _ (by (repeat (first | with_reducible exact Ext.rfl' _ | with_reducible assumption | with_reducible refine Ext.al ?_ _ | with_reducible refine Ext.dr ?_ | with_reducible refine Ext.st ?_ (by simp) _ | with_reducible refine Ext.tr ?_ (by assumption))))) ?_; rintro e w1 ⟨rfl, hb⟩; have hc := hb.ccell; have hf := hb.frz; have hs := hb.sz; (try simp at hs); (try have t0 := hs (w.heap.size) (by first | assumption | omega)); (try have t1 := hs (w.heap.size + 1) (by first | assumption | omega)); (try have t2 := hs (w.heap.size + 1 + 1) (by first | assumption | omega)); (try have t3 := hs (w.heap.size) (by first | assumption | omega)); (try have t4 := hs (w.heap.size) (by first | assumption | omega)); (try have t5 := hs (w.heap.size) (by first | assumption | omega))) | (go_at_call 19; (with_reducible refine Calls.mono (HSO.out _ (by (repeat (first | with_reducible exact Ext.rfl' _ | with_reducible assumption | with_reducible refine Ext.al ?_ _ | with_reducible refine Ext.dr ?_ | with_reducible refine Ext.st ?_ (by simp) _ | with_reducible refine Ext.tr ?_ (by assumption))))) ?_); rintro e w2 ⟨⟨B2, d2, rfl, hN2⟩, hb⟩; have hc := hb.ccell; have hf := hb.frz; have hs := hb.sz; (try simp at hs); (try have t0 := hs (w.heap.size) (by first | assumption | omega)); (try have t1 := hs (w.heap.size + 1) (by first | assumption | omega)); (try have t2 := hs (w.heap.size + 1 + 1) (by first | assumption | omega)); (try have t3 := hs (w.heap.size) (by first | assumption | omega)); (try have t4 := hs (w.heap.size) (by first | assumption | omega)); (try have t5 := hs (w.heap.size) (by first | assumption | omega))) | (go_at_call 20; with_reducible refine Calls.mono (HLO.out _ (by (repeat (first | with_reducible exact Ext.rfl' _ | with_reducible assumption | with_reducible refine Ext.al ?_ _ | with_reducible refine Ext.dr ?_ | with_reducible refine Ext.st ?_ (by simp) _ | with_reducible refine Ext.tr ?_ (by assumption))))) ?_; rintro e w3 ⟨rfl, hb⟩; have hc := hb.ccell; have hf := hb.frz; have hs := hb.sz; (try simp at hs); (try have t0 := hs (w.heap.size) (by first | assumption | omega)); (try have t1 := hs (w.heap.size + 1) (by first | assumption | omega)); (try have t2 := hs (w.heap.size + 1 + 1) (by first | assumption | omega)); (try have t3 := hs (w2.heap.size) (by first | assumption | omega)); (try have t4 := hs (w.heap.size) (by first | assumption | omega)); (try have t5 := hs (w.heap.size) (by first | assumption | omega))) | (go_at_call 21; (with_reducible refine Calls.mono (HST.out _ _ _ (by (repeat (first | with_reducible exact Ext.rfl' _ | with_reducible assumption | with_reducible refine Ext.al ?_ _ | with_reducible refine Ext.dr ?_ | with_reducible refine Ext.st ?_ (by simp) _ | with_reducible refine Ext.tr ?_ (by assumption)))) (hN2.row.ext (by (repeat (first | with_reducible exact Ext.rfl' _ | with_reducible assumption | with_reducible refine Ext.al ?_ _ | with_reducible refine Ext.dr ?_ | with_reducible refine Ext.st ?_ (by simp) _ | with_reducible refine Ext.tr ?_ (by assumption)))))) ?_); rintro e w4 ⟨⟨A4, c4, rfl⟩, hb⟩; have hc := hb.ccell; have hf := hb.frz; have hs := hb.sz; (try simp at hs); (try have t0 := hs (w.heap.size) (by first | assumption | omega)); (try have t1 := hs (w.heap.size + 1) (by first | assumption | omega)); (try have t2 := hs (w.heap.size + 1 + 1) (by first | assumption | omega)); (try have t3 := hs (w2.heap.size) (by first | assumption | omega)); (try have t4 := hs (w.heap.size) (by first | assumption | omega)); (try have t5 := hs (w.heap.size) (by first | assumption | omega))))
      all_goals first | (exfalso; omega) | (go_ret; exact ⟨ret_int (by first | rfl | (rw [HD.out]; simp)), by (repeat (first | with_reducible exact Ext.rfl' _ | with_reducible assumption | with_reducible refine Ext.al ?_ _ | with_reducible refine Ext.dr ?_ | with_reducible refine Ext.st ?_ (by simp) _ | with_reducible refine Ext.tr ?_ (by assumption)))⟩)
    subst hz
    cases b3
    · go_enter Tryz.func7, Tryz.ntmps7
      go_wp2_with (first | (go_at_call 18; with_reducible refine Calls.mono (HC.out _ (by (repeat (first | with_reducible exact Ext.rfl' _ | with_reducible assumption | with_reducible refine Ext.al ?_ _ | with_reducible refine Ext.dr ?_ | with_reducible refine Ext.st ?_ (by simp) _ | with_reducible refine Ext.tr ?_ (by assumption))))) ?_; rintro e w1 ⟨rfl, hb⟩; have hc := hb.ccell; have hf := hb.frz; have hs := hb.sz; (try simp at hs); (try have t0 := hs (w.heap.size) (by first | assumption | omega)); (try have t1 := hs (w.heap.size + 1) (by first | assumption | omega)); (try have t2 := hs (w.heap.size + 1 + 1) (by first | assumption | omega)); (try have t3 := hs (w.heap.size) (by first | assumption | omega)); (try have t4 := hs (w.heap.size) (by first | assumption | omega)); (try have t5 := hs (w.heap.size) (by first | assumption | omega))) | (go_at_call 19; (with_reducible refine Calls.mono (HSO.out _ (by (repeat (first | with_reducible exact Ext.rfl' _ | with_reducible assumption | with_reducible refine Ext.al ?_ _ | with_reducible refine Ext.dr ?_ | with_reducible refine Ext.st ?_ (by simp) _ | with_reducible refine Ext.tr ?_ (by assumption))))) ?_); rintro e w2 ⟨⟨B2, d2, rfl, hN2⟩, hb⟩; have hc := hb.ccell; have hf := hb.frz; have hs := hb.sz; (try simp at hs); (try have t0 := hs (w.heap.size) (by first | assumption | omega)); (try have t1 := hs (w.heap.size + 1) (by first | assumption | omega)); (try have t2 := hs (w.heap.size + 1 + 1) (by first | assumption | omega)); (try have t3 := hs (w.heap.size) (by first | assumption | omega)); (try have t4 := hs (w.heap.size) (by first | assumption | omega)); (try have t5 := hs (w.heap.size) (by first | assumption | omega))) | (go_at_call 20; with_reducible refine Calls.mono (HLO.out _ (by (repeat (first | with_reducible exact Ext.rfl' _ | with_reducible assumption | with_reducible refine Ext.al ?_ _ | with_reducible refine Ext.dr ?_ | with_reducible refine Ext.st ?_ (by simp) _ | with_reducible refine Ext.tr ?_ (by assumption))))) ?_; rintro e w3 ⟨rfl, hb⟩; have hc := hb.ccell; have hf := hb.frz; have hs := hb.sz; (try simp at hs); (try have t0 := hs (w.heap.size) (by first | assumption | omega)); (try have t1 := hs (w.heap.size + 1) (by first | assumption | omega)); (try have t2 := hs (w.heap.size + 1 + 1) (by first | assumption | omega)); (try have t3 := hs (w2.heap.size) (by first | assumption | omega)); (try have t4 := hs (w.heap.size) (by first | assumption | omega)); (try have t5 := hs (w.heap.size) (by first | assumption | omega))) | (go_at_call 21; (with_reducible refine Calls.mono (HST.out _ _ _ (by (repeat (first | with_reducible exact Ext.rfl' _ | with_reducible assumption | with_reducible refine Ext.al ?_ _ | with_reducible refine Ext.dr ?_ | with_reducible refine Ext.st ?_ (by simp) _ | with_reducible refine Ext.tr ?_ (by assumption)))) (hN2.row.ext (by (repeat (first | with_reducible exact Ext.rfl' _ | with_reducible assumption | with_reducible refine Ext.al ?_ _ | with_reducible refine Ext.dr ?_ | with_reducible refine Ext.st ?_ (by simp) _ | with_reducible refine Ext.tr ?_ (by assumption)))))) ?_); rintro e w4 ⟨⟨A4, c4, rfl⟩, hb⟩; have hc := hb.ccell; have hf := hb.frz; have hs := hb.sz; (try simp at hs); (try have t0 := hs (w.heap.size) (by first | assumption | omega)); (try have t1 := hs (w.heap.size + 1) (by first | assumption | omega)); (try have t2 := hs (w.heap.size + 1 + 1) (by first | assumption | omega)); (try have t3 := hs (w2.heap.size) (by first | assumption | omega)); (try have t4 := hs (w.heap.size) (by first | assumption | omega)); (try have t5 := hs (w.heap.size) (by first | assumption | omega))) | (go_at_call 22; with_reducible refine Calls.mono (HHE.out _ _ _ (by (repeat (first | with_reducible exact Ext.rfl' _ | with_reducible assumption | with_reducible refine Ext.al ?_ _ | with_reducible refine Ext.dr ?_ | with_reducible refine Ext.st ?_ (by simp) _ | with_reducible refine Ext.tr ?_ (by assumption)))) (hN2.row.ext (by (repeat (first | with_reducible exact Ext.rfl' _ | with_reducible assumption | with_reducible refine Ext.al ?_ _ | with_reducible refine Ext.dr ?_ | with_reducible refine Ext.st ?_ (by simp) _ | with_reducible refine Ext.tr ?_ (by assumption)))))) ?_; rintro e w5 ⟨rfl, hb⟩; have hc := hb.ccell; have hf := hb.frz; have hs := hb.sz; (try simp at hs); (try have t0 := hs (w.heap.size) (by first | assumption | omega)); (try have t1 := hs (w.heap.size + 1) (by first | assumption | omega)); (try have t2 := hs (w.heap.size + 1 + 1) (by first | assumption | omega)); (try have t3 := hs (w2.heap.size) (by first | assumption | omega)); (try have t4 := hs (w.heap.size) (by first | assumption | omega)); (try have t5 := hs (w.heap.size) (by first | assumption | omega))))
      go_ret
      exact ⟨by simp, by (repeat (first | with_reducible exact Ext.rfl' _ | with_reducible assumption | with_reducible refine Ext.al ?_ _ | with_reducible refine Ext.dr ?_ | with_reducible refine Ext.st ?_ (by simp) _ | with_reducible refine Ext.tr ?_ (by assumption)))⟩
    · go_enter Tryz.func7, Tryz.ntmps7
      go_wp2_with (first | (go_at_call 18; with_reducible refine Calls.mono (HC.out _ (by (repeat (first | with_reducible exact Ext.rfl' _ | with_reducible assumption | with_reducible refine Ext.al ?_ _ | with_reducible refine Ext.dr ?_ | with_reducible refine Ext.st ?_ (by simp) _ | with_reducible refine Ext.tr ?_ (by assumption))))) ?_; rintro e w1 ⟨rfl, hb⟩; have hc := hb.ccell; have hf := hb.frz; have hs := hb.sz; (try simp at hs); (try have t0 := hs (w.heap.size) (by first | assumption | omega)); (try have t1 := hs (w.heap.size + 1) (by first | assumption | omega)); (try have t2 := hs (w.heap.size + 1 + 1) (by first | assumption | omega)); (try have t3 := hs (w.heap.size) (by first | assumption | omega)); (try have t4 := hs (w.heap.size) (by first | assumption | omega)); (try have t5 := hs (w.heap.size) (by first | assumption | omega))) | (go_at_call 19; (with_reducible refine Calls.mono (HSO.out _ (by (repeat (first | with_reducible exact Ext.rfl' _ | with_reducible assumption | with_reducible refine Ext.al ?_ _ | with_reducible refine Ext.dr ?_ | with_reducible refine Ext.st ?_ (by simp) _ | with_reducible refine Ext.tr ?_ (by assumption))))) ?_); rintro e w2 ⟨⟨B2, d2, rfl, hN2⟩, hb⟩; have hc := hb.ccell; have hf := hb.frz; have hs := hb.sz; (try simp at hs); (try have t0 := hs (w.heap.size) (by first | assumption | omega)); (try have t1 := hs (w.heap.size + 1) (by first | assumption | omega)); (try have t2 := hs (w.heap.size + 1 + 1) (by first | assumption | omega)); (try have t3 := hs (w.heap.size) (by first | assumption | omega)); (try have t4 := hs (w.heap.size) (by first | assumption | omega)); (try have t5 := hs (w.heap.size) (by first | assumption | omega))) | (go_at_call 20; with_reducible refine Calls.mono (HLO.out _ (by (repeat (first | with_reducible exact Ext.rfl' _ | with_reducible assumption | with_reducible refine Ext.al ?_ _ | with_reducible refine Ext.dr ?_ | with_reducible refine Ext.st ?_ (by simp) _ | with_reducible refine Ext.tr ?_ (by assumption))))) ?_; rintro e w3 ⟨rfl, hb⟩; have hc := hb.ccell; have hf := hb.frz; have hs := hb.sz; (try simp at hs); (try have t0 := hs (w.heap.size) (by first | assumption | omega)); (try have t1 := hs (w.heap.size + 1) (by first | assumption | omega)); (try have t2 := hs (w.heap.size + 1 + 1) (by first | assumption | omega)); (try have t3 := hs (w2.heap.size) (by first | assumption | omega)); (try have t4 := hs (w.heap.size) (by first | assumption | omega)); (try have t5 := hs (w.heap.size) (by first | assumption | omega))) | (go_at_call 21; (with_reducible refine Calls.mono (HST.out _ _ _ (by (repeat (first | with_reducible exact Ext.rfl' _ | with_reducible assumption | with_reducible refine Ext.al ?_ _ | with_reducible refine Ext.dr ?_ | with_reducible refine Ext.st ?_ (by simp) _ | with_reducible refine Ext.tr ?_ (by assumption)))) (hN2.row.ext (by (repeat (first | with_reducible exact Ext.rfl' _ | with_reducible assumption | with_reducible refine Ext.al ?_ _ | with_reducible refine Ext.dr ?_ | with_reducible refine Ext.st ?_ (by simp) _ | with_reducible refine Ext.tr ?_ (by assumption)))))) ?_); rintro e w4 ⟨⟨A4, c4, rfl⟩, hb⟩; have hc := hb.ccell; have hf := hb.frz; have hs := hb.sz; (try simp at hs); (try have t0 := hs (w.heap.size) (by first | assumption | omega)); (try have t1 := hs (w.heap.size + 1) (by first | assumption | omega)); (try have t2 := hs (w.heap.size + 1 + 1) (by first | assumption | omega)); (try have t3 := hs (w2.heap.size) (by first | assumption | omega)); (try have t4 := hs (w.heap.size) (by first | assumption | omega)); (try have t5 := hs (w.heap.size) (by first | assumption | omega))) | (go_at_call 22; with_reducible refine Calls.mono (HHE.out _ _ _ (by (repeat (first | with_reducible exact Ext.rfl' _ | with_reducible assumption | with_reducible refine Ext.al ?_ _ | with_reducible refine Ext.dr ?_ | with_reducible refine Ext.st ?_ (by simp) _ | with_reducible refine Ext.tr ?_ (by assumption)))) (hN2.row.ext (by (repeat (first | with_reducible exact Ext.rfl' _ | with_reducible assumption | with_reducible refine Ext.al ?_ _ | with_reducible refine Ext.dr ?_ | with_reducible refine Ext.st ?_ (by simp) _ | with_reducible refine Ext.tr ?_ (by assumption)))))) ?_; rintro e w5 ⟨rfl, hb⟩; have hc := hb.ccell; have hf := hb.frz; have hs := hb.sz; (try simp at hs); (try have t0 := hs (w.heap.size) (by first | assumption | omega)); (try have t1 := hs (w.heap.size + 1) (by first | assumption | omega)); (try have t2 := hs (w.heap.size + 1 + 1) (by first | assumption | omega)); (try have t3 := hs (w2.heap.size) (by first | assumption | omega)); (try have t4 := hs (w.heap.size) (by first | assumption | omega)); (try have t5 := hs (w.heap.size) (by first | assumption | omega))))
      go_ret
      exact ⟨by simp, by (repeat (first | with_reducible exact Ext.rfl' _ | with_reducible assumption | with_reducible refine Ext.al ?_ _ | with_reducible refine Ext.dr ?_ | with_reducible refine Ext.st ?_ (by simp) _ | with_reducible refine Ext.tr ?_ (by assumption)))⟩
end Go.Proofs.YtdbabihjnhnnfaaGreat

/- SoilShares: the law returns true for every input. Conditions: none. -/
import Derived.Test.YtohdplnlbnoojaaSrsh
import Derived.Test.YtohdplnlbnoojaaSrefg
import Derived.Test.YtohdplnlbnoojaaSallow
import Derived.Test.YtohdplnlbnoojaaSslight
import Derived.Test.YtohdplnlbnoojaaSawake
namespace Go.Proofs.Ytohdplnlbnoojaa
open Go Go.RowKit Go.IntWalk

def shE (g h : Gr) : Int := if sameB g h = true then 0 else 10
set_option maxHeartbeats 2000000 in
theorem shape_c (g h : Gr) (w : World) (A B : Option Addr) (c d : Nat) :
    Calls Try.prog 34 #[.agg #[.int .i64 g.X, .int .i64 g.Y, .int .i64 g.S, .int .i64 g.C, .int .i64 g.R, .slice A g.L.length c], .agg #[.int .i64 h.X, .int .i64 h.Y, .int .i64 h.S, .int .i64 h.C, .int .i64 h.R, .slice B h.L.length d]] w fun e w' => e = .returned (.int .i64 (shE g h)) ∧ Ext w w' := by
  have HA := Lib.hid (fun w' => alike_c g h w' A B c d g.L.length h.L.length)
  unfold shE
  cases hs : sameB g h
  · rw [hs] at HA
    clear hs
    go_enter Try.func34, Try.ntmps34
    go_wp2_with (first | (go_at_call 50; with_reducible refine Calls.mono (HA.out _) ?_; rintro e w1 ⟨rfl, hb⟩; have hc := hb.ccell; have hf := hb.frz; have hs := hb.sz; (try simp at hs); (try have hs0 := hs w.heap.size (by omega)); (try have hs1 := hs (w.heap.size + 1) (by omega)); (try have hs2 := hs (w.heap.size + 1 + 1) (by omega)); (try have hs3 := hs (w.heap.size + 1 + 1 + 1) (by omega))))
    go_ret
    exact ⟨rfl, by (repeat (first | with_reducible exact Ext.rfl' _ | with_reducible assumption | with_reducible refine Ext.al ?_ _ | with_reducible refine Ext.dr ?_ | with_reducible refine Ext.st ?_ (by simp) _ | with_reducible refine Ext.tr ?_ (by assumption)))⟩
  · rw [hs] at HA
    clear hs
    go_enter Try.func34, Try.ntmps34
    go_wp2_with (first | (go_at_call 50; with_reducible refine Calls.mono (HA.out _) ?_; rintro e w1 ⟨rfl, hb⟩; have hc := hb.ccell; have hf := hb.frz; have hs := hb.sz; (try simp at hs); (try have hs0 := hs w.heap.size (by omega)); (try have hs1 := hs (w.heap.size + 1) (by omega)); (try have hs2 := hs (w.heap.size + 1 + 1) (by omega)); (try have hs3 := hs (w.heap.size + 1 + 1 + 1) (by omega))))
    go_ret
    exact ⟨rfl, by (repeat (first | with_reducible exact Ext.rfl' _ | with_reducible assumption | with_reducible refine Ext.al ?_ _ | with_reducible refine Ext.dr ?_ | with_reducible refine Ext.st ?_ (by simp) _ | with_reducible refine Ext.tr ?_ (by assumption)))⟩
theorem Row.sr {w : World} {A : Option Addr} {l : List Sr} (h : Row 2 encSr w A l) {k : Nat} (hk : k < l.length) :
    ∃ b off, A = some ⟨b, off, none⟩ ∧ b < w.heap.size ∧ ∀ w', Ext w w' → w'.cell? ⟨b, off + k * 2, none⟩ = some (.string (el l k).s) ∧ w'.cell? ⟨b, off + k * 2 + 1, none⟩ = some (.int .i64 (el l k).v) := by
  obtain ⟨b, off, h1, h2, h3⟩ := h.addr (by omega)
  rw [el_lt _ _ hk]
  exact ⟨b, off, h1, h2, fun w' hw => ⟨h3 w' hw k hk 0 _ rfl, h3 w' hw k hk 1 _ rfl⟩⟩
set_option maxHeartbeats 8000000 in
theorem lshares_c (l : List Sr) (w : World) (A B : Option Addr) (c d : Nat) (hl : l.length ≤ 1000) (hA : Row 2 encSr w A l) (hB : Row 2 encSr w B l) :
    Calls Try.prog 35 #[.slice A l.length c, .slice B l.length d] w fun e w' => e = .returned (.bool true) ∧ Ext w w' := by
  have HA := Lib.hid hA
  have HB := Lib.hid hB
  clear hA hB
  go_enter Try.func35, Try.ntmps35
  go_wp2
  go_loopw [5] (fun i wr => Ext w wr ∧ ∃ k : Nat, k ≤ l.length ∧ i = .int .i64 k) (fun i _ => l.length - (intOf i).toNat)
  case atStart => exact ⟨Ext.rfl' _, 0, Nat.zero_le _, rfl⟩
  case round =>
    obtain ⟨hE, k, hk, rfl⟩ := hrel
    by_cases hlt : k < l.length
    · obtain ⟨b, off, rfl, hb0, hcell⟩ := HA.out.sr hlt
      obtain ⟨b', off', rfl, hb0', hcell'⟩ := HB.out.sr hlt
      obtain ⟨e0, e1⟩ := hcell _ hE
      obtain ⟨q0, q1⟩ := hcell' _ hE
      clear hcell hcell'
      generalize el l k = u at *
      go_upto_region 6 with fail
      go_region
      go_wp2
      exact ⟨⟨by (repeat (first | with_reducible exact Ext.rfl' _ | with_reducible assumption | with_reducible refine Ext.al ?_ _ | with_reducible refine Ext.dr ?_ | with_reducible refine Ext.st ?_ (by simp) _ | with_reducible refine Ext.tr ?_ (by assumption))), k + 1, by omega, by go_num⟩, by simp [intOf]; omega⟩
    · go_wp2
      go_ret
      exact ⟨rfl, hE⟩
theorem first4 (a b c d : Int) : firstE (gi [a, b, c, d]) 4 = if a ≠ 0 then a else if b ≠ 0 then b else if c ≠ 0 then c else d := by
  have h0 : gi [a, b, c, d] 0 = a := rfl
  have h1 : gi [a, b, c, d] 1 = b := rfl
  have h2 : gi [a, b, c, d] 2 = c := rfl
  have h3 : gi [a, b, c, d] 3 = d := rfl
  simp only [firstE, h0, h1, h2, h3]
  by_cases ha : a = 0 <;> by_cases hb : b = 0 <;> by_cases hc : c = 0 <;> simp [*]
theorem first_cb4 (soils : List So) (bos : List Bo) (g h : Gr) : firstE (gi [chkGr soils bos, chkG g, chkG h, shE g h]) 4 = cb2E soils bos g h := by
  rw [first4]
  unfold cb2E twoE shE
  cases sameB g h <;> rfl
theorem cb2E_zero {soils : List So} {bos : List Bo} {g h : Gr} (k : cb2E soils bos g h = 0) : chkGr soils bos = 0 ∧ chkG g = 0 ∧ chkG h = 0 ∧ shE g h = 0 := by
  rw [← first_cb4] at k
  have := firstE_zero _ k
  exact ⟨this 0 (by omega), this 1 (by omega), this 2 (by omega), this 3 (by omega)⟩
theorem keepZ3 {W w' : World} {a b c : Nat} (h : Ext W w') (ha : a < W.heap.size) (hb : b < W.heap.size) (hc : c < W.heap.size) : (∀ j : Nat, w'.cell? ⟨a, j, none⟩ = W.cell? ⟨a, j, none⟩) ∧ (∀ j : Nat, w'.cell? ⟨b, j, none⟩ = W.cell? ⟨b, j, none⟩) ∧ (∀ j : Nat, w'.cell? ⟨c, j, none⟩ = W.cell? ⟨c, j, none⟩) ∧ Ext W w' := ⟨fun _ => h.ccell _ _ ha, fun _ => h.ccell _ _ hb, fun _ => h.ccell _ _ hc, h⟩

set_option maxHeartbeats 64000000 in
set_option maxRecDepth 100000 in
theorem sh_err (soils : List So) (bos : List Bo) (g h : Gr) (w : World) (AS AB : Option Addr) (cS cB : Nat) (gg : GrAny w soils AS bos AB) (hB0 : slB soils bos = true) (gw : GrW w soils AS bos AB) (A : Option Addr) (c : Nat) (hl : g.L.length ≤ maxLen) (hA : Row 1 encZ w A g.L) (B : Option Addr) (d : Nat) (hm : h.L.length ≤ maxLen) (hB : Row 1 encZ w B h.L) (h30 : g.L.length ≤ 30) (k30 : h.L.length ≤ 30) (h0 : cb2E soils bos g h ≠ 0) :
    Calls Try.prog 6 #[.agg #[.slice AS soils.length cS, .slice AB bos.length cB], .agg #[.int .i64 g.X, .int .i64 g.Y, .int .i64 g.S, .int .i64 g.C, .int .i64 g.R, .slice A g.L.length c], .agg #[.int .i64 h.X, .int .i64 h.Y, .int .i64 h.S, .int .i64 h.C, .int .i64 h.R, .slice B h.L.length d]] w fun e w' => e = .returned (.bool true) ∧ Ext w w' := by
  have HL := Lib.hid (fun w' (hw : Ext w w') => slight_c soils bos w' AS AB cS cB (gg.ext hw))
  have HSM := Lib.hid (fun w' => small6_c g w' A c hl)
  have HSN := Lib.hid (fun w' => small6_c h w' B d hm)
  rw [hB0] at HL
  rw [decide_eq_true h30] at HSM
  rw [decide_eq_true k30] at HSN
  clear hB0 gg
  have HQ := Lib.hid (fun w' (hw : Ext w w') => rcheckGround_c soils bos w' AS AB cS cB (gw.ext hw))
  have HRC := Lib.hid (fun w' (hw : Ext w w') => rcheck_c g w' A c hl (hA.ext hw))
  have HRD := Lib.hid (fun w' (hw : Ext w w') => rcheck_c h w' B d hm (hB.ext hw))
  have HSP := Lib.hid (fun w' => shape_c g h w' A B c d)
  have HF := Lib.hid (fun w' A2 c2 hr => by have hq := first6_c [chkGr soils bos, chkG g, chkG h, shE g h] w' A2 c2 (by simp) hr; rw [show [chkGr soils bos, chkG g, chkG h, shE g h].length = 4 from rfl, first_cb4] at hq; exact hq)
  have HSS := Lib.hid (fun w' (hw : Ext w w') => sshares_err soils bos g h w' AS AB A B cS cB c d (gw.ext hw) hl hm (hA.ext hw) (hB.ext hw) h0)
  have h0' : (cb2E soils bos g h != 0) = true := by simp [h0]
  generalize chkGr soils bos = E1 at *
  generalize chkG g = E2 at *
  generalize chkG h = E3 at *
  generalize shE g h = E4 at *
  clear hl hm hA hB gw h0 h30 k30
  generalize cb2E soils bos g h = E at *
  go_enter Try.func6, Try.ntmps6
  go_upto_region 6 with (first | (go_at_call 14; with_reducible refine Calls.mono (awake_c _) ?_; rintro e wa ⟨rfl, hb⟩; have hc := hb.ccell; have hf := hb.frz; have hs := hb.sz; (try simp at hs); (try have t0 := hs (w.heap.size) (by first | assumption | omega)); (try have t1 := hs (w.heap.size + 1) (by first | assumption | omega)); (try have t2 := hs (w.heap.size + 1 + 1) (by first | assumption | omega)); (try have t3 := hs (w.heap.size) (by first | assumption | omega)); (try have t4 := hs (w.heap.size) (by first | assumption | omega)); (try have t5 := hs (w.heap.size) (by first | assumption | omega))) | (go_at_call 15; with_reducible refine Calls.mono (HL.out _ (by (repeat (first | with_reducible exact Ext.rfl' _ | with_reducible assumption | with_reducible refine Ext.al ?_ _ | with_reducible refine Ext.dr ?_ | with_reducible refine Ext.st ?_ (by simp) _ | with_reducible refine Ext.tr ?_ (by assumption))))) ?_; rintro e ws ⟨rfl, hb⟩; have hc := hb.ccell; have hf := hb.frz; have hs := hb.sz; (try simp at hs); (try have t0 := hs (w.heap.size) (by first | assumption | omega)); (try have t1 := hs (w.heap.size + 1) (by first | assumption | omega)); (try have t2 := hs (w.heap.size + 1 + 1) (by first | assumption | omega)); (try have t3 := hs (w.heap.size) (by first | assumption | omega)); (try have t4 := hs (w.heap.size) (by first | assumption | omega)); (try have t5 := hs (w.heap.size) (by first | assumption | omega))) | (go_at_call 30; with_reducible refine Calls.mono (HSM.out _) ?_; rintro e wm ⟨rfl, hb⟩; have hc := hb.ccell; have hf := hb.frz; have hs := hb.sz; (try simp at hs); (try have t0 := hs (w.heap.size) (by first | assumption | omega)); (try have t1 := hs (w.heap.size + 1) (by first | assumption | omega)); (try have t2 := hs (w.heap.size + 1 + 1) (by first | assumption | omega)); (try have t3 := hs (w.heap.size) (by first | assumption | omega)); (try have t4 := hs (w.heap.size) (by first | assumption | omega)); (try have t5 := hs (w.heap.size) (by first | assumption | omega))) | (go_at_call 30; with_reducible refine Calls.mono (HSN.out _) ?_; rintro e wn ⟨rfl, hb⟩; have hc := hb.ccell; have hf := hb.frz; have hs := hb.sz; (try simp at hs); (try have t0 := hs (w.heap.size) (by first | assumption | omega)); (try have t1 := hs (w.heap.size + 1) (by first | assumption | omega)); (try have t2 := hs (w.heap.size + 1 + 1) (by first | assumption | omega)); (try have t3 := hs (w.heap.size) (by first | assumption | omega)); (try have t4 := hs (w.heap.size) (by first | assumption | omega)); (try have t5 := hs (w.heap.size) (by first | assumption | omega))) | (go_at_call 31; with_reducible refine Calls.mono (HSS.out _ (by (repeat (first | with_reducible exact Ext.rfl' _ | with_reducible assumption | with_reducible refine Ext.al ?_ _ | with_reducible refine Ext.dr ?_ | with_reducible refine Ext.st ?_ (by simp) _ | with_reducible refine Ext.tr ?_ (by assumption))))) ?_; rintro e w2 ⟨rfl, hb⟩; have hc := hb.ccell; have hf := hb.frz; have hs := hb.sz; (try simp at hs); (try have t0 := hs (w.heap.size) (by first | assumption | omega)); (try have t1 := hs (w.heap.size + 1) (by first | assumption | omega)); (try have t2 := hs (w.heap.size + 1 + 1) (by first | assumption | omega)); (try have t3 := hs (w.heap.size) (by first | assumption | omega)); (try have t4 := hs (w.heap.size) (by first | assumption | omega)); (try have t5 := hs (w.heap.size) (by first | assumption | omega))))
  refine wp_name (fun W hW => ?_)
  have hEW : Ext w W := by rw [hW]; (repeat (first | with_reducible exact Ext.rfl' _ | with_reducible assumption | with_reducible refine Ext.al ?_ _ | with_reducible refine Ext.dr ?_ | with_reducible refine Ext.st ?_ (by simp) _ | with_reducible refine Ext.tr ?_ (by assumption)))
  have r0 : W.cell? ⟨w.heap.size, 0, none⟩ = some (.slice AS soils.length cS) := by rw [hW]; simp [*, go_sem]
  have r1 : W.cell? ⟨w.heap.size, 1, none⟩ = some (.slice AB bos.length cB) := by rw [hW]; simp [*, go_sem]
  have kg : CellsAt W (w.heap.size + 1) 0 [.int .i64 g.X, .int .i64 g.Y, .int .i64 g.S, .int .i64 g.C, .int .i64 g.R, .slice A g.L.length c] := by rw [hW]; refine cells_six ⟨?_, ?_, ?_, ?_, ?_, ?_⟩ <;> simp [*, go_sem]
  have kh : CellsAt W (w.heap.size + 1 + 1) 0 [.int .i64 h.X, .int .i64 h.Y, .int .i64 h.S, .int .i64 h.C, .int .i64 h.R, .slice B h.L.length d] := by rw [hW]; refine cells_six ⟨?_, ?_, ?_, ?_, ?_, ?_⟩ <;> simp [*, go_sem]
  have hz2 : w.heap.size + 1 + 1 < W.heap.size := by rw [hW]; assumption
  have hz1 : w.heap.size + 1 < W.heap.size := by omega
  have hz0 : w.heap.size < W.heap.size := by omega
  clear hW hb hc hf hs t0 t1 t2 t3 t4 t5 HSS HL HSM HSN
  generalize w.heap.size + 1 + 1 = nh at *
  generalize w.heap.size + 1 = nm at *
  go_cut [9] (fun x wx => x = .int .i64 E ∧ Ext W wx)
  case first =>
    obtain ⟨m0, m1, m2, m3, m4, m5⟩ := kg.six
    obtain ⟨p0, p1, p2, p3, p4, p5⟩ := kh.six
    go_region_held3 (fun w' => (∀ j : Nat, w'.cell? ⟨w.heap.size, j, none⟩ = W.cell? ⟨w.heap.size, j, none⟩) ∧ (∀ j : Nat, w'.cell? ⟨nm, j, none⟩ = W.cell? ⟨nm, j, none⟩) ∧ (∀ j : Nat, w'.cell? ⟨nh, j, none⟩ = W.cell? ⟨nh, j, none⟩) ∧ Ext W w') ((refine keepZ3 ?_ hz0 hz1 hz2; (repeat (first | with_reducible exact Ext.rfl' _ | with_reducible assumption | with_reducible refine Ext.al ?_ _ | with_reducible refine Ext.dr ?_ | with_reducible refine Ext.st ?_ (by first | (simp; done) | ((try have h9 := Below.size hb2); (try have h8 := Below.size hb3); (try have h7 := Below.size hb4); (try simp at h9); (try simp at h8); (try simp at h7); (try simp); omega)) _ | with_reducible refine Ext.tr ?_ (by with_reducible assumption) | (with_reducible exact (by with_reducible assumption : _ ∧ _ ∧ Ext W _).2.2))))) (first | (go_at_call 19; (with_reducible refine Calls.mono (HQ.out _ (hEW.tr (by (repeat (first | with_reducible exact Ext.rfl' _ | with_reducible assumption | with_reducible refine Ext.al ?_ _ | with_reducible refine Ext.dr ?_ | with_reducible refine Ext.st ?_ (by simp) _ | with_reducible refine Ext.tr ?_ (by assumption)))))) ?_); rintro e w2 ⟨rfl, hb2⟩; have hc2 := hb2.ccell; have hf2 := hb2.frz; have hs2 := hb2.sz) | (go_at_call 33; (with_reducible refine Calls.mono (HRC.out _ (hEW.tr (by (repeat (first | with_reducible exact Ext.rfl' _ | with_reducible assumption | with_reducible refine Ext.al ?_ _ | with_reducible refine Ext.dr ?_ | with_reducible refine Ext.st ?_ (by simp) _ | with_reducible refine Ext.tr ?_ (by assumption)))))) ?_); rintro e w3 ⟨rfl, hb3⟩; have hc3 := hb3.ccell; have hf3 := hb3.frz; have hs3 := hb3.sz) | (go_at_call 33; (with_reducible refine Calls.mono (HRD.out _ (hEW.tr (by (repeat (first | with_reducible exact Ext.rfl' _ | with_reducible assumption | with_reducible refine Ext.al ?_ _ | with_reducible refine Ext.dr ?_ | with_reducible refine Ext.st ?_ (by simp) _ | with_reducible refine Ext.tr ?_ (by assumption)))))) ?_); rintro e w5 ⟨rfl, hb5⟩; have hc5 := hb5.ccell; have hf5 := hb5.frz; have hs5 := hb5.sz) | (go_at_call 34; (with_reducible refine Calls.mono (HSP.out _) ?_); rintro e w6 ⟨rfl, hb6⟩; have hc6 := hb6.ccell; have hf6 := hb6.frz; have hs6 := hb6.sz) | (go_at_call 32; (with_reducible refine Calls.mono (HF.out _ _ _ (Row.new' encZ_len _ _ _ _ _ (by simp) rfl)) ?_); rintro e w4 ⟨rfl, hb4⟩; have hc4 := hb4.ccell; have hf4 := hb4.frz; have hs4 := hb4.sz))
    all_goals
      rename_i hJ hK h1 h2 hH
      clear hH
      refine h2 _ _ (Met.intro (h1 _ _ ?_))
      (repeat apply Exists.intro)
      refine ⟨?_, rfl⟩
      exact ⟨rfl, by (repeat (first | with_reducible exact Ext.rfl' _ | with_reducible assumption | with_reducible refine Ext.al ?_ _ | with_reducible refine Ext.dr ?_ | with_reducible refine Ext.st ?_ (by simp) _ | with_reducible refine Ext.tr ?_ (by assumption)))⟩
  case rest =>
  obtain ⟨rfl, hx⟩ := hcut
  have hEc := hEW.tr hx
  clear kg kh hz0 hz1 hz2 r0 r1 hx hEW HQ HRC HRD HSP HF
  go_wp2
  go_ret
  exact ⟨rfl, by (repeat (first | with_reducible exact Ext.rfl' _ | with_reducible assumption | with_reducible refine Ext.al ?_ _ | with_reducible refine Ext.dr ?_ | with_reducible refine Ext.st ?_ (by simp) _ | with_reducible refine Ext.tr ?_ (by assumption)))⟩
set_option maxHeartbeats 64000000 in
set_option maxRecDepth 100000 in
theorem sh_ok (soils : List So) (bos : List Bo) (g h : Gr) (w : World) (AS AB : Option Addr) (cS cB : Nat) (gg : GrAny w soils AS bos AB) (hB0 : slB soils bos = true) (gw : GrW w soils AS bos AB) (A : Option Addr) (c : Nat) (hl : g.L.length ≤ maxLen) (hA : Row 1 encZ w A g.L) (B : Option Addr) (d : Nat) (hm : h.L.length ≤ maxLen) (hB : Row 1 encZ w B h.L) (h30 : g.L.length ≤ 30) (k30 : h.L.length ≤ 30) (h0 : cb2E soils bos g h = 0) :
    Calls Try.prog 6 #[.agg #[.slice AS soils.length cS, .slice AB bos.length cB], .agg #[.int .i64 g.X, .int .i64 g.Y, .int .i64 g.S, .int .i64 g.C, .int .i64 g.R, .slice A g.L.length c], .agg #[.int .i64 h.X, .int .i64 h.Y, .int .i64 h.S, .int .i64 h.C, .int .i64 h.R, .slice B h.L.length d]] w fun e w' => e = .returned (.bool true) ∧ Ext w w' := by
  have HL := Lib.hid (fun w' (hw : Ext w w') => slight_c soils bos w' AS AB cS cB (gg.ext hw))
  have HSM := Lib.hid (fun w' => small6_c g w' A c hl)
  have HSN := Lib.hid (fun w' => small6_c h w' B d hm)
  rw [hB0] at HL
  rw [decide_eq_true h30] at HSM
  rw [decide_eq_true k30] at HSN
  clear hB0 gg
  have HQ := Lib.hid (fun w' (hw : Ext w w') => rcheckGround_c soils bos w' AS AB cS cB (gw.ext hw))
  have HRC := Lib.hid (fun w' (hw : Ext w w') => rcheck_c g w' A c hl (hA.ext hw))
  have HRD := Lib.hid (fun w' (hw : Ext w w') => rcheck_c h w' B d hm (hB.ext hw))
  have HSP := Lib.hid (fun w' => shape_c g h w' A B c d)
  obtain ⟨z1, z2, z3, z4⟩ := cb2E_zero h0
  rw [z1] at HQ
  rw [z2] at HRC
  rw [z3] at HRD
  rw [z4] at HSP
  have HF := Lib.hid (fun w' A2 c2 hr => by have hq := first6_c [0, 0, 0, 0] w' A2 c2 (by simp) hr; rw [show [(0 : Int), 0, 0, 0].length = 4 from rfl, show firstE (gi [0, 0, 0, 0]) 4 = 0 from rfl] at hq; exact hq)
  obtain ⟨v, _, _, hlen⟩ := cb2E_ok h0
  obtain ⟨cn, rn, e1, e2, e3, e4, e5, e6, e7, e8⟩ := (chkG_ok z2).nat
  have hls := gw.ls
  have HSS := Lib.hid (fun w' (hw : Ext w w') => sshares_ok soils bos g h cn w' AS AB A B cS cB c d (gw.ext hw) hl hm (hA.ext hw) (hB.ext hw) h0 e1)
  have HRS := Lib.hid (fun w' (hw : Ext w w') => rshares_c soils bos g h cn w' AS AB A B cS cB c d (gw.ext hw) v z2 z3 hlen e1 (hA.ext hw) (hB.ext hw))
  have hml := mkS_len (srF soils bos g h cn) soils.length
  generalize mkS (srF soils bos g h cn) soils.length = M at *
  have HLS := Lib.hid (fun w' A2 A3 c2 c3 hr2 hr3 => lshares_c M w' A2 A3 c2 c3 (by omega) hr2 hr3)
  clear z1 z2 z3 z4 e1 e2 e3 e4 e5 e6 e7 e8 v hlen hls hml hl hm hA hB gw h0 h30 k30
  go_enter Try.func6, Try.ntmps6
  go_upto_region 6 with (first | (go_at_call 14; with_reducible refine Calls.mono (awake_c _) ?_; rintro e wa ⟨rfl, hb⟩; have hc := hb.ccell; have hf := hb.frz; have hs := hb.sz; (try simp at hs); (try have t0 := hs (w.heap.size) (by first | assumption | omega)); (try have t1 := hs (w.heap.size + 1) (by first | assumption | omega)); (try have t2 := hs (w.heap.size + 1 + 1) (by first | assumption | omega)); (try have t3 := hs (w.heap.size) (by first | assumption | omega)); (try have t4 := hs (w.heap.size) (by first | assumption | omega)); (try have t5 := hs (w.heap.size) (by first | assumption | omega))) | (go_at_call 15; with_reducible refine Calls.mono (HL.out _ (by (repeat (first | with_reducible exact Ext.rfl' _ | with_reducible assumption | with_reducible refine Ext.al ?_ _ | with_reducible refine Ext.dr ?_ | with_reducible refine Ext.st ?_ (by simp) _ | with_reducible refine Ext.tr ?_ (by assumption))))) ?_; rintro e ws ⟨rfl, hb⟩; have hc := hb.ccell; have hf := hb.frz; have hs := hb.sz; (try simp at hs); (try have t0 := hs (w.heap.size) (by first | assumption | omega)); (try have t1 := hs (w.heap.size + 1) (by first | assumption | omega)); (try have t2 := hs (w.heap.size + 1 + 1) (by first | assumption | omega)); (try have t3 := hs (w.heap.size) (by first | assumption | omega)); (try have t4 := hs (w.heap.size) (by first | assumption | omega)); (try have t5 := hs (w.heap.size) (by first | assumption | omega))) | (go_at_call 30; with_reducible refine Calls.mono (HSM.out _) ?_; rintro e wm ⟨rfl, hb⟩; have hc := hb.ccell; have hf := hb.frz; have hs := hb.sz; (try simp at hs); (try have t0 := hs (w.heap.size) (by first | assumption | omega)); (try have t1 := hs (w.heap.size + 1) (by first | assumption | omega)); (try have t2 := hs (w.heap.size + 1 + 1) (by first | assumption | omega)); (try have t3 := hs (w.heap.size) (by first | assumption | omega)); (try have t4 := hs (w.heap.size) (by first | assumption | omega)); (try have t5 := hs (w.heap.size) (by first | assumption | omega))) | (go_at_call 30; with_reducible refine Calls.mono (HSN.out _) ?_; rintro e wn ⟨rfl, hb⟩; have hc := hb.ccell; have hf := hb.frz; have hs := hb.sz; (try simp at hs); (try have t0 := hs (w.heap.size) (by first | assumption | omega)); (try have t1 := hs (w.heap.size + 1) (by first | assumption | omega)); (try have t2 := hs (w.heap.size + 1 + 1) (by first | assumption | omega)); (try have t3 := hs (w.heap.size) (by first | assumption | omega)); (try have t4 := hs (w.heap.size) (by first | assumption | omega)); (try have t5 := hs (w.heap.size) (by first | assumption | omega))) | (go_at_call 31; (with_reducible refine Calls.mono (HSS.out _ (by (repeat (first | with_reducible exact Ext.rfl' _ | with_reducible assumption | with_reducible refine Ext.al ?_ _ | with_reducible refine Ext.dr ?_ | with_reducible refine Ext.st ?_ (by simp) _ | with_reducible refine Ext.tr ?_ (by assumption))))) ?_); rintro e w2 ⟨⟨A2, c2, rfl, hR2⟩, hb⟩; have hc := hb.ccell; have hf := hb.frz; have hs := hb.sz; (try simp at hs); (try have t0 := hs (w.heap.size) (by first | assumption | omega)); (try have t1 := hs (w.heap.size + 1) (by first | assumption | omega)); (try have t2 := hs (w.heap.size + 1 + 1) (by first | assumption | omega)); (try have t3 := hs (w.heap.size) (by first | assumption | omega)); (try have t4 := hs (w.heap.size) (by first | assumption | omega)); (try have t5 := hs (w.heap.size) (by first | assumption | omega))))
  refine wp_name (fun W hW => ?_)
  have hEW : Ext w W := by rw [hW]; (repeat (first | with_reducible exact Ext.rfl' _ | with_reducible assumption | with_reducible refine Ext.al ?_ _ | with_reducible refine Ext.dr ?_ | with_reducible refine Ext.st ?_ (by simp) _ | with_reducible refine Ext.tr ?_ (by assumption)))
  have hRW := Lib.hid (show Row 2 encSr W A2 M from hR2.ext (by rw [hW]; (repeat (first | with_reducible exact Ext.rfl' _ | with_reducible assumption | with_reducible refine Ext.al ?_ _ | with_reducible refine Ext.dr ?_ | with_reducible refine Ext.st ?_ (by simp) _ | with_reducible refine Ext.tr ?_ (by assumption)))))
  have r0 : W.cell? ⟨w.heap.size, 0, none⟩ = some (.slice AS soils.length cS) := by rw [hW]; simp [*, go_sem]
  have r1 : W.cell? ⟨w.heap.size, 1, none⟩ = some (.slice AB bos.length cB) := by rw [hW]; simp [*, go_sem]
  have kg : CellsAt W (w.heap.size + 1) 0 [.int .i64 g.X, .int .i64 g.Y, .int .i64 g.S, .int .i64 g.C, .int .i64 g.R, .slice A g.L.length c] := by rw [hW]; refine cells_six ⟨?_, ?_, ?_, ?_, ?_, ?_⟩ <;> simp [*, go_sem]
  have kh : CellsAt W (w.heap.size + 1 + 1) 0 [.int .i64 h.X, .int .i64 h.Y, .int .i64 h.S, .int .i64 h.C, .int .i64 h.R, .slice B h.L.length d] := by rw [hW]; refine cells_six ⟨?_, ?_, ?_, ?_, ?_, ?_⟩ <;> simp [*, go_sem]
  have hz2 : w.heap.size + 1 + 1 < W.heap.size := by rw [hW]; assumption
  have hz1 : w.heap.size + 1 < W.heap.size := by omega
  have hz0 : w.heap.size < W.heap.size := by omega
  clear hR2 hW hb hc hf hs t0 t1 t2 t3 t4 t5 HSS HL HSM HSN
  generalize w.heap.size + 1 + 1 = nh at *
  generalize w.heap.size + 1 = nm at *
  go_cut [9] (fun x wx => x = .int .i64 0 ∧ Ext W wx)
  case first =>
    obtain ⟨m0, m1, m2, m3, m4, m5⟩ := kg.six
    obtain ⟨p0, p1, p2, p3, p4, p5⟩ := kh.six
    go_region_held3 (fun w' => (∀ j : Nat, w'.cell? ⟨w.heap.size, j, none⟩ = W.cell? ⟨w.heap.size, j, none⟩) ∧ (∀ j : Nat, w'.cell? ⟨nm, j, none⟩ = W.cell? ⟨nm, j, none⟩) ∧ (∀ j : Nat, w'.cell? ⟨nh, j, none⟩ = W.cell? ⟨nh, j, none⟩) ∧ Ext W w') ((refine keepZ3 ?_ hz0 hz1 hz2; (repeat (first | with_reducible exact Ext.rfl' _ | with_reducible assumption | with_reducible refine Ext.al ?_ _ | with_reducible refine Ext.dr ?_ | with_reducible refine Ext.st ?_ (by first | (simp; done) | ((try have h9 := Below.size hb2); (try have h8 := Below.size hb3); (try have h7 := Below.size hb4); (try simp at h9); (try simp at h8); (try simp at h7); (try simp); omega)) _ | with_reducible refine Ext.tr ?_ (by with_reducible assumption) | (with_reducible exact (by with_reducible assumption : _ ∧ _ ∧ Ext W _).2.2))))) (first | (go_at_call 19; (with_reducible refine Calls.mono (HQ.out _ (hEW.tr (by (repeat (first | with_reducible exact Ext.rfl' _ | with_reducible assumption | with_reducible refine Ext.al ?_ _ | with_reducible refine Ext.dr ?_ | with_reducible refine Ext.st ?_ (by simp) _ | with_reducible refine Ext.tr ?_ (by assumption)))))) ?_); rintro e w2 ⟨rfl, hb2⟩; have hc2 := hb2.ccell; have hf2 := hb2.frz; have hs2 := hb2.sz) | (go_at_call 33; (with_reducible refine Calls.mono (HRC.out _ (hEW.tr (by (repeat (first | with_reducible exact Ext.rfl' _ | with_reducible assumption | with_reducible refine Ext.al ?_ _ | with_reducible refine Ext.dr ?_ | with_reducible refine Ext.st ?_ (by simp) _ | with_reducible refine Ext.tr ?_ (by assumption)))))) ?_); rintro e w3 ⟨rfl, hb3⟩; have hc3 := hb3.ccell; have hf3 := hb3.frz; have hs3 := hb3.sz) | (go_at_call 33; (with_reducible refine Calls.mono (HRD.out _ (hEW.tr (by (repeat (first | with_reducible exact Ext.rfl' _ | with_reducible assumption | with_reducible refine Ext.al ?_ _ | with_reducible refine Ext.dr ?_ | with_reducible refine Ext.st ?_ (by simp) _ | with_reducible refine Ext.tr ?_ (by assumption)))))) ?_); rintro e w5 ⟨rfl, hb5⟩; have hc5 := hb5.ccell; have hf5 := hb5.frz; have hs5 := hb5.sz) | (go_at_call 34; (with_reducible refine Calls.mono (HSP.out _) ?_); rintro e w6 ⟨rfl, hb6⟩; have hc6 := hb6.ccell; have hf6 := hb6.frz; have hs6 := hb6.sz) | (go_at_call 32; (with_reducible refine Calls.mono (HF.out _ _ _ (Row.new' encZ_len _ _ _ _ _ (by simp) rfl)) ?_); rintro e w4 ⟨rfl, hb4⟩; have hc4 := hb4.ccell; have hf4 := hb4.frz; have hs4 := hb4.sz))
    all_goals
      rename_i hJ hK h1 h2 hH
      clear hH
      refine h2 _ _ (Met.intro (h1 _ _ ?_))
      (repeat apply Exists.intro)
      refine ⟨?_, rfl⟩
      exact ⟨rfl, by (repeat (first | with_reducible exact Ext.rfl' _ | with_reducible assumption | with_reducible refine Ext.al ?_ _ | with_reducible refine Ext.dr ?_ | with_reducible refine Ext.st ?_ (by simp) _ | with_reducible refine Ext.tr ?_ (by assumption)))⟩
  case rest =>
  obtain ⟨rfl, hx⟩ := hcut
  have hEc := hEW.tr hx
  have hRc := Lib.hid (hRW.out.ext hx)
  obtain ⟨m0, m1, m2, m3, m4, m5⟩ := (kg.ext hx hz1).six
  obtain ⟨p0, p1, p2, p3, p4, p5⟩ := (kh.ext hx hz2).six
  have g0 := (hx.ccell _ 0 hz0).trans r0
  have g1 := (hx.ccell _ 1 hz0).trans r1
  have y0 := hx.sz _ hz0
  have y1 := hx.sz _ hz1
  have y2 := hx.sz _ hz2
  rename World => wx
  have HRT := Lib.hid (fun w' (hw : Ext wx w') => HRS.out w' (hEc.tr hw))
  clear kg kh hz0 hz1 hz2 r0 r1 hx hEW HQ HRC HRD HSP HF HRS hRW
  go_wp2_with (first | (go_at_call 36; (with_reducible refine Calls.mono (HRT.out _ (by (repeat (first | with_reducible exact Ext.rfl' _ | with_reducible assumption | with_reducible refine Ext.al ?_ _ | with_reducible refine Ext.dr ?_ | with_reducible refine Ext.st ?_ (by simp) _ | with_reducible refine Ext.tr ?_ (by assumption))))) ?_); rintro e w7 ⟨⟨A3, c3, rfl, hR3⟩, hb⟩; have hc := hb.ccell; have hf := hb.frz; have hs := hb.sz; (try simp at hs); (try have t0 := hs (w.heap.size) (by first | assumption | omega)); (try have t1 := hs (nm) (by first | assumption | omega)); (try have t2 := hs (nh) (by first | assumption | omega)); (try have t3 := hs (w.heap.size) (by first | assumption | omega)); (try have t4 := hs (w.heap.size) (by first | assumption | omega)); (try have t5 := hs (w.heap.size) (by first | assumption | omega))) | (go_at_call 35; with_reducible refine Calls.mono (HLS.out _ _ _ _ _ (hRc.out.ext (by (repeat (first | with_reducible exact Ext.rfl' _ | with_reducible assumption | with_reducible refine Ext.al ?_ _ | with_reducible refine Ext.dr ?_ | with_reducible refine Ext.st ?_ (by simp) _ | with_reducible refine Ext.tr ?_ (by assumption))))) (hR3.ext (by (repeat (first | with_reducible exact Ext.rfl' _ | with_reducible assumption | with_reducible refine Ext.al ?_ _ | with_reducible refine Ext.dr ?_ | with_reducible refine Ext.st ?_ (by simp) _ | with_reducible refine Ext.tr ?_ (by assumption)))))) ?_; rintro e w8 ⟨rfl, hb⟩; have hc := hb.ccell; have hf := hb.frz; have hs := hb.sz; (try simp at hs); (try have t0 := hs (w.heap.size) (by first | assumption | omega)); (try have t1 := hs (nm) (by first | assumption | omega)); (try have t2 := hs (nh) (by first | assumption | omega)); (try have t3 := hs (w.heap.size) (by first | assumption | omega)); (try have t4 := hs (w.heap.size) (by first | assumption | omega)); (try have t5 := hs (w.heap.size) (by first | assumption | omega))))
  go_ret
  exact ⟨rfl, hEc.tr (by (repeat (first | with_reducible exact Ext.rfl' _ | with_reducible assumption | with_reducible refine Ext.al ?_ _ | with_reducible refine Ext.dr ?_ | with_reducible refine Ext.st ?_ (by simp) _ | with_reducible refine Ext.tr ?_ (by assumption))))⟩
set_option maxHeartbeats 16000000 in
set_option maxRecDepth 100000 in
theorem sh_walk (soils : List So) (bos : List Bo) (g h : Gr) (w : World) (AS AB : Option Addr) (cS cB : Nat) (gg : GrAny w soils AS bos AB) (A : Option Addr) (c : Nat) (hl : g.L.length ≤ maxLen) (hA : Row 1 encZ w A g.L) (B : Option Addr) (d : Nat) (hm : h.L.length ≤ maxLen) (hB : Row 1 encZ w B h.L) :
    Calls Try.prog 6 #[.agg #[.slice AS soils.length cS, .slice AB bos.length cB], .agg #[.int .i64 g.X, .int .i64 g.Y, .int .i64 g.S, .int .i64 g.C, .int .i64 g.R, .slice A g.L.length c], .agg #[.int .i64 h.X, .int .i64 h.Y, .int .i64 h.S, .int .i64 h.C, .int .i64 h.R, .slice B h.L.length d]] w fun e w' => e = .returned (.bool true) ∧ Ext w w' := by
  have HL := Lib.hid (fun w' (hw : Ext w w') => slight_c soils bos w' AS AB cS cB (gg.ext hw))
  have HSM := Lib.hid (fun w' => small6_c g w' A c hl)
  have HSN := Lib.hid (fun w' => small6_c h w' B d hm)
  cases hB0 : slB soils bos
  · rw [hB0] at HL
    clear hB0 gg hl hm hA hB HSM HSN
    go_enter Try.func6, Try.ntmps6
    go_wp2_with (first | (go_at_call 14; with_reducible refine Calls.mono (awake_c _) ?_; rintro e wa ⟨rfl, hb⟩; have hc := hb.ccell; have hf := hb.frz; have hs := hb.sz; (try simp at hs); (try have t0 := hs (w.heap.size) (by first | assumption | omega)); (try have t1 := hs (w.heap.size + 1) (by first | assumption | omega)); (try have t2 := hs (w.heap.size + 1 + 1) (by first | assumption | omega)); (try have t3 := hs (w.heap.size) (by first | assumption | omega)); (try have t4 := hs (w.heap.size) (by first | assumption | omega)); (try have t5 := hs (w.heap.size) (by first | assumption | omega))) | (go_at_call 15; with_reducible refine Calls.mono (HL.out _ (by (repeat (first | with_reducible exact Ext.rfl' _ | with_reducible assumption | with_reducible refine Ext.al ?_ _ | with_reducible refine Ext.dr ?_ | with_reducible refine Ext.st ?_ (by simp) _ | with_reducible refine Ext.tr ?_ (by assumption))))) ?_; rintro e ws ⟨rfl, hb⟩; have hc := hb.ccell; have hf := hb.frz; have hs := hb.sz; (try simp at hs); (try have t0 := hs (w.heap.size) (by first | assumption | omega)); (try have t1 := hs (w.heap.size + 1) (by first | assumption | omega)); (try have t2 := hs (w.heap.size + 1 + 1) (by first | assumption | omega)); (try have t3 := hs (w.heap.size) (by first | assumption | omega)); (try have t4 := hs (w.heap.size) (by first | assumption | omega)); (try have t5 := hs (w.heap.size) (by first | assumption | omega))))
    go_ret
    exact ⟨rfl, by (repeat (first | with_reducible exact Ext.rfl' _ | with_reducible assumption | with_reducible refine Ext.al ?_ _ | with_reducible refine Ext.dr ?_ | with_reducible refine Ext.st ?_ (by simp) _ | with_reducible refine Ext.tr ?_ (by assumption)))⟩
  have gw := gg.small (slB_small hB0)
  by_cases h30 : g.L.length ≤ 30
  case neg =>
    rw [hB0] at HL
    rw [decide_eq_false h30] at HSM
    clear h30 gw hl hm hA hB hB0 gg HSN
    go_enter Try.func6, Try.ntmps6
    go_wp2_with (first | (go_at_call 14; with_reducible refine Calls.mono (awake_c _) ?_; rintro e wa ⟨rfl, hb⟩; have hc := hb.ccell; have hf := hb.frz; have hs := hb.sz; (try simp at hs); (try have t0 := hs (w.heap.size) (by first | assumption | omega)); (try have t1 := hs (w.heap.size + 1) (by first | assumption | omega)); (try have t2 := hs (w.heap.size + 1 + 1) (by first | assumption | omega)); (try have t3 := hs (w.heap.size) (by first | assumption | omega)); (try have t4 := hs (w.heap.size) (by first | assumption | omega)); (try have t5 := hs (w.heap.size) (by first | assumption | omega))) | (go_at_call 15; with_reducible refine Calls.mono (HL.out _ (by (repeat (first | with_reducible exact Ext.rfl' _ | with_reducible assumption | with_reducible refine Ext.al ?_ _ | with_reducible refine Ext.dr ?_ | with_reducible refine Ext.st ?_ (by simp) _ | with_reducible refine Ext.tr ?_ (by assumption))))) ?_; rintro e ws ⟨rfl, hb⟩; have hc := hb.ccell; have hf := hb.frz; have hs := hb.sz; (try simp at hs); (try have t0 := hs (w.heap.size) (by first | assumption | omega)); (try have t1 := hs (w.heap.size + 1) (by first | assumption | omega)); (try have t2 := hs (w.heap.size + 1 + 1) (by first | assumption | omega)); (try have t3 := hs (w.heap.size) (by first | assumption | omega)); (try have t4 := hs (w.heap.size) (by first | assumption | omega)); (try have t5 := hs (w.heap.size) (by first | assumption | omega))) | (go_at_call 30; with_reducible refine Calls.mono (HSM.out _) ?_; rintro e wm ⟨rfl, hb⟩; have hc := hb.ccell; have hf := hb.frz; have hs := hb.sz; (try simp at hs); (try have t0 := hs (w.heap.size) (by first | assumption | omega)); (try have t1 := hs (w.heap.size + 1) (by first | assumption | omega)); (try have t2 := hs (w.heap.size + 1 + 1) (by first | assumption | omega)); (try have t3 := hs (w.heap.size) (by first | assumption | omega)); (try have t4 := hs (w.heap.size) (by first | assumption | omega)); (try have t5 := hs (w.heap.size) (by first | assumption | omega))))
    go_ret
    exact ⟨rfl, by (repeat (first | with_reducible exact Ext.rfl' _ | with_reducible assumption | with_reducible refine Ext.al ?_ _ | with_reducible refine Ext.dr ?_ | with_reducible refine Ext.st ?_ (by simp) _ | with_reducible refine Ext.tr ?_ (by assumption)))⟩
  by_cases k30 : h.L.length ≤ 30
  case neg =>
    rw [hB0] at HL
    rw [decide_eq_true h30] at HSM
    rw [decide_eq_false k30] at HSN
    clear h30 k30 gw hl hm hA hB hB0 gg
    go_enter Try.func6, Try.ntmps6
    go_wp2_with (first | (go_at_call 14; with_reducible refine Calls.mono (awake_c _) ?_; rintro e wa ⟨rfl, hb⟩; have hc := hb.ccell; have hf := hb.frz; have hs := hb.sz; (try simp at hs); (try have t0 := hs (w.heap.size) (by first | assumption | omega)); (try have t1 := hs (w.heap.size + 1) (by first | assumption | omega)); (try have t2 := hs (w.heap.size + 1 + 1) (by first | assumption | omega)); (try have t3 := hs (w.heap.size) (by first | assumption | omega)); (try have t4 := hs (w.heap.size) (by first | assumption | omega)); (try have t5 := hs (w.heap.size) (by first | assumption | omega))) | (go_at_call 15; with_reducible refine Calls.mono (HL.out _ (by (repeat (first | with_reducible exact Ext.rfl' _ | with_reducible assumption | with_reducible refine Ext.al ?_ _ | with_reducible refine Ext.dr ?_ | with_reducible refine Ext.st ?_ (by simp) _ | with_reducible refine Ext.tr ?_ (by assumption))))) ?_; rintro e ws ⟨rfl, hb⟩; have hc := hb.ccell; have hf := hb.frz; have hs := hb.sz; (try simp at hs); (try have t0 := hs (w.heap.size) (by first | assumption | omega)); (try have t1 := hs (w.heap.size + 1) (by first | assumption | omega)); (try have t2 := hs (w.heap.size + 1 + 1) (by first | assumption | omega)); (try have t3 := hs (w.heap.size) (by first | assumption | omega)); (try have t4 := hs (w.heap.size) (by first | assumption | omega)); (try have t5 := hs (w.heap.size) (by first | assumption | omega))) | (go_at_call 30; with_reducible refine Calls.mono (HSM.out _) ?_; rintro e wm ⟨rfl, hb⟩; have hc := hb.ccell; have hf := hb.frz; have hs := hb.sz; (try simp at hs); (try have t0 := hs (w.heap.size) (by first | assumption | omega)); (try have t1 := hs (w.heap.size + 1) (by first | assumption | omega)); (try have t2 := hs (w.heap.size + 1 + 1) (by first | assumption | omega)); (try have t3 := hs (w.heap.size) (by first | assumption | omega)); (try have t4 := hs (w.heap.size) (by first | assumption | omega)); (try have t5 := hs (w.heap.size) (by first | assumption | omega))) | (go_at_call 30; with_reducible refine Calls.mono (HSN.out _) ?_; rintro e wn ⟨rfl, hb⟩; have hc := hb.ccell; have hf := hb.frz; have hs := hb.sz; (try simp at hs); (try have t0 := hs (w.heap.size) (by first | assumption | omega)); (try have t1 := hs (w.heap.size + 1) (by first | assumption | omega)); (try have t2 := hs (w.heap.size + 1 + 1) (by first | assumption | omega)); (try have t3 := hs (w.heap.size) (by first | assumption | omega)); (try have t4 := hs (w.heap.size) (by first | assumption | omega)); (try have t5 := hs (w.heap.size) (by first | assumption | omega))))
    go_ret
    exact ⟨rfl, by (repeat (first | with_reducible exact Ext.rfl' _ | with_reducible assumption | with_reducible refine Ext.al ?_ _ | with_reducible refine Ext.dr ?_ | with_reducible refine Ext.st ?_ (by simp) _ | with_reducible refine Ext.tr ?_ (by assumption)))⟩
  by_cases h0 : cb2E soils bos g h = 0
  · exact sh_ok soils bos g h w AS AB cS cB gg hB0 gw A c hl hA B d hm hB h30 k30 h0
  · exact sh_err soils bos g h w AS AB cS cB gg hB0 gw A c hl hA B d hm hB h30 k30 h0
end Go.Proofs.Ytohdplnlbnoojaa

/- The contracts of area, fallen, checkBed, Slump. -/
import Derived.Test.YtohdplnlbnoojaaSslump
namespace Go.Proofs.Ytohdplnlbnoojaa
open Go Go.RowKit Go.IntWalk

theorem sarea_c (g : Gr) (n : Nat) (w : World) (A : Option Addr) (c : Nat) (hS : 100 ≤ g.S ∧ g.S ≤ 10000) :
    Calls Try.prog 75 #[.agg #[.int .i64 g.X, .int .i64 g.Y, .int .i64 g.S, .int .i64 g.C, .int .i64 g.R, .slice A n c]] w fun e w' => e = .returned (.int .i64 (g.S * g.S)) ∧ Ext w w' := by
  have hb : 0 ≤ g.S * g.S ∧ g.S * g.S ≤ 10000 * 10000 := ⟨Int.mul_nonneg (by omega) (by omega), Int.mul_le_mul (by omega) (by omega) (by omega) (by omega)⟩
  go_enter Try.func75, Try.ntmps75
  go_wp2
  go_ret
  exact ⟨ret_int (by first | rfl | omega), by (repeat (first | with_reducible exact Ext.rfl' _ | with_reducible assumption | with_reducible refine Ext.al ?_ _ | with_reducible refine Ext.dr ?_ | with_reducible refine Ext.st ?_ (by simp) _ | with_reducible refine Ext.tr ?_ (by assumption)))⟩
/-- By how much levels differ together. -/
def dfN (L M : List Int) (n : Nat) : Int := sumN (fun i => gi L i - gi M i) n
theorem dfN_bound (L M : List Int) (h : ∀ i, -50000 ≤ gi L i - gi M i ∧ gi L i - gi M i ≤ 50000) : ∀ n : Nat, -50000 * (n : Int) ≤ dfN L M n ∧ dfN L M n ≤ 50000 * (n : Int)
  | 0 => by simp [dfN, sumN]
  | n + 1 => by
    have h1 := dfN_bound L M h n
    have h2 := h n
    unfold dfN at h1 ⊢
    rw [sumN]
    push_cast
    omega
set_option maxHeartbeats 4000000 in
theorem fallen_c (g : Gr) (M : List Int) (w : World) (A B : Option Addr) (c d : Nat) (hS : 100 ≤ g.S ∧ g.S ≤ 10000) (hl : g.L.length ≤ 1024) (hm : M.length = g.L.length) (hd : ∀ i, -50000 ≤ gi g.L i - gi M i ∧ gi g.L i - gi M i ≤ 50000) (hA : Row 1 encZ w A g.L) (hB : Row 1 encZ w B M)
    (hv : ∀ i, -60000 ≤ gi g.L i ∧ gi g.L i ≤ 60000) (hu : ∀ i, -60000 ≤ gi M i ∧ gi M i ≤ 60000) :
    Calls Try.prog 88 #[.agg #[.int .i64 g.X, .int .i64 g.Y, .int .i64 g.S, .int .i64 g.C, .int .i64 g.R, .slice A g.L.length c], .agg #[.int .i64 g.X, .int .i64 g.Y, .int .i64 g.S, .int .i64 g.C, .int .i64 g.R, .slice B M.length d]] w fun e w' => e = .returned (.int .i64 (dfN g.L M g.L.length * (g.S * g.S))) ∧ Ext w w' := by
  have HAR := Lib.hid (fun w' => sarea_c g g.L.length w' A c hS)
  have HDB := Lib.hid (dfN_bound g.L M hd)
  have hb : 0 ≤ g.S * g.S ∧ g.S * g.S ≤ 10000 * 10000 := ⟨Int.mul_nonneg (by omega) (by omega), Int.mul_le_mul (by omega) (by omega) (by omega) (by omega)⟩
  have hpr : Hid (∀ x : Int, -60000000 ≤ x → x ≤ 60000000 → -6000000000000000 ≤ x * (g.S * g.S) ∧ x * (g.S * g.S) ≤ 6000000000000000) := Lib.hid (by
    intro x h1 h2
    have := mul_bound (x := x) (y := g.S * g.S) (M := 60000000) (N := 100000000) (by omega) (by omega) (by omega) (by omega)
    omega)
  have HV := Lib.hid hv
  have HU := Lib.hid hu
  have HM := Lib.hid hm
  generalize g.S * g.S = ar at *
  clear hd hm hv hu
  go_enter Try.func88, Try.ntmps88
  go_upto_region 2 with fail
  refine wp_name (fun W hW => ?_)
  have hEW : Ext w W := by rw [hW]; (repeat (first | with_reducible exact Ext.rfl' _ | with_reducible assumption | with_reducible refine Ext.al ?_ _ | with_reducible refine Ext.dr ?_ | with_reducible refine Ext.st ?_ (by simp) _ | with_reducible refine Ext.tr ?_ (by assumption)))
  have kg : CellsAt W w.heap.size 0 [.int .i64 g.X, .int .i64 g.Y, .int .i64 g.S, .int .i64 g.C, .int .i64 g.R, .slice A g.L.length c] := by rw [hW]; refine cells_six ⟨?_, ?_, ?_, ?_, ?_, ?_⟩ <;> simp [go_sem]
  have b5 : W.cell? ⟨w.heap.size + 1, 5, none⟩ = some (.slice B M.length d) := by rw [hW]; simp [go_sem]
  have z1 : w.heap.size + 1 < W.heap.size := by rw [hW]; simp
  have z0 : w.heap.size < W.heap.size := by omega
  clear hW
  obtain ⟨m0, m1, m2, m3, m4, m5⟩ := kg.six
  go_wp2
  go_loopw [5, 11] (fun s i wr => Ext W wr ∧ ∃ k : Nat, k ≤ g.L.length ∧ i = .int .i64 k ∧ s = .int .i64 (dfN g.L M k)) (fun _ i _ => g.L.length - (intOf i).toNat)
  case atStart => exact ⟨Ext.rfl' _, 0, Nat.zero_le _, rfl, rfl⟩
  case round =>
    clear m0 m1 m2 m3 m4 m5
    obtain ⟨hE, k, hk, rfl, rfl⟩ := hrel
    have hEr := hEW.tr hE
    obtain ⟨m0, m1, m2, m3, m4, m5⟩ := (kg.ext hE z0).six
    have b5r := (hE.ccell _ 5 z1).trans b5
    have y0 := hE.sz _ z0
    have y1 := hE.sz _ z1
    have hbk := HDB.out k
    by_cases hlt : k < g.L.length
    · obtain ⟨b, off, rfl, hb0, hcell⟩ := hA.p1 hlt
      have c0 := hcell _ hEr
      obtain ⟨b', off', rfl, hb0', hcell'⟩ := hB.p1 (k := k) (by rw [HM.out]; exact hlt)
      have c1 := hcell' _ hEr
      rw [← gi_lt] at c0 c1
      have hz := hEr.sz _ hb0
      have hz' := hEr.sz _ hb0'
      have hvk := HV.out k
      have huk := HU.out k
      have hkm : (k : Int) < (M.length : Int) := by rw [HM.out]; omega
      have hX : Hid (dfN g.L M (k + 1) = dfN g.L M k + (gi g.L k - gi M k)) := rfl
      clear hcell hcell'
      generalize gi g.L k = x at *
      generalize gi M k = y at *
      generalize dfN g.L M k = s at *
      go_wp2
      exact ⟨⟨by (repeat (first | with_reducible exact Ext.rfl' _ | with_reducible assumption | with_reducible refine Ext.al ?_ _ | with_reducible refine Ext.dr ?_ | with_reducible refine Ext.st ?_ (by simp) _ | with_reducible refine Ext.tr ?_ (by assumption))), k + 1, by omega, by go_num, by rw [hX.out]⟩, by simp [intOf]; omega⟩
    · have hks : k = g.L.length := by omega
      subst hks
      have hp := hpr.out (dfN g.L M g.L.length) (by omega) (by omega)
      obtain ⟨s, hs9⟩ : ∃ s, dfN g.L M g.L.length = s := ⟨_, rfl⟩
      rw [hs9] at hp ⊢
      have HS9 := Lib.hid hs9
      clear hs9
      go_wp2_with (first | (go_at_call 75; with_reducible refine Calls.mono (HAR.out _) ?_; rintro e w3 ⟨rfl, hb⟩; have hc := hb.ccell; have hf := hb.frz; have hs := hb.sz; (try simp at hs); (try have t0 := hs (w.heap.size) (by first | assumption | omega)); (try have t1 := hs (w.heap.size) (by first | assumption | omega)); (try have t2 := hs (w.heap.size) (by first | assumption | omega)); (try have t3 := hs (w.heap.size) (by first | assumption | omega)); (try have t4 := hs (w.heap.size) (by first | assumption | omega)); (try have t5 := hs (w.heap.size) (by first | assumption | omega))))
      go_ret
      exact ⟨ret_int (by rw [HS9.out]), by (repeat (first | with_reducible exact Ext.rfl' _ | with_reducible assumption | with_reducible refine Ext.al ?_ _ | with_reducible refine Ext.dr ?_ | with_reducible refine Ext.st ?_ (by simp) _ | with_reducible refine Ext.tr ?_ (by assumption)))⟩
/-- The error of a ground, or of a grid. -/
def cbE (soils : List So) (bos : List Bo) (g : Gr) : Int := if chkGr soils bos ≠ 0 then chkGr soils bos else chkG g
theorem cbE_ok {soils : List So} {bos : List Bo} {g : Gr} (h : cbE soils bos g = 0) : VGd soils bos ∧ chkG g = 0 := by
  unfold cbE at h
  by_cases h1 : chkGr soils bos = 0
  · rw [if_neg (by omega)] at h; exact ⟨chkGr_ok h1, h⟩
  · rw [if_pos h1] at h; exact absurd h h1
set_option maxHeartbeats 4000000 in
theorem checkBed_c (soils : List So) (bos : List Bo) (g : Gr) (w : World) (AS AB A : Option Addr) (cS cB c : Nat) (gw : GrW w soils AS bos AB) (hl : g.L.length ≤ maxLen) (hA : Row 1 encZ w A g.L) :
    Calls Try.prog 77 #[.agg #[.slice AS soils.length cS, .slice AB bos.length cB], .agg #[.int .i64 g.X, .int .i64 g.Y, .int .i64 g.S, .int .i64 g.C, .int .i64 g.R, .slice A g.L.length c]] w fun e w' => e = .returned (.int .i64 (cbE soils bos g)) ∧ Ext w w' := by
  have HG := Lib.hid (fun w' (hw : Ext w w') => checkGround_c soils bos w' AS AB cS cB (gw.ext hw))
  have HC := Lib.hid (fun w' (hw : Ext w w') => check_c g w' A c hl (hA.ext hw))
  unfold cbE
  clear gw
  by_cases h0 : chkGr soils bos = 0
  case neg =>
    rw [if_pos h0]
    have h0' : (chkGr soils bos != 0) = true := by simp [h0]
    clear h0
    generalize chkGr soils bos = E at *
    go_enter Try.func77, Try.ntmps77
    go_wp2_with (first | (go_at_call 18; with_reducible refine Calls.mono (HG.out _ (by (repeat (first | with_reducible exact Ext.rfl' _ | with_reducible assumption | with_reducible refine Ext.al ?_ _ | with_reducible refine Ext.dr ?_ | with_reducible refine Ext.st ?_ (by simp) _ | with_reducible refine Ext.tr ?_ (by assumption))))) ?_; rintro e w1 ⟨rfl, hb⟩; have hc := hb.ccell; have hf := hb.frz; have hs := hb.sz; (try simp at hs); (try have hs0 := hs w.heap.size (by omega)); (try have hs1 := hs (w.heap.size + 1) (by omega)); (try have hs2 := hs (w.heap.size + 1 + 1) (by omega)); (try have hs3 := hs (w.heap.size + 1 + 1 + 1) (by omega))))
    go_ret
    exact ⟨rfl, by (repeat (first | with_reducible exact Ext.rfl' _ | with_reducible assumption | with_reducible refine Ext.al ?_ _ | with_reducible refine Ext.dr ?_ | with_reducible refine Ext.st ?_ (by simp) _ | with_reducible refine Ext.tr ?_ (by assumption)))⟩
  rw [if_neg (by omega)]
  rw [h0] at HG
  generalize chkG g = E at *
  clear h0
  go_enter Try.func77, Try.ntmps77
  go_wp2_with (first | (go_at_call 18; with_reducible refine Calls.mono (HG.out _ (by (repeat (first | with_reducible exact Ext.rfl' _ | with_reducible assumption | with_reducible refine Ext.al ?_ _ | with_reducible refine Ext.dr ?_ | with_reducible refine Ext.st ?_ (by simp) _ | with_reducible refine Ext.tr ?_ (by assumption))))) ?_; rintro e w1 ⟨rfl, hb⟩; have hc := hb.ccell; have hf := hb.frz; have hs := hb.sz; (try simp at hs); (try have t0 := hs (w.heap.size) (by first | assumption | omega)); (try have t1 := hs (w.heap.size + 1) (by first | assumption | omega)); (try have t2 := hs (w.heap.size) (by first | assumption | omega)); (try have t3 := hs (w.heap.size) (by first | assumption | omega)); (try have t4 := hs (w.heap.size) (by first | assumption | omega)); (try have t5 := hs (w.heap.size) (by first | assumption | omega))) | (go_at_call 110; with_reducible refine Calls.mono (HC.out _ (by (repeat (first | with_reducible exact Ext.rfl' _ | with_reducible assumption | with_reducible refine Ext.al ?_ _ | with_reducible refine Ext.dr ?_ | with_reducible refine Ext.st ?_ (by simp) _ | with_reducible refine Ext.tr ?_ (by assumption))))) ?_; rintro e w1 ⟨rfl, hb⟩; have hc := hb.ccell; have hf := hb.frz; have hs := hb.sz; (try simp at hs); (try have hs0 := hs w.heap.size (by omega)); (try have hs1 := hs (w.heap.size + 1) (by omega)); (try have hs2 := hs (w.heap.size + 1 + 1) (by omega)); (try have hs3 := hs (w.heap.size + 1 + 1 + 1) (by omega))))
  go_ret
  exact ⟨rfl, by (repeat (first | with_reducible exact Ext.rfl' _ | with_reducible assumption | with_reducible refine Ext.al ?_ _ | with_reducible refine Ext.dr ?_ | with_reducible refine Ext.st ?_ (by simp) _ | with_reducible refine Ext.tr ?_ (by assumption)))⟩
/-- What Slump returns. -/
def OutSu (base : Nat) (ps : List (Nat × Nat)) (al : Nat → Nat → Int) (g : Gr) (e : Ending) (w' : World) : Prop :=
  ∃ L A c, e = .returned (.tuple #[.agg #[.int .i64 g.X, .int .i64 g.Y, .int .i64 g.S, .int .i64 g.C, .int .i64 g.R, .slice A L.length c], .int .i64 (dfN g.L L g.L.length * (g.S * g.S)), .int .i64 0]) ∧ NewZ base w' A c L ∧ IsSl ps al g.L L
set_option maxHeartbeats 8000000 in
set_option maxRecDepth 100000 in
theorem gslump_ok_c (soils : List So) (bos : List Bo) (g : Gr) (cn rn : Nat) (w : World) (AS AB A : Option Addr) (cS cB c : Nat) (gw : GrW w soils AS bos AB) (h0 : cbE soils bos g = 0) (hC : g.C = cn) (hR : g.R = rn) (hA : Row 1 encZ w A g.L) :
    Calls Try.prog 43 #[.agg #[.slice AS soils.length cS, .slice AB bos.length cB], .agg #[.int .i64 g.X, .int .i64 g.Y, .int .i64 g.S, .int .i64 g.C, .int .i64 g.R, .slice A g.L.length c]] w fun e w' => OutSu w.heap.size (prsN cn g.L.length (knB g.L) g.L.length) (alw g.S (rL soils bos g cn)) g e w' ∧ Ext w w' := by
  obtain ⟨v, hg0⟩ := cbE_ok h0
  have vg := chkG_ok hg0
  have hn : g.L.length ≤ 1024 := by
    obtain ⟨_, _, _, _, _, _, _, _, e7, e8⟩ := vg.nat
    omega
  have HC := Lib.hid (fun w' (hw : Ext w w') => by
    have h := checkBed_c soils bos g w' AS AB A cS cB c (gw.ext hw) (by unfold maxLen; omega) (hA.ext hw)
    rw [h0] at h
    exact h)
  have HS := Lib.hid (fun w' (hw : Ext w w') => slump_c soils bos g cn rn w' AS AB A cS cB c (gw.ext hw) v hg0 hC hR (hA.ext hw))
  generalize prsN cn g.L.length (knB g.L) g.L.length = ps at *
  generalize alw g.S (rL soils bos g cn) = al at *
  have hlv : ∀ i, -60000 ≤ gi g.L i ∧ gi g.L i ≤ 60000 := by
    intro i
    by_cases hi : i < g.L.length
    · rcases vg.lev i hi with h | h <;> omega
    · rw [gi_out _ _ (by omega)]; omega
  have HF := Lib.hid (fun (L : List Int) B d w' (hw : Ext w w') (hs : IsSl ps al g.L L) hB => fallen_c g L w' A B c d vg.hs hn hs.1.len (by
    intro i
    have h1 := hs.1.le i
    have h2 := hlv i
    by_cases hq : gi g.L i = 30000
    · rw [hs.1.unk i hq, hq]; omega
    · have h3 := hs.1.lo i hq
      by_cases hi : i < g.L.length
      · rcases vg.lev i hi with h | h <;> omega
      · rw [gi_out g.L _ (by omega)] at *; omega) (hA.ext hw) hB hlv (by
    intro i
    have h1 := hs.1.le i
    have h2 := hlv i
    by_cases hq : gi g.L i = 30000
    · rw [hs.1.unk i hq]; omega
    · have h3 := hs.1.lo i hq
      omega))
  clear hlv vg hg0 h0 v gw hA hC hR
  go_enter Try.func43, Try.ntmps43
  go_upto_region 5 with (first | (go_at_call 77; with_reducible refine Calls.mono (HC.out _ (by (repeat (first | with_reducible exact Ext.rfl' _ | with_reducible assumption | with_reducible refine Ext.al ?_ _ | with_reducible refine Ext.dr ?_ | with_reducible refine Ext.st ?_ (by simp) _ | with_reducible refine Ext.tr ?_ (by assumption))))) ?_; rintro e wk ⟨rfl, hb⟩; have hc := hb.ccell; have hf := hb.frz; have hs := hb.sz; (try simp at hs); (try have t0 := hs (w.heap.size) (by first | assumption | omega)); (try have t1 := hs (w.heap.size + 1) (by first | assumption | omega)); (try have t2 := hs (w.heap.size + 1 + 1) (by first | assumption | omega)); (try have t3 := hs (w.heap.size) (by first | assumption | omega)); (try have t4 := hs (w.heap.size) (by first | assumption | omega)); (try have t5 := hs (w.heap.size) (by first | assumption | omega))) | (go_at_call 87; (with_reducible refine Calls.mono (HS.out _ (by (repeat (first | with_reducible exact Ext.rfl' _ | with_reducible assumption | with_reducible refine Ext.al ?_ _ | with_reducible refine Ext.dr ?_ | with_reducible refine Ext.st ?_ (by simp) _ | with_reducible refine Ext.tr ?_ (by assumption))))) ?_); rintro e w2 ⟨⟨L, A2, c2, rfl, hN2, hIS⟩, hb⟩; have hc := hb.ccell; have hf := hb.frz; have hs := hb.sz; (try simp at hs); (try have t0 := hs (w.heap.size) (by first | assumption | omega)); (try have t1 := hs (w.heap.size + 1) (by first | assumption | omega)); (try have t2 := hs (w.heap.size + 1 + 1) (by first | assumption | omega)); (try have t3 := hs (w.heap.size) (by first | assumption | omega)); (try have t4 := hs (w.heap.size) (by first | assumption | omega)); (try have t5 := hs (w.heap.size) (by first | assumption | omega))))
  refine wp_name (fun W hW => ?_)
  have hE2 : Ext w2 W := by rw [hW]; (repeat (first | with_reducible exact Ext.rfl' _ | with_reducible assumption | with_reducible refine Ext.al ?_ _ | with_reducible refine Ext.dr ?_ | with_reducible refine Ext.st ?_ (by simp) _ | with_reducible refine Ext.tr ?_ (by assumption)))
  have hEW : Ext w W := by rw [hW]; (repeat (first | with_reducible exact Ext.rfl' _ | with_reducible assumption | with_reducible refine Ext.al ?_ _ | with_reducible refine Ext.dr ?_ | with_reducible refine Ext.st ?_ (by simp) _ | with_reducible refine Ext.tr ?_ (by assumption)))
  have km : CellsAt W (w.heap.size + 1) 0 [.int .i64 g.X, .int .i64 g.Y, .int .i64 g.S, .int .i64 g.C, .int .i64 g.R, .slice A g.L.length c] := by rw [hW]; refine cells_six ⟨?_, ?_, ?_, ?_, ?_, ?_⟩ <;> simp [*, go_sem]
  have kz : CellsAt W (w.heap.size + 1 + 1) 0 [.int .i64 0, .int .i64 0, .int .i64 0, .int .i64 0, .int .i64 0, .slice none 0 0] := by rw [hW]; refine cells_six ⟨?_, ?_, ?_, ?_, ?_, ?_⟩ <;> simp [*, go_sem]
  have ka : CellsAt W w2.heap.size 0 [.int .i64 g.X, .int .i64 g.Y, .int .i64 g.S, .int .i64 g.C, .int .i64 g.R, .slice A2 L.length c2] := by rw [hW]; refine cells_six ⟨?_, ?_, ?_, ?_, ?_, ?_⟩ <;> simp [*, go_sem]
  have fz : ∀ o, W.frozen? ⟨w.heap.size + 1 + 1, o, none⟩ = false := by intro o; rw [hW]; simp [*, go_sem]
  have z1 : w.heap.size + 1 < W.heap.size := by rw [hW]; simp; omega
  have z2 : w.heap.size + 1 + 1 < W.heap.size := by rw [hW]; simp; omega
  have z3 : w2.heap.size < W.heap.size := by rw [hW]; simp
  have hNW := Lib.hid (hN2.ext hE2)
  have hzw : w.heap.size + 1 + 1 < wk.heap.size := by assumption
  have HIS := Lib.hid hIS
  clear hW hb hc hf hs t0 t1 t2 t3 t4 t5 hE2 hN2 hIS
  have HFX := Lib.hid (fun w' (hw : Ext W w') => HF.out L A2 c2 w' (hEW.tr hw) HIS.out (hNW.out.row.ext hw))
  obtain ⟨m0, m1, m2, m3, m4, m5⟩ := km.six
  obtain ⟨a0, a1, a2, a3, a4, a5⟩ := ka.six
  obtain ⟨q0, q1, q2, q3, q4, q5⟩ := kz.six
  obtain ⟨fv, hfv⟩ : ∃ fv, dfN g.L L g.L.length * (g.S * g.S) = fv := ⟨_, rfl⟩
  rw [hfv] at HFX
  have HFV := Lib.hid hfv
  clear hfv
  refine region_grow_tail 4 (by kernel_rfl) (by kernel_rfl) ?_
  simp only [List.take_succ_cons, List.take_zero, List.drop_succ_cons, List.drop_zero]
  repeat (first | go_big_quiet_step (first | (go_at_call 88; with_reducible exact callsGrow (HFX.out _ (Grow.ok _))) | fail) | quiet_step (first | (go_at_call 88; with_reducible exact callsGrow (HFX.out _ (Grow.ok _))) | fail))
  refine wpQuiet_nil ?_
  intro w1 hb
  have hc := hb.ccell
  have hf := hb.frz
  have hs := hb.sz
  (try simp at hs); (try have hs0 := hs w.heap.size (by omega)); (try have hs1 := hs (w.heap.size + 1) (by omega)); (try have hs2 := hs (w.heap.size + 1 + 1) (by omega)); (try have hs3 := hs (w.heap.size + 1 + 1 + 1) (by omega))
  have hE1 : Ext W w1 := by assumption
  have kz1 := Lib.hid (kz.ext hE1 z2)
  have hEw1 := hEW.tr hE1
  have hN1 := Lib.hid (hNW.out.ext hE1)
  clear km ka kz
  go_wp2
  have hSL := stL_at (w.heap.size + 1 + 1) [.int .i64 g.X, .int .i64 g.Y, .int .i64 g.S, .int .i64 g.C, .int .i64 g.R, .slice A2 L.length c2] _ 0 w1 kz1.out rfl
  have hXL := stL_ext (w.heap.size + 1 + 1) (by omega) [.int .i64 g.X, .int .i64 g.Y, .int .i64 g.S, .int .i64 g.C, .int .i64 g.R, .slice A2 L.length c2] 0 w1 hEw1
  have hNL := hN1.out.stL hzw 0 [.int .i64 g.X, .int .i64 g.Y, .int .i64 g.S, .int .i64 g.C, .int .i64 g.R, .slice A2 L.length c2]
  show bodyPost _ _ _ _ _ (stL w1 (w.heap.size + 1 + 1) 0 [.int .i64 g.X, .int .i64 g.Y, .int .i64 g.S, .int .i64 g.C, .int .i64 g.R, .slice A2 L.length c2])
  generalize stL w1 (w.heap.size + 1 + 1) 0 [.int .i64 g.X, .int .i64 g.Y, .int .i64 g.S, .int .i64 g.C, .int .i64 g.R, .slice A2 L.length c2] = WL at hSL hXL hNL ⊢
  obtain ⟨s0, s1, s2, s3, s4, s5⟩ := hSL.six
  refine bodyPost_ret (v := .tuple #[.agg #[.int .i64 g.X, .int .i64 g.Y, .int .i64 g.S, .int .i64 g.C, .int .i64 g.R, .slice A2 L.length c2], .int .i64 fv, .int .i64 0]) (by simp [results, Try.results43, go_sem, s0, s1, s2, s3, s4, s5]) rfl ⟨⟨L, A2, c2, by rw [HFV.out], hNL.mono (by omega), HIS.out⟩, hXL⟩
end Go.Proofs.Ytohdplnlbnoojaa

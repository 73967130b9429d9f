/- SoilColumns: the law returns true for every input. Conditions: none. -/
import Derived.Test.YtohdplnlbnoojaaSlawpl
import Derived.Test.YtohdplnlbnoojaaScolp
namespace Go.Proofs.Ytohdplnlbnoojaa
open Go Go.RowKit Go.IntWalk

theorem mod_x (n m : Int) (w : World) (h0 : 0 < m) (h1 : m ≤ 4000000000000000000) :
    Calls Try.prog 29 #[.int .i64 n, .int .i64 m] w fun e w' => e = .returned (.int .i64 (n % m)) ∧ Ext w w' :=
  (mod_c n m w h0 h1).mono fun _ _ h => ⟨h.1, h.2 ▸ Ext.rfl' _⟩
theorem coE_ok {soils : List So} {bos : List Bo} {x y a b : Int} (h : coE soils bos x y a b = 0) : VGd soils bos ∧ plB x y = true ∧ lvB a = true ∧ lvB b = true ∧ b ≤ a ∧ chkGr soils bos = 0 := by
  unfold coE at h
  by_cases h1 : pcE soils bos x y [a, b] = 0
  · rw [if_neg (by omega)] at h
    obtain ⟨v, hp, hl⟩ := pcE_ok h1
    refine ⟨v, hp, hl 0 (by simp), hl 1 (by simp), ?_, ?_⟩
    · by_cases h2 : a < b
      · rw [if_pos h2] at h; cases h
      · omega
    · by_cases h2 : chkGr soils bos = 0
      · exact h2
      · rw [pcE_g h2] at h1; exact absurd h1 h2
  · rw [if_pos h1] at h; exact absurd h h1
theorem lvB_iff (z : Int) : lvB z = true ↔ -20000 ≤ z ∧ z ≤ 20000 := by
  unfold lvB withinB
  simp only [Bool.and_eq_true, decide_eq_true_eq]

set_option maxHeartbeats 32000000 in
set_option maxRecDepth 100000 in
theorem co_walk (soils : List So) (bos : List Bo) (x y a b c : Int) (w : World) (AS AB : Option Addr) (cS cB : Nat) (g : GrAny w soils AS bos AB) :
    Calls Try.prog 5 #[.agg #[.slice AS soils.length cS, .slice AB bos.length cB], .agg #[.int .i64 x, .int .i64 y], .agg #[.int .i64 a, .int .i64 b, .int .i64 c]] w fun e w' => e = .returned (.bool true) ∧ Ext w w' := by
  have HL := Lib.hid (fun w' (hw : Ext w w') => slight_c soils bos w' AS AB cS cB (g.ext hw))
  cases hB : slB soils bos
  · rw [hB] at HL
    clear hB g
    go_enter Try.func5, Try.ntmps5
    go_wp2_with (first | (go_at_call 14; with_reducible refine Calls.mono (awake_c _) ?_; rintro e wa ⟨rfl, hb⟩; have hc := hb.ccell; have hf := hb.frz; have hs := hb.sz; (try simp at hs); (try have t0 := hs (w.heap.size) (by first | assumption | omega)); (try have t1 := hs (w.heap.size + 1) (by first | assumption | omega)); (try have t2 := hs (w.heap.size + 1 + 1) (by first | assumption | omega)); (try have t3 := hs (w.heap.size) (by first | assumption | omega)); (try have t4 := hs (w.heap.size) (by first | assumption | omega)); (try have t5 := hs (w.heap.size) (by first | assumption | omega))) | (go_at_call 15; with_reducible refine Calls.mono (HL.out _ (by (repeat (first | with_reducible exact Ext.rfl' _ | with_reducible assumption | with_reducible refine Ext.al ?_ _ | with_reducible refine Ext.dr ?_ | with_reducible refine Ext.st ?_ (by simp) _ | with_reducible refine Ext.tr ?_ (by assumption))))) ?_; rintro e ws ⟨rfl, hb⟩; have hc := hb.ccell; have hf := hb.frz; have hs := hb.sz; (try simp at hs); (try have t0 := hs (w.heap.size) (by first | assumption | omega)); (try have t1 := hs (w.heap.size + 1) (by first | assumption | omega)); (try have t2 := hs (w.heap.size + 1 + 1) (by first | assumption | omega)); (try have t3 := hs (w.heap.size) (by first | assumption | omega)); (try have t4 := hs (w.heap.size) (by first | assumption | omega)); (try have t5 := hs (w.heap.size) (by first | assumption | omega))))
    go_ret
    exact ⟨rfl, by (repeat (first | with_reducible exact Ext.rfl' _ | with_reducible assumption | with_reducible refine Ext.al ?_ _ | with_reducible refine Ext.dr ?_ | with_reducible refine Ext.st ?_ (by simp) _ | with_reducible refine Ext.tr ?_ (by assumption)))⟩
  rw [hB] at HL
  have gw := g.small (slB_small hB)
  clear hB g
  have HCO := Lib.hid (fun w' (hw : Ext w w') => gcolumn_c soils bos x y a b w' AS AB cS cB (gw.ext hw))
  by_cases h0 : coE soils bos x y a b = 0
  case neg =>
    rw [coL_no h0] at HCO
    have h2 : (coE soils bos x y a b != 0) = true := by simp [h0]
    generalize coE soils bos x y a b = E at *
    clear h0 gw
    go_enter Try.func5, Try.ntmps5
    go_wp2_with (first | (go_at_call 14; with_reducible refine Calls.mono (awake_c _) ?_; rintro e wa ⟨rfl, hb⟩; have hc := hb.ccell; have hf := hb.frz; have hs := hb.sz; (try simp at hs); (try have t0 := hs (w.heap.size) (by first | assumption | omega)); (try have t1 := hs (w.heap.size + 1) (by first | assumption | omega)); (try have t2 := hs (w.heap.size + 1 + 1) (by first | assumption | omega)); (try have t3 := hs (w.heap.size) (by first | assumption | omega)); (try have t4 := hs (w.heap.size) (by first | assumption | omega)); (try have t5 := hs (w.heap.size) (by first | assumption | omega))) | (go_at_call 15; with_reducible refine Calls.mono (HL.out _ (by (repeat (first | with_reducible exact Ext.rfl' _ | with_reducible assumption | with_reducible refine Ext.al ?_ _ | with_reducible refine Ext.dr ?_ | with_reducible refine Ext.st ?_ (by simp) _ | with_reducible refine Ext.tr ?_ (by assumption))))) ?_; rintro e ws ⟨rfl, hb⟩; have hc := hb.ccell; have hf := hb.frz; have hs := hb.sz; (try simp at hs); (try have t0 := hs (w.heap.size) (by first | assumption | omega)); (try have t1 := hs (w.heap.size + 1) (by first | assumption | omega)); (try have t2 := hs (w.heap.size + 1 + 1) (by first | assumption | omega)); (try have t3 := hs (w.heap.size) (by first | assumption | omega)); (try have t4 := hs (w.heap.size) (by first | assumption | omega)); (try have t5 := hs (w.heap.size) (by first | assumption | omega))) | (go_at_call 22; (with_reducible refine Calls.mono (HCO.out _ (by (repeat (first | with_reducible exact Ext.rfl' _ | with_reducible assumption | with_reducible refine Ext.al ?_ _ | with_reducible refine Ext.dr ?_ | with_reducible refine Ext.st ?_ (by simp) _ | with_reducible refine Ext.tr ?_ (by assumption))))) ?_); rintro e w3 ⟨⟨Ac, cc, rfl, hRc⟩, hb⟩; have hc := hb.ccell; have hf := hb.frz; have hs := hb.sz; (try simp at hs); (try have t0 := hs (w.heap.size) (by first | assumption | omega)); (try have t1 := hs (w.heap.size + 1) (by first | assumption | omega)); (try have t2 := hs (w.heap.size + 1 + 1) (by first | assumption | omega)); (try have t3 := hs (w.heap.size) (by first | assumption | omega)); (try have t4 := hs (w.heap.size) (by first | assumption | omega)); (try have t5 := hs (w.heap.size) (by first | assumption | omega))))
    go_ret
    exact ⟨rfl, by (repeat (first | with_reducible exact Ext.rfl' _ | with_reducible assumption | with_reducible refine Ext.al ?_ _ | with_reducible refine Ext.dr ?_ | with_reducible refine Ext.st ?_ (by simp) _ | with_reducible refine Ext.tr ?_ (by assumption)))⟩
  obtain ⟨v, hp, la, lb, hab, hg⟩ := coE_ok h0
  rw [coL_ok h0, h0] at HCO
  have hn := nearB_lt v x y
  have hll := (gw.la _ hn).2.1
  have vb := v.b _ hn
  obtain ⟨hch, hok⟩ := col_ok hab vb.pos vb.desc
  have hlen := Nat.le_trans (colN_len (el bos (nearB bos x y)).l a b (el bos (nearB bos x y)).l.length) hll
  have HA := Lib.hid (fun p (hpm : p ∈ colN (el bos (nearB bos x y)).l a b (el bos (nearB bos x y)).l.length) q (h1 : p.b < q) (h2 : q ≤ p.t) w' (hw : Ext w w') => by
    have h := at_c soils bos x y q w' AS AB cS cB (gw.ext hw)
    have ho := hok p hpm
    have hq : lvB q = true := by
      rw [lvB_iff] at la lb ⊢
      have := ho.2.1
      have := ho.2.2.1
      omega
    rw [pcE_1 hg hp, if_pos hq, if_pos rfl] at h
    rw [show soilB bos x y q = p.s from ho.2.2.2 q h1 h2] at h
    exact h)
  rw [lvB_iff] at la lb
  have HOK := Lib.hid (fun p hpm => And.intro (hok p hpm).1 (And.intro (hok p hpm).2.1 (hok p hpm).2.2.1))
  clear h0 hp hn hll vb hok hg v gw
  generalize colN (el bos (nearB bos x y)).l a b (el bos (nearB bos x y)).l.length = L at *
  have HCH := Lib.hid (show chn a (L.drop 0) b from hch)
  clear hch
  go_enter Try.func5, Try.ntmps5
  go_upto_region 10 with (first | (go_at_call 14; with_reducible refine Calls.mono (awake_c _) ?_; rintro e wa ⟨rfl, hb⟩; have hc := hb.ccell; have hf := hb.frz; have hs := hb.sz; (try simp at hs); (try have t0 := hs (w.heap.size) (by first | assumption | omega)); (try have t1 := hs (w.heap.size + 1) (by first | assumption | omega)); (try have t2 := hs (w.heap.size + 1 + 1) (by first | assumption | omega)); (try have t3 := hs (w.heap.size) (by first | assumption | omega)); (try have t4 := hs (w.heap.size) (by first | assumption | omega)); (try have t5 := hs (w.heap.size) (by first | assumption | omega))) | (go_at_call 15; with_reducible refine Calls.mono (HL.out _ (by (repeat (first | with_reducible exact Ext.rfl' _ | with_reducible assumption | with_reducible refine Ext.al ?_ _ | with_reducible refine Ext.dr ?_ | with_reducible refine Ext.st ?_ (by simp) _ | with_reducible refine Ext.tr ?_ (by assumption))))) ?_; rintro e ws ⟨rfl, hb⟩; have hc := hb.ccell; have hf := hb.frz; have hs := hb.sz; (try simp at hs); (try have t0 := hs (w.heap.size) (by first | assumption | omega)); (try have t1 := hs (w.heap.size + 1) (by first | assumption | omega)); (try have t2 := hs (w.heap.size + 1 + 1) (by first | assumption | omega)); (try have t3 := hs (w.heap.size) (by first | assumption | omega)); (try have t4 := hs (w.heap.size) (by first | assumption | omega)); (try have t5 := hs (w.heap.size) (by first | assumption | omega))) | (go_at_call 22; (with_reducible refine Calls.mono (HCO.out _ (by (repeat (first | with_reducible exact Ext.rfl' _ | with_reducible assumption | with_reducible refine Ext.al ?_ _ | with_reducible refine Ext.dr ?_ | with_reducible refine Ext.st ?_ (by simp) _ | with_reducible refine Ext.tr ?_ (by assumption))))) ?_); rintro e w3 ⟨⟨Ac, cc, rfl, hRc⟩, hb⟩; have hc := hb.ccell; have hf := hb.frz; have hs := hb.sz; (try simp at hs); (try have t0 := hs (w.heap.size) (by first | assumption | omega)); (try have t1 := hs (w.heap.size + 1) (by first | assumption | omega)); (try have t2 := hs (w.heap.size + 1 + 1) (by first | assumption | omega)); (try have t3 := hs (w.heap.size) (by first | assumption | omega)); (try have t4 := hs (w.heap.size) (by first | assumption | omega)); (try have t5 := hs (w.heap.size) (by first | assumption | omega))))
  refine wp_name (fun W hW => ?_)
  have hEW : Ext w W := by rw [hW]; (repeat (first | with_reducible exact Ext.rfl' _ | with_reducible assumption | with_reducible refine Ext.al ?_ _ | with_reducible refine Ext.dr ?_ | with_reducible refine Ext.st ?_ (by simp) _ | with_reducible refine Ext.tr ?_ (by assumption)))
  have hRW : Row 3 encPa W Ac L := by rw [hW]; exact hRc
  have r0 : W.cell? ⟨w.heap.size, 0, none⟩ = some (.slice AS soils.length cS) := by rw [hW]; simp [*, go_sem]
  have r1 : W.cell? ⟨w.heap.size, 1, none⟩ = some (.slice AB bos.length cB) := by rw [hW]; simp [*, go_sem]
  have p0 : W.cell? ⟨w.heap.size + 1, 0, none⟩ = some (.int .i64 x) := by rw [hW]; simp [*, go_sem]
  have p1 : W.cell? ⟨w.heap.size + 1, 1, none⟩ = some (.int .i64 y) := by rw [hW]; simp [*, go_sem]
  have q1 : W.cell? ⟨w.heap.size + 1 + 1, 1, none⟩ = some (.int .i64 b) := by rw [hW]; simp [*, go_sem]
  have q2 : W.cell? ⟨w.heap.size + 1 + 1, 2, none⟩ = some (.int .i64 c) := by rw [hW]; simp [*, go_sem]
  have hz2 : w.heap.size + 1 + 1 < W.heap.size := by rw [hW]; assumption
  have hz1 : w.heap.size + 1 < W.heap.size := by omega
  have hz0 : w.heap.size < W.heap.size := by omega
  have HRW := Lib.hid hRW
  clear hW hRW hRc hb hc hf hs t0 t1 t2 t3 t4 t5
  go_loopw [9, 10] (fun lv i wr => Ext W wr ∧ ∃ k : Nat, k ≤ L.length ∧ i = .int .i64 k ∧ ∃ v, lv = .int .i64 v ∧ Hid (chn v (L.drop k) b)) (fun _ i _ => L.length - (intOf i).toNat)
  case atStart => exact ⟨Ext.rfl' _, 0, Nat.zero_le _, rfl, a, rfl, HCH⟩
  case round =>
    obtain ⟨hE, k, hk, rfl, v, rfl, hC⟩ := hrel
    have hEr := hEW.tr hE
    have r0' := (hE.ccell _ 0 hz0).trans r0
    have r1' := (hE.ccell _ 1 hz0).trans r1
    have p0' := (hE.ccell _ 0 hz1).trans p0
    have p1' := (hE.ccell _ 1 hz1).trans p1
    have q1' := (hE.ccell _ 1 hz2).trans q1
    have q2' := (hE.ccell _ 2 hz2).trans q2
    have z0 := hE.sz _ hz0
    have z1 := hE.sz _ hz1
    have z2 := hE.sz _ hz2
    clear r0 r1 p0 p1 q1 q2
    by_cases hlt : k < L.length
    · obtain ⟨bb, off, rfl, hb0, hcell⟩ := HRW.out.pa hlt
      obtain ⟨e0, e1, e2⟩ := hcell _ hE
      have hzb := hE.sz _ hb0
      obtain ⟨hpv, hCn⟩ := chn_drop hC.out hlt
      have hmem : el L k ∈ L := by rw [el_lt _ _ hlt]; exact List.getElem_mem hlt
      have HCn := Lib.hid hCn
      have HAp := Lib.hid (fun q h1 h2 w' (hw : Ext wr w') => HA.out (el L k) hmem q h1 h2 w' (hEr.tr hw))
      obtain ⟨h1, h2, h3⟩ := HOK.out (el L k) hmem
      clear hcell hCn hmem hC
      generalize el L k = p at *
      obtain ⟨ps, pt, pb⟩ := p
      dsimp only at *
      subst hpv
      have hnb : ¬ pt ≤ pb := by omega
      obtain ⟨d, hd⟩ : ∃ d, pt - pb = d := ⟨_, rfl⟩
      have hw1 : IntKind.i64.wrap (pt - pb) = d := by rw [hd]; exact IntWalk.i64_in _ (by omega)
      have hd0 : 0 < d := by omega
      have hd1 : d ≤ 4000000000000000000 := by omega
      have m1 := Int.emod_nonneg c (show d ≠ 0 by omega)
      have m2 := Int.emod_lt_of_pos c hd0
      have HMO := Lib.hid (fun w' => mod_x c d w' hd0 hd1)
      generalize c % d = r at *
      obtain ⟨q, hq⟩ : ∃ q, pt - r = q := ⟨_, rfl⟩
      have hw2 : IntKind.i64.wrap (pt - r) = q := by rw [hq]; exact IntWalk.i64_in _ (by omega)
      have HAQ := Lib.hid (fun w' hw => HAp.out q (by omega) (by omega) w' hw)
      clear HAp hd hq m1 m2 h1 h2 h3 hd0 hd1
      go_upto_region 15 with fail
      refine region_grow (by kernel_rfl) (by kernel_rfl) ?_
      repeat (first | go_big_quiet_step (first | (go_at_call 29; with_reducible exact callsGrow (HMO.out _)) | (go_at_call 21; with_reducible exact callsGrow (HAQ.out _ (Grow.ok _))) | fail) | quiet_step (first | (go_at_call 29; with_reducible exact callsGrow (HMO.out _)) | (go_at_call 21; with_reducible exact callsGrow (HAQ.out _ (Grow.ok _))) | fail))
      refine wpQuiet_nil ?_
      intro w1 hb
      have hc := hb.ccell
      have hf := hb.frz
      have hs := hb.sz
      (try simp at hs); (try have hs0 := hs w.heap.size (by omega)); (try have hs1 := hs (w.heap.size + 1) (by omega)); (try have hs2 := hs (w.heap.size + 1 + 1) (by omega)); (try have hs3 := hs (w.heap.size + 1 + 1 + 1) (by omega))
      (try simp only [IntWalk.i64_left])
      have hE1 : Ext wr w1 := by assumption
      have e0' := (hE1.ccell _ _ hzb).trans e0
      go_wp2
      exact ⟨⟨hE.tr hE1, k + 1, by omega, by go_num, pb, rfl, HCn⟩, by simp [intOf]; omega⟩
    · have hvb := chn_end hC.out (by omega)
      subst hvb
      go_wp2
      go_ret
      exact ⟨rfl, hEr⟩
end Go.Proofs.Ytohdplnlbnoojaa

/- The contracts of the reference's softest, Allowed. -/
import Derived.Test.YtdbabihjnhnnfaaGreatSrnear
import Derived.Test.YtdbabihjnhnnfaaGreatSref
import Derived.Test.YtdbabihjnhnnfaaGreatScen
import Derived.Test.YtdbabihjnhnnfaaGreatSsoft
import Derived.Test.YtdbabihjnhnnfaaGreatSslo2
namespace Go.Proofs.YtdbabihjnhnnfaaGreat
open Go Go.RowKit Go.IntWalk

/-- The greatest run of the soils of the first layers. -/
def rsN (soils : List So) (l : List La) : Nat → Int
  | 0 => 0
  | k + 1 => max (rsN soils l k) (el soils (sofI soils (el l k).s).toNat).run
theorem rsN_nonneg (soils : List So) (l : List La) : ∀ k, 0 ≤ rsN soils l k
  | 0 => Int.le_refl _
  | k + 1 => by have := rsN_nonneg soils l k; rw [rsN]; omega
theorem rsN_ge (soils : List So) (l : List La) : ∀ {n k : Nat}, k < n → (el soils (sofI soils (el l k).s).toNat).run ≤ rsN soils l n
  | 0, _, h => absurd h (Nat.not_lt_zero _)
  | n + 1, k, h => by
    rw [rsN]
    by_cases hn : k = n
    · subst hn; omega
    · have := rsN_ge soils l (n := n) (k := k) (by omega); omega
theorem rsN_le (soils : List So) (l : List La) {M : Int} (h0 : 0 ≤ M) : ∀ n, (∀ k, k < n → (el soils (sofI soils (el l k).s).toNat).run ≤ M) → rsN soils l n ≤ M
  | 0, _ => h0
  | n + 1, h => by
    have h1 := rsN_le soils l h0 n fun k hk => h k (by omega)
    have h2 := h n (by omega)
    rw [rsN]; omega
theorem softN_le {soils : List So} (l : List La) {M : Int} (h0 : 0 ≤ M) : ∀ n, (∀ k, k < n → hasLa l (el soils k).s = true → (el soils k).run ≤ M) → softN soils l n ≤ M
  | 0, _ => h0
  | n + 1, h => by
    have h1 := softN_le l h0 n fun k hk => h k (by omega)
    rw [softN]
    split
    · have h2 := h n (by omega) (by assumption); omega
    · exact h1
/-- The soil of a name: its number. -/
theorem sofI_at {soils : List So} {s : ByteArray} (h : hasSoil soils s = true) : ∃ j, j < soils.length ∧ sofI soils s = (j : Int) ∧ (el soils j).s = s := by
  rw [← sofI_has] at h
  obtain ⟨k, hk, h1, h2, _⟩ := firstI_yes _ (of_decide_eq_true h)
  exact ⟨k, hk, h1, (sameS_iff _ _).1 h2⟩
theorem rs_soft {soils : List So} (v : VS soils) {l : List La} (h : ∀ k, k < l.length → hasSoil soils (el l k).s = true) : rsN soils l l.length = softN soils l soils.length := by
  apply Int.le_antisymm
  · refine rsN_le soils l (softN_nonneg _ _ _) _ fun k hk => ?_
    obtain ⟨j, hj, h1, h2⟩ := sofI_at (h k hk)
    rw [h1]
    exact softN_ge l _ j hj (anyN_at _ hk (by rw [sameS_iff]; exact h2.symm))
  · refine softN_le l (rsN_nonneg _ _ _) _ fun j hj hh => ?_
    obtain ⟨k, hk, hs⟩ := (anyN_iff _ _).1 hh
    obtain ⟨j', hj', h1, h2⟩ := sofI_at (h k hk)
    have hs := (sameS_iff _ _).1 hs
    have hjj : j' = j := by
      rcases Nat.lt_trichotomy j' j with h3 | h3 | h3
      · have := v.one j' j h3 hj
        rw [h2, hs, sameS_self] at this
        cases this
      · exact h3
      · have := v.one j j' h3 hj'
        rw [h2, hs, sameS_self] at this
        cases this
    have h3 := rsN_ge soils l (n := l.length) hk
    rw [h1, hjj] at h3
    exact h3
set_option maxHeartbeats 8000000 in
theorem rsoftest_c (soils : List So) (bos : List Bo) (x y : Int) (w : World) (AS AB : Option Addr) (cS cB : Nat) (g : GrW w soils AS bos AB) (v : VGd soils bos) (hp : plB x y = true) :
    Calls Tryz.prog 57 #[.agg #[.slice AS soils.length cS, .slice AB bos.length cB], .agg #[.int .i64 x, .int .i64 y]] w fun e w' => e = .returned (.int .i64 (runB soils bos x y)) ∧ Ext w w' := by
  have HNE := Lib.hid (fun w' (hw : Ext w w') => rnearest_c soils bos x y w' AS AB cS cB (g.ext hw) v hp)
  have hn := nearB_lt v x y
  have hlen : bos.length ≤ 1000 := g.lb
  have vb := (v.b _ hn).pos
  have hla := (g.la _ hn).1
  have hll := (g.la _ hn).2.1
  have hhas := Lib.hid (v.b _ hn).has
  have hrs := rs_soft v.s (v.b _ hn).has
  have HSO := Lib.hid (fun s w' (hw : Ext w w') => soilOf_c soils s w' AS cS g.ls (g.so.ext hw))
  have HS := Lib.hid g.so
  have hls := g.ls
  unfold runB
  rw [← hrs]
  obtain ⟨b, off, rfl, hb0, hcell⟩ := g.bo.bo hn
  generalize nearB bos x y = n at *
  clear g v hrs
  generalize el bos n = u at *
  obtain ⟨us, ux, uy, l, A, c⟩ := u
  dsimp only at *
  have hLA := Lib.hid hla
  obtain ⟨N, hN⟩ : ∃ N, rsN soils l l.length = N := ⟨_, rfl⟩
  rw [hN]
  have HN := Lib.hid hN
  clear hla hN
  go_enter Tryz.func57, Tryz.ntmps57
  go_upto_region 1 with fail
  refine wp_name (fun W hW => ?_)
  have hEW : Ext w W := by rw [hW]; (repeat (first | with_reducible exact Ext.rfl' _ | with_reducible assumption | with_reducible refine Ext.al ?_ _ | with_reducible refine Ext.dr ?_ | with_reducible refine Ext.st ?_ (by simp) _ | with_reducible refine Ext.tr ?_ (by assumption)))
  have r0 : W.cell? ⟨w.heap.size, 0, none⟩ = some (.slice AS soils.length cS) := by rw [hW]; simp [go_sem]
  have r1 : W.cell? ⟨w.heap.size, 1, none⟩ = some (.slice (some ⟨b, off, none⟩) bos.length cB) := by rw [hW]; simp [go_sem]
  have s0 : W.cell? ⟨w.heap.size + 1, 0, none⟩ = some (.int .i64 x) := by rw [hW]; simp [go_sem]
  have s1 : W.cell? ⟨w.heap.size + 1, 1, none⟩ = some (.int .i64 y) := by rw [hW]; simp [go_sem]
  have hz1 : w.heap.size + 1 < W.heap.size := by rw [hW]; simp
  have hz0 : w.heap.size < W.heap.size := by omega
  have hbW := hEW.sz _ hb0
  obtain ⟨_, _, _, e3⟩ := hcell _ hEW
  clear hW hcell hb0
  refine region_grow (by kernel_rfl) (by kernel_rfl) ?_
  repeat (first | go_big_quiet_step (first | (go_at_call 75; with_reducible exact callsGrow (HNE.out _ (hEW.tr (Grow.ok _)))) | fail) | quiet_step (first | (go_at_call 75; with_reducible exact callsGrow (HNE.out _ (hEW.tr (Grow.ok _)))) | fail))
  refine wpQuiet_nil ?_
  intro w1 hb
  have hc := hb.ccell
  have hf := hb.frz
  have hs := hb.sz
  (try simp at hs); (try have hs0 := hs w.heap.size (by omega)); (try have hs1 := hs (w.heap.size + 1) (by omega)); (try have hs2 := hs (w.heap.size + 1 + 1) (by omega)); (try have hs3 := hs (w.heap.size + 1 + 1 + 1) (by omega))
  (try simp only [IntWalk.i64_left])
  have hE1 : Ext W w1 := by assumption
  have hE01 := hEW.tr hE1
  have q0 := (hE1.ccell _ 0 hz0).trans r0
  have z0 := hE1.sz _ hz0
  clear hb hc hf hs hs0 hs1 e3
  go_wp2
  go_loopw [6, 7] (fun o i wr => Ext w1 wr ∧ ∃ k : Nat, k ≤ l.length ∧ i = .int .i64 k ∧ ∃ N, o = .int .i64 N ∧ Hid (N = rsN soils l k)) (fun _ i _ => l.length - (intOf i).toNat)
  case atStart => exact ⟨Ext.rfl' _, 0, Nat.zero_le _, rfl, 0, rfl, rfl⟩
  case round =>
    obtain ⟨hE, k, hk, rfl, M, rfl, hM⟩ := hrel
    have hEr := hE01.tr hE
    have q0' := (hE.ccell _ 0 z0).trans q0
    have z0' := hE.sz _ z0
    by_cases hlt : k < l.length
    · obtain ⟨b', off', rfl, hb', hc'⟩ := hLA.out.la hlt
      obtain ⟨_, e1⟩ := hc' _ hEr
      have hzb := hEr.sz _ hb'
      obtain ⟨j, hj, hsi, _⟩ := sofI_at (hhas.out k hlt)
      have HX : Hid (rsN soils l (k + 1) = max (rsN soils l k) (el soils (sofI soils (el l k).s).toNat).run) := rfl
      have HSK := Lib.hid (fun w' (hw : Ext wr w') => HSO.out (el l k).s w' (hEr.tr hw))
      rw [hsi] at HSK HX
      obtain ⟨b2, off2, rfl, hb2, hc2⟩ := HS.out.so hj
      obtain ⟨_, c1, _⟩ := hc2 _ hEr
      have hz2 := hEr.sz _ hb2
      have hji : (j : Int) < (soils.length : Int) := by omega
      rw [show ((j : Int)).toNat = j from Int.toNat_natCast j, ← hM.out] at HX
      clear hc' hc2 hsi
      generalize el l k = u at *
      generalize el soils j = so at *
      go_upto_region 6 with fail
      refine region_grow (by kernel_rfl) (by kernel_rfl) ?_
      repeat (first | go_big_quiet_step (first | (go_at_call 48; with_reducible exact callsGrow (HSK.out _ (Grow.ok _))) | fail) | quiet_step (first | (go_at_call 48; with_reducible exact callsGrow (HSK.out _ (Grow.ok _))) | fail))
      refine wpQuiet_nil ?_
      intro w1 hb
      have hc := hb.ccell
      have hf := hb.frz
      have hs := hb.sz
      (try simp at hs); (try have hs0 := hs w.heap.size (by omega)); (try have hs1 := hs (w.heap.size + 1) (by omega)); (try have hs2 := hs (w.heap.size + 1 + 1) (by omega)); (try have hs3 := hs (w.heap.size + 1 + 1 + 1) (by omega))
      (try simp only [IntWalk.i64_left])
      have hE2 : Ext wr w1 := by assumption
      go_wp2
      exact ⟨⟨hE.tr hE2, k + 1, by omega, by go_num, max M so.run, rfl, HX.out.symm⟩, by simp [intOf]; omega⟩
    · have hks : k = l.length := by omega
      have HT : Hid (M = N) := Lib.hid (by rw [← HN.out, ← hks]; exact hM.out)
      go_wp2
      go_ret
      exact ⟨ret_int HT.out, hEr⟩
theorem gi_mkI_rF (soils : List So) (bos : List Bo) (g : Gr) (cn i : Nat) (h : i < g.L.length) : gi (rL soils bos g cn) i = runB soils bos (ctX g cn i) (ctY g cn i) := by unfold rL; rw [mkI_gi _ _ _ h]; rfl
set_option maxHeartbeats 8000000 in
theorem rallowed_c (soils : List So) (bos : List Bo) (g : Gr) (cn a b : Nat) (w : World) (AS AB A : Option Addr) (cS cB c : Nat) (gw : GrW w soils AS bos AB) (v : VGd soils bos) (vg : VG g) (hC : g.C = cn) (ha : a < g.L.length) (hb : b < g.L.length) :
    Calls Tryz.prog 34 #[.agg #[.slice AS soils.length cS, .slice AB bos.length cB], .agg #[.int .i64 g.X, .int .i64 g.Y, .int .i64 g.S, .int .i64 g.C, .int .i64 g.R, .slice A g.L.length c], .int .i64 a, .int .i64 b] w fun e w' => e = .returned (.int .i64 (alw g.S (rL soils bos g cn) a b)) ∧ Ext w w' := by
  have HCA := Lib.hid (fun w' => rcentre_c g cn a w' A c vg hC ha)
  have HCB := Lib.hid (fun w' => rcentre_c g cn b w' A c vg hC hb)
  have HSA := Lib.hid (fun w' (hw : Ext w w') => rsoftest_c soils bos (ctX g cn a) (ctY g cn a) w' AS AB cS cB (gw.ext hw) v (ct_in vg hC ha))
  have HSB := Lib.hid (fun w' (hw : Ext w w') => rsoftest_c soils bos (ctX g cn b) (ctY g cn b) w' AS AB cS cB (gw.ext hw) v (ct_in vg hC hb))
  have p1 := runB_pos v (ctX g cn a) (ctY g cn a)
  have p2 := runB_pos v (ctX g cn b) (ctY g cn b)
  have hS := vg.hs
  unfold alw
  rw [gi_mkI_rF _ _ _ _ _ ha, gi_mkI_rF _ _ _ _ _ hb]
  generalize runB soils bos (ctX g cn a) (ctY g cn a) = ra at *
  generalize runB soils bos (ctX g cn b) (ctY g cn b) = rb at *
  generalize ctX g cn a = xa at *
  generalize ctY g cn a = ya at *
  generalize ctX g cn b = xb at *
  generalize ctY g cn b = yb at *
  clear gw v vg hC ha hb
  go_enter Tryz.func34, Tryz.ntmps34
  go_upto_region 1 with fail
  refine wp_name (fun W hW => ?_)
  have hEW : Ext w W := by rw [hW]; (repeat (first | with_reducible exact Ext.rfl' _ | with_reducible assumption | with_reducible refine Ext.al ?_ _ | with_reducible refine Ext.dr ?_ | with_reducible refine Ext.st ?_ (by simp) _ | with_reducible refine Ext.tr ?_ (by assumption)))
  have r0 : W.cell? ⟨w.heap.size, 0, none⟩ = some (.slice AS soils.length cS) := by rw [hW]; simp [go_sem]
  have r1 : W.cell? ⟨w.heap.size, 1, none⟩ = some (.slice AB bos.length cB) := by rw [hW]; simp [go_sem]
  have km : CellsAt W (w.heap.size + 1) 0 [.int .i64 g.X, .int .i64 g.Y, .int .i64 g.S, .int .i64 g.C, .int .i64 g.R, .slice A g.L.length c] := by rw [hW]; refine cells_six ⟨?_, ?_, ?_, ?_, ?_, ?_⟩ <;> simp [go_sem]
  obtain ⟨m0, m1, m2, m3, m4, m5⟩ := km.six
  have hz1 : w.heap.size + 1 < W.heap.size := by rw [hW]; simp
  have hz0 : w.heap.size < W.heap.size := by omega
  clear hW
  refine region_grow (by kernel_rfl) (by kernel_rfl) ?_
  repeat (first | go_big_quiet_step (first | (go_at_call 58; with_reducible exact callsGrow (HCA.out _)) | (go_at_call 58; with_reducible exact callsGrow (HCB.out _)) | (go_at_call 57; with_reducible exact callsGrow (HSA.out _ (hEW.tr (Grow.ok _)))) | (go_at_call 57; with_reducible exact callsGrow (HSB.out _ (hEW.tr (Grow.ok _)))) | fail) | quiet_step (first | (go_at_call 58; with_reducible exact callsGrow (HCA.out _)) | (go_at_call 58; with_reducible exact callsGrow (HCB.out _)) | (go_at_call 57; with_reducible exact callsGrow (HSA.out _ (hEW.tr (Grow.ok _)))) | (go_at_call 57; with_reducible exact callsGrow (HSB.out _ (hEW.tr (Grow.ok _)))) | fail))
  refine wpQuiet_nil ?_
  intro w1 hb
  have hc := hb.ccell
  have hf := hb.frz
  have hs := hb.sz
  (try simp at hs); (try have hs0 := hs w.heap.size (by omega)); (try have hs1 := hs (w.heap.size + 1) (by omega)); (try have hs2 := hs (w.heap.size + 1 + 1) (by omega)); (try have hs3 := hs (w.heap.size + 1 + 1 + 1) (by omega))
  (try simp only [IntWalk.i64_left])
  have hE1 : Ext W w1 := by assumption
  go_wp2
  go_ret
  exact ⟨ret_int (by simp), hEW.tr hE1⟩
end Go.Proofs.YtdbabihjnhnnfaaGreat

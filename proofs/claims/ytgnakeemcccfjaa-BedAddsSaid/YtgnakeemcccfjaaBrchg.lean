/- Contracts of the reference's part, Change and Plus. -/
import Derived.Test.YtgnakeemcccfjaaBover
import Derived.Test.YtgnakeemcccfjaaBnear
namespace Go.Proofs.Ytgnakeemcccfjaa
open Go Go.RowKit Go.IntWalk

theorem ite_min (a b : Int) : (if b < a then b else a) = min a b := by split <;> omega
theorem ite_max (a b : Int) : (if a < b then b else a) = max a b := by split <;> omega
def partI (a b lo hi : Int) : Int := max 0 (min b hi - max a lo)
theorem part_c (a b lo hi : Int) (w : World) (ha : -40000 ≤ a ∧ a ≤ 40000) (hb : -40000 ≤ b ∧ b ≤ 40000) (hlo : -40000 ≤ lo ∧ lo ≤ 40000) (hhi : -40000 ≤ hi ∧ hi ≤ 40000) :
    Calls Try.prog 128 #[.int .i64 a, .int .i64 b, .int .i64 lo, .int .i64 hi] w fun e w' => e = .returned (.int .i64 (partI a b lo hi)) ∧ Ext w w' := by
  unfold partI
  go_enter Try.func128, Try.ntmps128
  go_wp2
  go_ret
  exact ⟨ret_int (by first | (simp only; omega) | omega), by (repeat (first | with_reducible exact Ext.rfl' _ | with_reducible assumption | with_reducible refine Ext.al ?_ _ | with_reducible refine Ext.dr ?_ | with_reducible refine Ext.st ?_ (by simp) _ | with_reducible refine Ext.tr ?_ (by assumption)))⟩
/-- The reference's change of a cell between two levels. -/
def rcutC (s a b lo hi : Int) : Int := if a = 30000 ∨ b = 30000 then 0 else s * s * partI b a lo hi
theorem rcut_layer {s lo hi a b : Int} (h : -20000 ≤ lo ∧ lo ≤ hi ∧ hi ≤ 20000) : rcutC s a b lo hi = cutC s (mvI lo hi a) (mvI lo hi b) := by
  unfold rcutC partI
  by_cases hu : a = 30000 ∨ b = 30000
  · rw [if_pos hu]
    unfold cutC
    rw [if_pos (by rw [mvI_lev h, mvI_lev h]; exact hu)]
  · rw [if_neg hu]
    exact cut_layer h hu
theorem rcut_whole {s a b : Int} (ha : a = 30000 ∨ (-20000 ≤ a ∧ a ≤ 20000)) (hb : b = 30000 ∨ (-20000 ≤ b ∧ b ≤ 20000)) : rcutC s a b (-20000) 20000 = cutC s a b := by
  unfold rcutC
  by_cases hu : a = 30000 ∨ b = 30000
  · rw [if_pos hu]
    unfold cutC
    rw [if_pos hu]
  · rw [if_neg hu]
    exact cut_whole (by omega) (by omega)
theorem partI_bd {a b lo hi : Int} (hlo : -20000 ≤ lo) (hhi : hi ≤ 20000) : 0 ≤ partI a b lo hi ∧ partI a b lo hi ≤ 40000 := by unfold partI; omega
theorem rcut_bd {s a b lo hi : Int} (h0 : 0 ≤ s) (h1 : s ≤ 10000) (hlo : -20000 ≤ lo) (hhi : hi ≤ 20000) : 0 ≤ rcutC s a b lo hi ∧ rcutC s a b lo hi ≤ 4000000000000 := by
  unfold rcutC
  split
  · omega
  · have h2 : 0 ≤ s * s := Int.mul_nonneg h0 h0
    have h3 : s * s ≤ 10000 * 10000 := Int.mul_le_mul h1 h1 h0 (by omega)
    obtain ⟨p0, p1⟩ := partI_bd (a := b) (b := a) hlo hhi
    have h4 : s * s * partI b a lo hi ≤ (10000 * 10000) * 40000 := Int.mul_le_mul h3 p1 p0 (by omega)
    have h5 : 0 ≤ s * s * partI b a lo hi := Int.mul_nonneg h2 p0
    omega
set_option maxHeartbeats 8000000 in
set_option maxRecDepth 100000 in
theorem rchange_c (g h : Gr) (i : Nat) (lo hi : Int) (w : World) (A B : Option Addr) (c d : Nat) (hs0 : 0 ≤ g.S) (hs1 : g.S ≤ 10000) (hig : i < g.L.length) (hih : i < h.L.length) (hg : gi g.L i = 30000 ∨ (-20000 ≤ gi g.L i ∧ gi g.L i ≤ 20000)) (hh : gi h.L i = 30000 ∨ (-20000 ≤ gi h.L i ∧ gi h.L i ≤ 20000))
    (hlo : -20000 ≤ lo ∧ lo ≤ 20000) (hhi : -20000 ≤ hi ∧ hi ≤ 20000) (hA : Row 1 encZ w A g.L) (hB : Row 1 encZ w B h.L) :
    Calls Try.prog 89 #[.agg #[.int .i64 g.X, .int .i64 g.Y, .int .i64 g.S, .int .i64 g.C, .int .i64 g.R, .slice A g.L.length c], .agg #[.int .i64 h.X, .int .i64 h.Y, .int .i64 h.S, .int .i64 h.C, .int .i64 h.R, .slice B h.L.length d], .int .i64 i, .int .i64 lo, .int .i64 hi] w
      fun e w' => e = .returned (.agg #[.int .i64 (rcutC g.S (gi g.L i) (gi h.L i) lo hi), .int .i64 (rcutC g.S (gi h.L i) (gi g.L i) lo hi), .int .i64 (unkC (gi g.L i) (gi h.L i))]) ∧ Ext w w' := by
  obtain ⟨b, off, rfl, hb0, hca⟩ := hA.p1 hig
  obtain ⟨b', off', rfl, hb1, hcb⟩ := hB.p1 hih
  have ca := hca _ (Ext.rfl' w)
  have cb := hcb _ (Ext.rfl' w)
  rw [← gi_lt] at ca cb
  have w0 : IntKind.i64.wrap (g.S * g.S) = g.S * g.S := IntWalk.i64_in _ (by
    have h2 : 0 ≤ g.S * g.S := Int.mul_nonneg hs0 hs0
    have h3 : g.S * g.S ≤ 10000 * 10000 := Int.mul_le_mul hs1 hs1 hs0 (by omega)
    omega)
  have B1 := rcut_bd (a := gi g.L i) (b := gi h.L i) hs0 hs1 hlo.1 hhi.2
  have B2 := rcut_bd (a := gi h.L i) (b := gi g.L i) hs0 hs1 hlo.1 hhi.2
  generalize gi g.L i = x at *
  generalize gi h.L i = y at *
  have hi0 : (0 : Int) ≤ i := by omega
  have z1 : b < w.heap.size + 1 := by omega
  have z2 : b' < w.heap.size + 1 := by omega
  clear hca hcb hA hB
  by_cases hx : x = 30000
  · subst hx
    have e1 : rcutC g.S 30000 y lo hi = 0 := by unfold rcutC; rw [if_pos (.inl rfl)]
    have e2 : rcutC g.S y 30000 lo hi = 0 := by unfold rcutC; rw [if_pos (.inr rfl)]
    have e3 : unkC 30000 y = 1 := by unfold unkC; rw [if_pos (.inl rfl)]
    rw [e1, e2, e3]
    clear e1 e2 e3 B1 B2 w0
    go_enter Try.func89, Try.ntmps89
    go_upto_region 1 with fail
    go_region
    go_upto_region 2 with fail
    refine wp_name (fun W hW => ?_)
    have hE : Ext w W := by rw [hW]; (repeat (first | with_reducible exact Ext.rfl' _ | with_reducible assumption | with_reducible refine Ext.al ?_ _ | with_reducible refine Ext.dr ?_ | with_reducible refine Ext.st ?_ (by simp) _ | with_reducible refine Ext.tr ?_ (by assumption)))
    have HW := Lib.hid hW
    clear hW
    have kz : CellsAt W (w.heap.size + 1 + 1) 0 [.int .i64 0, .int .i64 0, .int .i64 0] := by
      rw [HW.out]
      refine cells_three ⟨?_, ?_, ?_⟩ <;> simp [go_sem]
    have fz : ∀ o, W.frozen? ⟨w.heap.size + 1 + 1, o, none⟩ = false := by intro o; rw [HW.out]; simp [go_sem]
    have ks : W.cell? ⟨w.heap.size, 2, none⟩ = some (.int .i64 g.S) := by rw [HW.out]; simp [go_sem]
    have zz : w.heap.size + 1 + 1 < W.heap.size := by rw [HW.out]; simp
    have zz0 : w.heap.size < W.heap.size := by omega
    clear HW
    obtain ⟨r0, r1, r2⟩ := kz.three
    go_wp2
    have hSL := stL_at (w.heap.size + 1 + 1) [.int .i64 0, .int .i64 0, .int .i64 1] _ 0 _ kz rfl
    have hXL := stL_ext (w.heap.size + 1 + 1) (by first | omega | (simp; done) | (simp; omega)) [.int .i64 0, .int .i64 0, .int .i64 1] 0 _ hE
    show bodyPost _ _ _ _ _ (stL (W) (w.heap.size + 1 + 1) 0 [.int .i64 0, .int .i64 0, .int .i64 1])
    generalize stL (W) (w.heap.size + 1 + 1) 0 [.int .i64 0, .int .i64 0, .int .i64 1] = WL at hSL hXL ⊢
    obtain ⟨s0, s1, s2⟩ := hSL.three
    refine bodyPost_ret (v := .agg #[.int .i64 0, .int .i64 0, .int .i64 1]) (by simp [results, Try.results89, go_sem, s0, s1, s2]) rfl ⟨rfl, hXL⟩
  by_cases hy : y = 30000
  · subst hy
    have hx' : (x == 30000) = false := by simp [hx]
    have e1 : rcutC g.S x 30000 lo hi = 0 := by unfold rcutC; rw [if_pos (.inr rfl)]
    have e2 : rcutC g.S 30000 x lo hi = 0 := by unfold rcutC; rw [if_pos (.inl rfl)]
    have e3 : unkC x 30000 = 1 := by unfold unkC; rw [if_pos (.inr rfl)]
    rw [e1, e2, e3]
    clear e1 e2 e3 B1 B2 w0
    go_enter Try.func89, Try.ntmps89
    go_upto_region 1 with fail
    go_region
    go_upto_region 2 with fail
    refine wp_name (fun W hW => ?_)
    have hE : Ext w W := by rw [hW]; (repeat (first | with_reducible exact Ext.rfl' _ | with_reducible assumption | with_reducible refine Ext.al ?_ _ | with_reducible refine Ext.dr ?_ | with_reducible refine Ext.st ?_ (by simp) _ | with_reducible refine Ext.tr ?_ (by assumption)))
    have HW := Lib.hid hW
    clear hW
    have kz : CellsAt W (w.heap.size + 1 + 1) 0 [.int .i64 0, .int .i64 0, .int .i64 0] := by
      rw [HW.out]
      refine cells_three ⟨?_, ?_, ?_⟩ <;> simp [go_sem]
    have fz : ∀ o, W.frozen? ⟨w.heap.size + 1 + 1, o, none⟩ = false := by intro o; rw [HW.out]; simp [go_sem]
    have ks : W.cell? ⟨w.heap.size, 2, none⟩ = some (.int .i64 g.S) := by rw [HW.out]; simp [go_sem]
    have zz : w.heap.size + 1 + 1 < W.heap.size := by rw [HW.out]; simp
    have zz0 : w.heap.size < W.heap.size := by omega
    clear HW
    obtain ⟨r0, r1, r2⟩ := kz.three
    go_wp2
    have hSL := stL_at (w.heap.size + 1 + 1) [.int .i64 0, .int .i64 0, .int .i64 1] _ 0 _ kz rfl
    have hXL := stL_ext (w.heap.size + 1 + 1) (by first | omega | (simp; done) | (simp; omega)) [.int .i64 0, .int .i64 0, .int .i64 1] 0 _ hE
    show bodyPost _ _ _ _ _ (stL (W) (w.heap.size + 1 + 1) 0 [.int .i64 0, .int .i64 0, .int .i64 1])
    generalize stL (W) (w.heap.size + 1 + 1) 0 [.int .i64 0, .int .i64 0, .int .i64 1] = WL at hSL hXL ⊢
    obtain ⟨s0, s1, s2⟩ := hSL.three
    refine bodyPost_ret (v := .agg #[.int .i64 0, .int .i64 0, .int .i64 1]) (by simp [results, Try.results89, go_sem, s0, s1, s2]) rfl ⟨rfl, hXL⟩
  have hx' : (x == 30000) = false := by simp [hx]
  have hy' : (y == 30000) = false := by simp [hy]
  have e3 : unkC x y = 0 := by unfold unkC; rw [if_neg (by omega)]
  have e1 : rcutC g.S x y lo hi = g.S * g.S * partI y x lo hi := by unfold rcutC; rw [if_neg (by omega)]
  have e2 : rcutC g.S y x lo hi = g.S * g.S * partI x y lo hi := by unfold rcutC; rw [if_neg (by omega)]
  have H1 := Lib.hid (fun w' => part_c y x lo hi w' (by omega) (by omega) (by omega) (by omega))
  have H2 := Lib.hid (fun w' => part_c x y lo hi w' (by omega) (by omega) (by omega) (by omega))
  rw [e3]
  generalize rcutC g.S x y lo hi = V1 at *
  generalize rcutC g.S y x lo hi = V2 at *
  generalize partI y x lo hi = p1 at *
  generalize partI x y lo hi = p2 at *
  obtain ⟨P, hP⟩ : ∃ P, g.S * g.S = P := ⟨_, rfl⟩
  rw [hP] at e1 e2 w0
  have wv1 : IntKind.i64.wrap (P * p1) = V1 := by rw [← e1]; exact IntWalk.i64_in _ (by omega)
  have wv2 : IntKind.i64.wrap (P * p2) = V2 := by rw [← e2]; exact IntWalk.i64_in _ (by omega)
  have q1 : IntKind.i64.wrap (g.S * g.S) = P := by rw [hP]; exact w0
  clear e1 e2 e3 hx hy w0 hP B1 B2
  go_enter Try.func89, Try.ntmps89
  go_upto_region 1 with fail
  go_region
  go_upto_region 2 with fail
  refine wp_name (fun W hW => ?_)
  have hE : Ext w W := by rw [hW]; (repeat (first | with_reducible exact Ext.rfl' _ | with_reducible assumption | with_reducible refine Ext.al ?_ _ | with_reducible refine Ext.dr ?_ | with_reducible refine Ext.st ?_ (by simp) _ | with_reducible refine Ext.tr ?_ (by assumption)))
  have HW := Lib.hid hW
  clear hW
  have kz : CellsAt W (w.heap.size + 1 + 1) 0 [.int .i64 0, .int .i64 0, .int .i64 0] := by
    rw [HW.out]
    refine cells_three ⟨?_, ?_, ?_⟩ <;> simp [go_sem]
  have fz : ∀ o, W.frozen? ⟨w.heap.size + 1 + 1, o, none⟩ = false := by intro o; rw [HW.out]; simp [go_sem]
  have ks : W.cell? ⟨w.heap.size, 2, none⟩ = some (.int .i64 g.S) := by rw [HW.out]; simp [go_sem]
  have zz : w.heap.size + 1 + 1 < W.heap.size := by rw [HW.out]; simp
  have zz0 : w.heap.size < W.heap.size := by omega
  clear HW
  obtain ⟨r0, r1, r2⟩ := kz.three
  go_wp2_with (first | (go_at_call 128; with_reducible refine Calls.mono (H1.out _) ?_; rintro e w2 ⟨rfl, hb⟩; have hc := hb.ccell; have hf := hb.frz; have hs := hb.sz; (try simp at hs); (try have t0 := hs (w.heap.size) (by first | assumption | omega)); (try have t1 := hs (w.heap.size + 1) (by first | assumption | omega)); (try have t2 := hs (w.heap.size + 1 + 1) (by first | assumption | omega)); (try have t3 := hs (w.heap.size) (by first | assumption | omega)); (try have t4 := hs (w.heap.size) (by first | assumption | omega)); (try have t5 := hs (w.heap.size) (by first | assumption | omega))) | (go_at_call 128; with_reducible refine Calls.mono (H2.out _) ?_; rintro e w3 ⟨rfl, hb⟩; have hc := hb.ccell; have hf := hb.frz; have hs := hb.sz; (try simp at hs); (try have t0 := hs (w.heap.size) (by first | assumption | omega)); (try have t1 := hs (w.heap.size + 1) (by first | assumption | omega)); (try have t2 := hs (w.heap.size + 1 + 1) (by first | assumption | omega)); (try have t3 := hs (w.heap.size) (by first | assumption | omega)); (try have t4 := hs (w.heap.size) (by first | assumption | omega)); (try have t5 := hs (w.heap.size) (by first | assumption | omega))))
  have hx3 : Ext W w3 := by (repeat (first | with_reducible exact Ext.rfl' _ | with_reducible assumption | with_reducible refine Ext.al ?_ _ | with_reducible refine Ext.dr ?_ | with_reducible refine Ext.st ?_ (by simp) _ | with_reducible refine Ext.tr ?_ (by assumption)))
  have hE3 : Ext w w3 := hE.tr hx3
  have kz3 := kz.ext hx3 zz
  have hSL := stL_at (w.heap.size + 1 + 1) [.int .i64 V1, .int .i64 V2, .int .i64 0] _ 0 _ kz3 rfl
  have hXL := stL_ext (w.heap.size + 1 + 1) (by first | omega | (simp; done) | (simp; omega)) [.int .i64 V1, .int .i64 V2, .int .i64 0] 0 _ hE3
  show bodyPost _ _ _ _ _ (stL (w3) (w.heap.size + 1 + 1) 0 [.int .i64 V1, .int .i64 V2, .int .i64 0])
  generalize stL (w3) (w.heap.size + 1 + 1) 0 [.int .i64 V1, .int .i64 V2, .int .i64 0] = WL at hSL hXL ⊢
  obtain ⟨s0, s1, s2⟩ := hSL.three
  refine bodyPost_ret (v := .agg #[.int .i64 V1, .int .i64 V2, .int .i64 0]) (by simp [results, Try.results89, go_sem, s0, s1, s2]) rfl ⟨rfl, hXL⟩
set_option maxHeartbeats 4000000 in
theorem plus_c (a0 a1 a2 b0 b1 b2 : Int) (w : World) (h0 : 0 ≤ a0 ∧ a0 ≤ 4000000000000000000) (h1 : 0 ≤ a1 ∧ a1 ≤ 4000000000000000000) (h2 : 0 ≤ a2 ∧ a2 ≤ 4000000000000000000) (k0 : 0 ≤ b0 ∧ b0 ≤ 4000000000000000000) (k1 : 0 ≤ b1 ∧ b1 ≤ 4000000000000000000) (k2 : 0 ≤ b2 ∧ b2 ≤ 4000000000000000000) :
    Calls Try.prog 50 #[.agg #[.int .i64 a0, .int .i64 a1, .int .i64 a2], .agg #[.int .i64 b0, .int .i64 b1, .int .i64 b2]] w
      fun e w' => e = .returned (.agg #[.int .i64 (a0 + b0), .int .i64 (a1 + b1), .int .i64 (a2 + b2)]) ∧ Ext w w' := by
  go_enter Try.func50, Try.ntmps50
  go_wp2
  exact bodyPost_ret (v := .agg #[.int .i64 (a0 + b0), .int .i64 (a1 + b1), .int .i64 (a2 + b2)]) (by simp [results, Try.results50, go_sem]) rfl ⟨rfl, by (repeat (first | with_reducible exact Ext.rfl' _ | with_reducible assumption | with_reducible refine Ext.al ?_ _ | with_reducible refine Ext.dr ?_ | with_reducible refine Ext.st ?_ (by simp) _ | with_reducible refine Ext.tr ?_ (by assumption)))⟩
end Go.Proofs.Ytgnakeemcccfjaa

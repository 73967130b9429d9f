/- The contracts of upsideDown and of the law's turned. -/
import Derived.Test.YtohdplnlbnoojaaSneg
import Derived.Test.YtohdplnlbnoojaaSstc
namespace Go.Proofs.Ytohdplnlbnoojaa
open Go Go.RowKit Go.IntWalk

theorem mkI_set (f : Nat → Int) (n k : Nat) (v : Int) : (mkI f n).set k v = mkI (fun i => if i = k then v else f i) n := by
  apply List.ext_getElem (by simp [mkI])
  intro i h1 h2
  rw [List.getElem_set]
  simp only [mkI, List.getElem_map, List.getElem_range]
  by_cases h : k = i
  · rw [if_pos h, if_pos h.symm]
  · rw [if_neg h, if_neg (by omega)]
theorem mkI_congr {f f' : Nat → Int} {n : Nat} (h : ∀ i, i < n → f i = f' i) : mkI f n = mkI f' n := by
  unfold mkI
  apply List.map_congr_left
  intro i hi
  exact h i (List.mem_range.1 hi)
theorem mkI_of (L : List Int) : mkI (fun i => gi L i) L.length = L := gi_ext (by rw [mkI_len]) fun i hi => by rw [mkI_len] at hi; exact mkI_gi _ _ _ hi
/-- The levels of which the first k are turned. -/
def udF (L : List Int) (k i : Nat) : Int := if i < k then ngV (gi L i) else gi L i
def udL (L : List Int) (k : Nat) : List Int := mkI (udF L k) L.length
theorem udL_len (L : List Int) (k : Nat) : (udL L k).length = L.length := mkI_len _ _
theorem udL_0 (L : List Int) : udL L 0 = L := by
  have h : udL L 0 = mkI (fun i => gi L i) L.length := mkI_congr fun i _ => by unfold udF; rw [if_neg (Nat.not_lt_zero _)]
  rw [h, mkI_of]
theorem udL_end (L : List Int) : udL L L.length = ngL L := gi_ext (by rw [udL_len, ngL_len]) fun i hi => by
  rw [udL_len] at hi
  rw [gi_ngL]
  unfold udL
  rw [mkI_gi _ _ _ hi]
  unfold udF
  rw [if_pos hi]
theorem udL_gi (L : List Int) {k : Nat} (hk : k < L.length) : gi (udL L k) k = gi L k := by
  unfold udL
  rw [mkI_gi _ _ _ hk]
  unfold udF
  rw [if_neg (Nat.lt_irrefl _)]
theorem udL_set (L : List Int) (k : Nat) : (udL L k).set k (ngV (gi L k)) = udL L (k + 1) := by
  unfold udL
  rw [mkI_set]
  refine mkI_congr fun i _ => ?_
  unfold udF
  by_cases h : i = k
  · subst h; rw [if_pos rfl, if_pos (Nat.lt_succ_self _)]
  · rw [if_neg h]
    by_cases h2 : i < k
    · rw [if_pos h2, if_pos (by omega)]
    · rw [if_neg h2, if_neg (by omega)]
theorem udL_skip (L : List Int) {k : Nat} (hk : gi L k = 30000) : udL L k = udL L (k + 1) := by
  unfold udL
  refine mkI_congr fun i _ => ?_
  unfold udF
  by_cases h : i = k
  · subst h; rw [if_neg (Nat.lt_irrefl _), if_pos (Nat.lt_succ_self _), hk]; rfl
  · by_cases h2 : i < k
    · rw [if_pos h2, if_pos (by omega)]
    · rw [if_neg h2, if_neg (by omega)]
/-- The result is g's frame with levels M that the call has made. -/
def OutGL (base : Nat) (g : Gr) (M : List Int) (e : Ending) (w' : World) : Prop :=
  ∃ A c, e = .returned (.agg #[.int .i64 g.X, .int .i64 g.Y, .int .i64 g.S, .int .i64 g.C, .int .i64 g.R, .slice A g.L.length c]) ∧ NewZ base w' A c M

set_option maxHeartbeats 8000000 in
set_option maxRecDepth 100000 in
theorem upsideDown_c (g : Gr) (w : World) (A : Option Addr) (c : Nat) (hpos : 0 < g.L.length) (hn : g.L.length ≤ 1024) (hv : LvOk g.L) (hA : Row 1 encZ w A g.L) :
    Calls Try.prog 89 #[.agg #[.int .i64 g.X, .int .i64 g.Y, .int .i64 g.S, .int .i64 g.C, .int .i64 g.R, .slice A g.L.length c]] w fun e w' => OutGL w.heap.size g (ngL g.L) e w' ∧ Ext w w' := by
  have HCL := Lib.hid (fun w' (hw : Ext w w') => cloneZ_c g.L w' A c (by omega) (hA.ext hw))
  have HKN := Lib.hid (fun k (hk : k < g.L.length) w' (hw : Ext w w') => sKnown_c g k w' A c hk (by omega) (hA.ext hw))
  have HWL := Lib.hid (fun w' A2 c2 => withLevels_c g g.L w' A A2 c c2)
  have HV := Lib.hid hv
  clear hv hA
  go_enter Try.func89, Try.ntmps89
  go_upto_region 2 with (first | (go_at_call 94; (with_reducible refine Calls.mono (HCL.out _ (by (repeat (first | with_reducible exact Ext.rfl' _ | with_reducible assumption | with_reducible refine Ext.al ?_ _ | with_reducible refine Ext.dr ?_ | with_reducible refine Ext.st ?_ (by simp) _ | with_reducible refine Ext.tr ?_ (by assumption))))) ?_); rintro e w1 ⟨⟨A2, c2, rfl, hN2⟩, hb⟩; have hc := hb.ccell; have hf := hb.frz; have hs := hb.sz; (try simp at hs); (try have t0 := hs (w.heap.size) (by first | assumption | omega)); (try have t1 := hs (w.heap.size + 1) (by first | assumption | omega)); (try have t2 := hs (w.heap.size) (by first | assumption | omega)); (try have t3 := hs (w.heap.size) (by first | assumption | omega)); (try have t4 := hs (w.heap.size) (by first | assumption | omega)); (try have t5 := hs (w.heap.size) (by first | assumption | omega))))
  obtain ⟨g2, hA2, hg2, hO2⟩ := newz_some hpos hN2
  subst hA2
  simp at hg2
  refine wp_name (fun W hW => ?_)
  have hEW : Ext w W := by rw [hW]; (repeat (first | with_reducible exact Ext.rfl' _ | with_reducible assumption | with_reducible refine Ext.al ?_ _ | with_reducible refine Ext.dr ?_ | with_reducible refine Ext.st ?_ (by simp) _ | with_reducible refine Ext.tr ?_ (by assumption)))
  have km : CellsAt W w.heap.size 0 [.int .i64 g.X, .int .i64 g.Y, .int .i64 g.S, .int .i64 g.C, .int .i64 g.R, .slice A g.L.length c] := by rw [hW]; refine cells_six ⟨?_, ?_, ?_, ?_, ?_, ?_⟩ <;> simp [*, go_sem]
  have kz : CellsAt W (w.heap.size + 1) 0 [.int .i64 0, .int .i64 0, .int .i64 0, .int .i64 0, .int .i64 0, .slice none 0 0] := by rw [hW]; refine cells_six ⟨?_, ?_, ?_, ?_, ?_, ?_⟩ <;> simp [*, go_sem]
  have fz : ∀ o, W.frozen? ⟨w.heap.size + 1, o, none⟩ = false := by intro o; rw [hW]; simp [*, go_sem]
  have hO := Lib.hid (show OwnK 3 1 encZ W g2 c2 g.L by rw [hW]; exact hO2)
  have z1 : w.heap.size + 1 < W.heap.size := by rw [hW]; assumption
  have z0 : w.heap.size < W.heap.size := by omega
  have n0 : w.heap.size ≠ g2 := by omega
  have n1 : w.heap.size + 1 ≠ g2 := by omega
  have hwg : w.heap.size ≤ g2 := by omega
  clear hW hN2 hO2 hb hc hf hs t0 t1 t2 t3 t4 t5 hg2
  go_wp2
  go_loopw [10] (fun i wr => W.grownBy wr (some g2) ∧ ∃ k : Nat, k ≤ g.L.length ∧ i = .int .i64 k ∧ Hid (OwnK 3 1 encZ wr g2 c2 (udL g.L k))) (fun i _ => g.L.length - (intOf i).toNat)
  case atStart => exact ⟨tch_refl _ _, 0, Nat.zero_le _, rfl, by rw [udL_0]; exact hO⟩
  case round =>
    clear hO
    obtain ⟨hT, k, hk, rfl, hO⟩ := hrel
    have hEr := tch_to_ext hT hEW hwg
    have kmr := CellsAt.grown km hT z0 (by intro e; injection e with e; exact n0 e)
    have kzr := CellsAt.grown kz hT z1 (by intro e; injection e with e; exact n1 e)
    have fzr : ∀ o, wr.frozen? ⟨w.heap.size + 1, o, none⟩ = false := fun o => (grown_frzS hT z1 (by intro e; injection e with e; exact n1 e) o).trans (fz o)
    have y1 : w.heap.size + 1 < wr.heap.size := Nat.lt_of_lt_of_le z1 hT.size
    have y0 : w.heap.size < wr.heap.size := by omega
    obtain ⟨m0, m1, m2, m3, m4, m5⟩ := kmr.six
    have zg := hO.out.lt
    by_cases hlt : k < g.L.length
    · have HK := Lib.hid (fun w' (hw : Ext wr w') => HKN.out k hlt w' (hEr.tr hw))
      have hki : (k : Int) < (g.L.length : Int) := by omega
      by_cases hu : gi g.L k = 30000
      · have hkn : knB g.L k = false := by unfold knB; simp [hu]
        rw [hkn] at HK
        have hOS : Hid (∀ w', Ext wr w' → OwnK 3 1 encZ w' g2 c2 (udL g.L (k + 1))) := Lib.hid (fun w' hw => by rw [← udL_skip g.L hu]; exact hO.out.ext hw)
        clear hkn hu hO
        go_wp2_with (first | (go_at_call 109; with_reducible refine Calls.mono (HK.out _ (by (repeat (first | with_reducible exact Ext.rfl' _ | with_reducible assumption | with_reducible refine Ext.al ?_ _ | with_reducible refine Ext.dr ?_ | with_reducible refine Ext.st ?_ (by simp) _ | with_reducible refine Ext.tr ?_ (by assumption))))) ?_; rintro e w3 ⟨rfl, hb⟩; have hc := hb.ccell; have hf := hb.frz; have hs := hb.sz; (try simp at hs); (try have t0 := hs (w.heap.size) (by first | assumption | omega)); (try have t1 := hs (w.heap.size + 1) (by first | assumption | omega)); (try have t2 := hs (g2) (by first | assumption | omega)); (try have t3 := hs (w.heap.size) (by first | assumption | omega)); (try have t4 := hs (w.heap.size) (by first | assumption | omega)); (try have t5 := hs (w.heap.size) (by first | assumption | omega))))
        have hE3 : Ext wr w3 := by assumption
        exact ⟨⟨tch_ext hT hE3, k + 1, by omega, by go_num, Lib.hid (hOS.out _ hE3)⟩, by simp [intOf]; omega⟩
      · have hkn : knB g.L k = true := by unfold knB; simp [hu]
        rw [hkn] at HK
        have hlv := HV.out k hlt
        obtain ⟨x, hx⟩ : ∃ x, gi g.L k = x := ⟨_, rfl⟩
        rw [hx] at hu hlv
        have hxb : -20000 ≤ x ∧ x ≤ 20000 := by omega
        have hOS : Hid (∀ w', Ext wr w' → OwnK 3 1 encZ (w'.setCell ⟨g2, k, none⟩ (.int .i64 (-x))) g2 c2 (udL g.L (k + 1))) := Lib.hid (fun w' hw => by
          have h1 := (hO.out.ext hw).setZ k (by rw [udL_len]; exact hlt) (ngV (gi g.L k))
          rw [udL_set, hx, ngV_k hu] at h1
          exact h1)
        have lz : ∀ w', Ext wr w' → w'.cell? ⟨g2, k, none⟩ = some (.int .i64 x) := fun w' hw => by
          have h1 := (hO.out.ext hw).z (i := k) (by rw [udL_len]; exact hlt)
          rw [udL_gi g.L hlt, hx] at h1
          exact h1
        have fg : ∀ w', Ext wr w' → w'.frozen? ⟨g2, k, none⟩ = false := fun w' hw => (hO.out.ext hw).frozen encZ_len k
        have HLZ := Lib.hid (And.intro lz fg)
        clear hkn hu hlv hx lz fg hO
        go_upto_region 6 with (first | (go_at_call 109; with_reducible refine Calls.mono (HK.out _ (by (repeat (first | with_reducible exact Ext.rfl' _ | with_reducible assumption | with_reducible refine Ext.al ?_ _ | with_reducible refine Ext.dr ?_ | with_reducible refine Ext.st ?_ (by simp) _ | with_reducible refine Ext.tr ?_ (by assumption))))) ?_; rintro e w3 ⟨rfl, hb⟩; have hc := hb.ccell; have hf := hb.frz; have hs := hb.sz; (try simp at hs); (try have t0 := hs (w.heap.size) (by first | assumption | omega)); (try have t1 := hs (w.heap.size + 1) (by first | assumption | omega)); (try have t2 := hs (g2) (by first | assumption | omega)); (try have t3 := hs (w.heap.size) (by first | assumption | omega)); (try have t4 := hs (w.heap.size) (by first | assumption | omega)); (try have t5 := hs (w.heap.size) (by first | assumption | omega))))
        have hE3 : Ext wr w3 := by assumption
        have l0 := HLZ.out.1 _ hE3
        have f0 := HLZ.out.2 _ hE3
        have hT3 := tch_set (tch_ext hT hE3) k (.int .i64 (-x))
        have hO3 := Lib.hid (hOS.out _ hE3)
        clear hb hc hf hs
        go_wp2
        exact ⟨⟨hT3, k + 1, by omega, by go_num, hO3⟩, by simp [intOf]; omega⟩
    · have hks : k = g.L.length := by omega
      have hN := Lib.hid (show OwnK 3 1 encZ wr g2 c2 (ngL g.L) by rw [← udL_end, ← hks]; exact hO.out)
      obtain ⟨q0, q1, q2, q3, q4, q5⟩ := kzr.six
      clear hO hks hk
      go_wp2_with (first | (go_at_call 116; with_reducible refine Calls.mono (HWL.out _ _ _) ?_; rintro e w4 ⟨rfl, hb⟩; have hc := hb.ccell; have hf := hb.frz; have hs := hb.sz; (try simp at hs); (try have t0 := hs (w.heap.size) (by first | assumption | omega)); (try have t1 := hs (w.heap.size + 1) (by first | assumption | omega)); (try have t2 := hs (g2) (by first | assumption | omega)); (try have t3 := hs (w.heap.size) (by first | assumption | omega)); (try have t4 := hs (w.heap.size) (by first | assumption | omega)); (try have t5 := hs (w.heap.size) (by first | assumption | omega))))
      have hE4 : Ext wr w4 := by assumption
      have kz4 := kzr.ext hE4 y1
      have hEw4 := hEr.tr hE4
      have hN4 := stL_own (w.heap.size + 1) (Ne.symm n1) [.int .i64 g.X, .int .i64 g.Y, .int .i64 g.S, .int .i64 g.C, .int .i64 g.R, .slice (some ⟨g2, 0, none⟩) g.L.length c2] 0 w4 (hN.out.ext hE4)
      have hSL := stL_at (w.heap.size + 1) [.int .i64 g.X, .int .i64 g.Y, .int .i64 g.S, .int .i64 g.C, .int .i64 g.R, .slice (some ⟨g2, 0, none⟩) g.L.length c2] _ 0 w4 kz4 rfl
      have hXL := stL_ext (w.heap.size + 1) (by omega) [.int .i64 g.X, .int .i64 g.Y, .int .i64 g.S, .int .i64 g.C, .int .i64 g.R, .slice (some ⟨g2, 0, none⟩) g.L.length c2] 0 w4 hEw4
      show bodyPost _ _ _ _ _ (stL w4 (w.heap.size + 1) 0 [.int .i64 g.X, .int .i64 g.Y, .int .i64 g.S, .int .i64 g.C, .int .i64 g.R, .slice (some ⟨g2, 0, none⟩) g.L.length c2])
      generalize stL w4 (w.heap.size + 1) 0 [.int .i64 g.X, .int .i64 g.Y, .int .i64 g.S, .int .i64 g.C, .int .i64 g.R, .slice (some ⟨g2, 0, none⟩) g.L.length c2] = WL at hSL hXL hN4 ⊢
      obtain ⟨s0, s1, s2, s3, s4, s5⟩ := hSL.six
      refine bodyPost_ret (v := .agg #[.int .i64 g.X, .int .i64 g.Y, .int .i64 g.S, .int .i64 g.C, .int .i64 g.R, .slice (some ⟨g2, 0, none⟩) g.L.length c2]) (by simp [results, Try.results89, go_sem, s0, s1, s2, s3, s4, s5]) rfl ⟨⟨some ⟨g2, 0, none⟩, c2, rfl, newZ_own hN4 hwg⟩, hXL⟩
set_option maxHeartbeats 8000000 in
set_option maxRecDepth 100000 in
theorem turned_c (g : Gr) (w : World) (A : Option Addr) (c : Nat) (hpos : 0 < g.L.length) (hn : g.L.length ≤ 1024) (hv : LvOk g.L) (hA : Row 1 encZ w A g.L) :
    Calls Try.prog 52 #[.agg #[.int .i64 g.X, .int .i64 g.Y, .int .i64 g.S, .int .i64 g.C, .int .i64 g.R, .slice A g.L.length c]] w fun e w' => OutGL w.heap.size g (ngL g.L) e w' ∧ Ext w w' := by
  have HCL := Lib.hid (fun w' (hw : Ext w w') => copyGrid_c g w' A c (by omega) (hA.ext hw))
  have HKN := Lib.hid (fun k (hk : k < g.L.length) w' (hw : Ext w w') => known_c g k w' A c hk (hA.ext hw))
  have HV := Lib.hid hv
  clear hv hA
  go_enter Try.func52, Try.ntmps52
  go_upto_region 2 with (first | (go_at_call 90; (with_reducible refine Calls.mono (HCL.out _ (by (repeat (first | with_reducible exact Ext.rfl' _ | with_reducible assumption | with_reducible refine Ext.al ?_ _ | with_reducible refine Ext.dr ?_ | with_reducible refine Ext.st ?_ (by simp) _ | with_reducible refine Ext.tr ?_ (by assumption))))) ?_); rintro e w1 ⟨⟨A2, c2, rfl, hN2⟩, hb⟩; have hc := hb.ccell; have hf := hb.frz; have hs := hb.sz; (try simp at hs); (try have t0 := hs (w.heap.size) (by first | assumption | omega)); (try have t1 := hs (w.heap.size + 1) (by first | assumption | omega)); (try have t2 := hs (w.heap.size) (by first | assumption | omega)); (try have t3 := hs (w.heap.size) (by first | assumption | omega)); (try have t4 := hs (w.heap.size) (by first | assumption | omega)); (try have t5 := hs (w.heap.size) (by first | assumption | omega))))
  obtain ⟨g2, hA2, hg2, hO2⟩ := newz_some hpos hN2
  subst hA2
  simp at hg2
  have hg21 := hO2.lt
  refine wp_name (fun W hW => ?_)
  have hE1 : Ext w1 W := by rw [hW]; (repeat (first | with_reducible exact Ext.rfl' _ | with_reducible assumption | with_reducible refine Ext.al ?_ _ | with_reducible refine Ext.dr ?_ | with_reducible refine Ext.st ?_ (by simp) _ | with_reducible refine Ext.tr ?_ (by assumption)))
  have hEW : Ext w W := by rw [hW]; (repeat (first | with_reducible exact Ext.rfl' _ | with_reducible assumption | with_reducible refine Ext.al ?_ _ | with_reducible refine Ext.dr ?_ | with_reducible refine Ext.st ?_ (by simp) _ | with_reducible refine Ext.tr ?_ (by assumption)))
  have km : CellsAt W w.heap.size 0 [.int .i64 g.X, .int .i64 g.Y, .int .i64 g.S, .int .i64 g.C, .int .i64 g.R, .slice A g.L.length c] := by rw [hW]; refine cells_six ⟨?_, ?_, ?_, ?_, ?_, ?_⟩ <;> simp [*, go_sem]
  have kz : CellsAt W (w.heap.size + 1) 0 [.int .i64 0, .int .i64 0, .int .i64 0, .int .i64 0, .int .i64 0, .slice none 0 0] := by rw [hW]; refine cells_six ⟨?_, ?_, ?_, ?_, ?_, ?_⟩ <;> simp [*, go_sem]
  have ko : CellsAt W w1.heap.size 0 [.int .i64 g.X, .int .i64 g.Y, .int .i64 g.S, .int .i64 g.C, .int .i64 g.R, .slice (some ⟨g2, 0, none⟩) g.L.length c2] := by rw [hW]; refine cells_six ⟨?_, ?_, ?_, ?_, ?_, ?_⟩ <;> simp [*, go_sem]
  have fz : ∀ o, W.frozen? ⟨w.heap.size + 1, o, none⟩ = false := by intro o; rw [hW]; simp [*, go_sem]
  have hO := Lib.hid (hO2.ext hE1)
  have zo : w1.heap.size < W.heap.size := by rw [hW]; simp
  have z1 : w.heap.size + 1 < W.heap.size := by rw [hW]; simp; omega
  have z0 : w.heap.size < W.heap.size := by omega
  have n0 : w.heap.size ≠ g2 := by omega
  have n1 : w.heap.size + 1 ≠ g2 := by omega
  have n2 : w1.heap.size ≠ g2 := by omega
  have hwg : w.heap.size ≤ g2 := by omega
  clear hW hN2 hO2 hb hc hf hs t0 t1 t2 t3 t4 t5 hg2 hg21 hE1
  generalize w1.heap.size = no at *
  go_wp2
  go_loopw [4] (fun i wr => W.grownBy wr (some g2) ∧ ∃ k : Nat, k ≤ g.L.length ∧ i = .int .i64 k ∧ Hid (OwnK 3 1 encZ wr g2 c2 (udL g.L k))) (fun i _ => g.L.length - (intOf i).toNat)
  case atStart => exact ⟨tch_refl _ _, 0, Nat.zero_le _, rfl, by rw [udL_0]; exact hO⟩
  case round =>
    clear hO
    obtain ⟨hT, k, hk, rfl, hO⟩ := hrel
    have hEr := tch_to_ext hT hEW hwg
    have kmr := CellsAt.grown km hT z0 (by intro e; injection e with e; exact n0 e)
    have kzr := CellsAt.grown kz hT z1 (by intro e; injection e with e; exact n1 e)
    have kor := CellsAt.grown ko hT zo (by intro e; injection e with e; exact n2 e)
    have fzr : ∀ o, wr.frozen? ⟨w.heap.size + 1, o, none⟩ = false := fun o => (grown_frzS hT z1 (by intro e; injection e with e; exact n1 e) o).trans (fz o)
    have y1 : w.heap.size + 1 < wr.heap.size := Nat.lt_of_lt_of_le z1 hT.size
    have y2 : no < wr.heap.size := Nat.lt_of_lt_of_le zo hT.size
    have y0 : w.heap.size < wr.heap.size := by omega
    obtain ⟨m0, m1, m2, m3, m4, m5⟩ := kmr.six
    obtain ⟨o0, o1, o2, o3, o4, o5⟩ := kor.six
    have zg := hO.out.lt
    by_cases hlt : k < g.L.length
    · have HK := Lib.hid (fun w' (hw : Ext wr w') => HKN.out k hlt w' (hEr.tr hw))
      have hki : (k : Int) < (g.L.length : Int) := by omega
      by_cases hu : gi g.L k = 30000
      · have hkn : knB g.L k = false := by unfold knB; simp [hu]
        rw [hkn] at HK
        have hOS : Hid (∀ w', Ext wr w' → OwnK 3 1 encZ w' g2 c2 (udL g.L (k + 1))) := Lib.hid (fun w' hw => by rw [← udL_skip g.L hu]; exact hO.out.ext hw)
        clear hkn hu hO
        go_wp2_with (first | (go_at_call 51; with_reducible refine Calls.mono (HK.out _ (by (repeat (first | with_reducible exact Ext.rfl' _ | with_reducible assumption | with_reducible refine Ext.al ?_ _ | with_reducible refine Ext.dr ?_ | with_reducible refine Ext.st ?_ (by simp) _ | with_reducible refine Ext.tr ?_ (by assumption))))) ?_; rintro e w3 ⟨rfl, hb⟩; have hc := hb.ccell; have hf := hb.frz; have hs := hb.sz; (try simp at hs); (try have t0 := hs (w.heap.size) (by first | assumption | omega)); (try have t1 := hs (w.heap.size + 1) (by first | assumption | omega)); (try have t2 := hs (g2) (by first | assumption | omega)); (try have t3 := hs (no) (by first | assumption | omega)); (try have t4 := hs (w.heap.size) (by first | assumption | omega)); (try have t5 := hs (w.heap.size) (by first | assumption | omega))))
        have hE3 : Ext wr w3 := by assumption
        exact ⟨⟨tch_ext hT hE3, k + 1, by omega, by go_num, Lib.hid (hOS.out _ hE3)⟩, by simp [intOf]; omega⟩
      · have hkn : knB g.L k = true := by unfold knB; simp [hu]
        rw [hkn] at HK
        have hlv := HV.out k hlt
        obtain ⟨x, hx⟩ : ∃ x, gi g.L k = x := ⟨_, rfl⟩
        rw [hx] at hu hlv
        have hxb : -20000 ≤ x ∧ x ≤ 20000 := by omega
        have hOS : Hid (∀ w', Ext wr w' → OwnK 3 1 encZ (w'.setCell ⟨g2, k, none⟩ (.int .i64 (-x))) g2 c2 (udL g.L (k + 1))) := Lib.hid (fun w' hw => by
          have h1 := (hO.out.ext hw).setZ k (by rw [udL_len]; exact hlt) (ngV (gi g.L k))
          rw [udL_set, hx, ngV_k hu] at h1
          exact h1)
        have lz : ∀ w', Ext wr w' → w'.cell? ⟨g2, k, none⟩ = some (.int .i64 x) := fun w' hw => by
          have h1 := (hO.out.ext hw).z (i := k) (by rw [udL_len]; exact hlt)
          rw [udL_gi g.L hlt, hx] at h1
          exact h1
        have fg : ∀ w', Ext wr w' → w'.frozen? ⟨g2, k, none⟩ = false := fun w' hw => (hO.out.ext hw).frozen encZ_len k
        have HLZ := Lib.hid (And.intro lz fg)
        clear hkn hu hlv hx lz fg hO
        go_upto_region 6 with (first | (go_at_call 51; with_reducible refine Calls.mono (HK.out _ (by (repeat (first | with_reducible exact Ext.rfl' _ | with_reducible assumption | with_reducible refine Ext.al ?_ _ | with_reducible refine Ext.dr ?_ | with_reducible refine Ext.st ?_ (by simp) _ | with_reducible refine Ext.tr ?_ (by assumption))))) ?_; rintro e w3 ⟨rfl, hb⟩; have hc := hb.ccell; have hf := hb.frz; have hs := hb.sz; (try simp at hs); (try have t0 := hs (w.heap.size) (by first | assumption | omega)); (try have t1 := hs (w.heap.size + 1) (by first | assumption | omega)); (try have t2 := hs (g2) (by first | assumption | omega)); (try have t3 := hs (no) (by first | assumption | omega)); (try have t4 := hs (w.heap.size) (by first | assumption | omega)); (try have t5 := hs (w.heap.size) (by first | assumption | omega))))
        have hE3 : Ext wr w3 := by assumption
        have l0 := HLZ.out.1 _ hE3
        have f0 := HLZ.out.2 _ hE3
        have hT3 := tch_ext hT hE3
        obtain ⟨o0, o1, o2, o3, o4, o5⟩ := (kor.ext hE3 y2).six
        have x2 := hE3.sz _ y2
        have xg := hE3.sz _ zg
        have hwn : IntKind.i64.wrap (-x) = -x := IntWalk.i64_in _ (by omega)
        clear hb hc hf hs t0 t1 t2 t3 t4 t5 m0 m1 m2 m3 m4 m5
        refine region_grow_tail 10 (by kernel_rfl) (by kernel_rfl) ?_
        simp only [List.take_succ_cons, List.take_zero, List.drop_succ_cons, List.drop_zero]
        repeat (first | go_big_quiet_step (first | fail | fail) | quiet_step (first | fail | fail))
        refine wpQuiet_nil ?_
        intro w1 hb
        have hc := hb.ccell
        have hf := hb.frz
        have hs := hb.sz
        (try simp at hs); (try have hs0 := hs w.heap.size (by omega)); (try have hs1 := hs (w.heap.size + 1) (by omega)); (try have hs2 := hs (w.heap.size + 1 + 1) (by omega)); (try have hs3 := hs (w.heap.size + 1 + 1 + 1) (by omega))
        have f1 := (hb.frz g2 k xg).trans f0
        have c1 := (hb.ccell g2 k xg).trans l0
        have xg1 := hs g2 xg
        have hE4 := hE3.tr hb
        have hT4 := tch_set (tch_ext hT hE4) k (.int .i64 (-x))
        have hO4 := Lib.hid (hOS.out _ hE4)
        clear hc hf hs hb
        go_wp2
        exact ⟨⟨hT4, k + 1, by omega, by go_num, hO4⟩, by simp [intOf]; omega⟩
    · have hks : k = g.L.length := by omega
      have hN := Lib.hid (show OwnK 3 1 encZ wr g2 c2 (ngL g.L) by rw [← udL_end, ← hks]; exact hO.out)
      obtain ⟨q0, q1, q2, q3, q4, q5⟩ := kzr.six
      clear hO hks hk
      go_wp2
      have hN4 := stL_own (w.heap.size + 1) (Ne.symm n1) [.int .i64 g.X, .int .i64 g.Y, .int .i64 g.S, .int .i64 g.C, .int .i64 g.R, .slice (some ⟨g2, 0, none⟩) g.L.length c2] 0 wr hN.out
      have hSL := stL_at (w.heap.size + 1) [.int .i64 g.X, .int .i64 g.Y, .int .i64 g.S, .int .i64 g.C, .int .i64 g.R, .slice (some ⟨g2, 0, none⟩) g.L.length c2] _ 0 wr kzr rfl
      have hXL := stL_ext (w.heap.size + 1) (by omega) [.int .i64 g.X, .int .i64 g.Y, .int .i64 g.S, .int .i64 g.C, .int .i64 g.R, .slice (some ⟨g2, 0, none⟩) g.L.length c2] 0 wr hEr
      show bodyPost _ _ _ _ _ (stL wr (w.heap.size + 1) 0 [.int .i64 g.X, .int .i64 g.Y, .int .i64 g.S, .int .i64 g.C, .int .i64 g.R, .slice (some ⟨g2, 0, none⟩) g.L.length c2])
      generalize stL wr (w.heap.size + 1) 0 [.int .i64 g.X, .int .i64 g.Y, .int .i64 g.S, .int .i64 g.C, .int .i64 g.R, .slice (some ⟨g2, 0, none⟩) g.L.length c2] = WL at hSL hXL hN4 ⊢
      obtain ⟨s0, s1, s2, s3, s4, s5⟩ := hSL.six
      refine bodyPost_ret (v := .agg #[.int .i64 g.X, .int .i64 g.Y, .int .i64 g.S, .int .i64 g.C, .int .i64 g.R, .slice (some ⟨g2, 0, none⟩) g.L.length c2]) (by simp [results, Try.results52, go_sem, s0, s1, s2, s3, s4, s5]) rfl ⟨⟨some ⟨g2, 0, none⟩, c2, rfl, newZ_own hN4 hwg⟩, hXL⟩
end Go.Proofs.Ytohdplnlbnoojaa

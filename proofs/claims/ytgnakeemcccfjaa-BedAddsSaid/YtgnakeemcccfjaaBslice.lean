/- The contracts of changeOfLayer and of Slices. -/
import Derived.Test.YtgnakeemcccfjaaBmove
import Derived.Test.YtgnakeemcccfjaaBlawco
namespace Go.Proofs.Ytgnakeemcccfjaa
open Go Go.RowKit Go.IntWalk

theorem lay_sum (s : Int) (l m : List Int) (lo hi : Int) (n n' : Nat) (h : n ≤ n') (k : Nat) (hk : k ≤ n) : sumC s (mkL (fun k => mvI lo hi (gi l k)) n) (mkL (fun k => mvI lo hi (gi m k)) n') 0 1 k = layP s l m lo hi k := by
  unfold sumC layP
  apply sumN_congr
  intro j hj
  unfold cutAt
  rw [Nat.zero_add, Nat.mul_one, gi_mkL _ _ _ (by omega), gi_mkL _ _ _ (by omega)]
theorem newL_three (w : World) (x y z : Value) (t : TypeId) : CellsAt (w.alloc (.cells #[x, y, z] t)) w.heap.size 0 [x, y, z] := by
  refine cells_three ⟨?_, ?_, ?_⟩ <;> simp [go_sem]
set_option maxHeartbeats 8000000 in
set_option maxRecDepth 100000 in
theorem changeOfLayer_c (g h : Gr) (lo hi : Int) (w : World) (A B : Option Addr) (c d : Nat) (vg : VG g) (_vh : VG h) (hn : g.L.length = h.L.length) (hb : -20000 ≤ lo ∧ lo ≤ hi ∧ hi ≤ 20000) (hA : Row 1 encZ w A g.L) (hB : Row 1 encZ w B h.L) :
    Calls Try.prog 91 #[.agg #[.int .i64 g.X, .int .i64 g.Y, .int .i64 g.S, .int .i64 g.C, .int .i64 g.R, .slice A g.L.length c], .agg #[.int .i64 h.X, .int .i64 h.Y, .int .i64 h.S, .int .i64 h.C, .int .i64 h.R, .slice B h.L.length d], .int .i64 lo, .int .i64 hi] w fun e w' => e = .returned (.agg #[.int .i64 (layF g h lo hi).x, .int .i64 (layF g h lo hi).y, .int .i64 0]) ∧ Ext w w' := by
  have hlg : g.L.length ≤ 1024 := by have h1 := vg.len; have h2 := vg.hn; omega
  have HM1 := Lib.hid (fun w' (hw : Ext w w') => (moveInto_c g (fun k => mvI lo hi (gi g.L k)) lo hi (fun _ _ => rfl) w' A c (by omega) (hA.ext hw)).mono fun e w'' k => And.intro k.1.re' k.2)
  have HM2 := Lib.hid (fun w' (hw : Ext w w') => (moveInto_c h (fun k => mvI lo hi (gi h.L k)) lo hi (fun _ _ => rfl) w' B d (by omega) (hB.ext hw)).mono fun e w'' k => And.intro k.1.re' k.2)
  obtain ⟨u, hU⟩ : ∃ u, sumU (reL g fun k => mvI lo hi (gi g.L k)).L (reL h fun k => mvI lo hi (gi h.L k)).L 0 1 g.L.length = u := ⟨_, rfl⟩
  have HCO := Lib.hid (fun w' (_ : Ext w w') A' B' c' d' (h1 : Row 1 encZ w' A' (mkL (fun k => mvI lo hi (gi g.L k)) g.L.length)) (h2 : Row 1 encZ w' B' (mkL (fun k => mvI lo hi (gi h.L k)) h.L.length)) => by
    have e1 : (reL g fun k => mvI lo hi (gi g.L k)).L.length = g.L.length := mkL_len _ _
    have e2 : (reL h fun k => mvI lo hi (gi h.L k)).L.length = h.L.length := mkL_len _ _
    have h9 := changeOver_c (reL g fun k => mvI lo hi (gi g.L k)) (reL h fun k => mvI lo hi (gi h.L k)) 0 1 g.L.length w' A' B' c' d' (by show 0 ≤ g.S; have := vg.hs; omega) (by show g.S ≤ 10000; have := vg.hs; omega)
      (fun i hi' => by rw [e1] at hi'; have e3 : gi (reL g fun k => mvI lo hi (gi g.L k)).L i = mvI lo hi (gi g.L i) := gi_mkL _ _ _ hi'; rw [e3]; exact mvI_ok hb) (fun i hi' => by rw [e2] at hi'; have e3 : gi (reL h fun k => mvI lo hi (gi h.L k)).L i = mvI lo hi (gi h.L i) := gi_mkL _ _ _ hi'; rw [e3]; exact mvI_ok hb)
      (by rw [e1, e2]; exact hn) (by rw [e1]; omega) (by omega) (by omega) (by omega) (by omega) (fun k hk => by rw [e1]; omega) (by rw [e1]; omega) h1 h2
    rw [e1, e2] at h9
    have q1 : sumC (reL g fun k => mvI lo hi (gi g.L k)).S (reL g fun k => mvI lo hi (gi g.L k)).L (reL h fun k => mvI lo hi (gi h.L k)).L 0 1 g.L.length = (layF g h lo hi).x := lay_sum g.S g.L h.L lo hi _ _ (by omega) _ (Nat.le_refl _)
    have q2 : sumC (reL g fun k => mvI lo hi (gi g.L k)).S (reL h fun k => mvI lo hi (gi h.L k)).L (reL g fun k => mvI lo hi (gi g.L k)).L 0 1 g.L.length = (layF g h lo hi).y := lay_sum g.S h.L g.L lo hi _ _ (by omega) _ (by omega)
    rw [q1, q2, hU] at h9
    have h10 : Calls Try.prog 88 #[.agg #[.int .i64 g.X, .int .i64 g.Y, .int .i64 g.S, .int .i64 g.C, .int .i64 g.R, .slice A' g.L.length c'], .agg #[.int .i64 h.X, .int .i64 h.Y, .int .i64 h.S, .int .i64 h.C, .int .i64 h.R, .slice B' h.L.length d'], .int .i64 0, .int .i64 1] w' fun e w'' => e = .returned (.agg #[.int .i64 (layF g h lo hi).x, .int .i64 (layF g h lo hi).y, .int .i64 u]) ∧ Ext w' w'' := h9
    exact h10)
  clear hU
  generalize (layF g h lo hi).x = x at *
  generalize (layF g h lo hi).y = y at *
  obtain ⟨L1, hL1⟩ : ∃ L, mkL (fun k => mvI lo hi (gi g.L k)) g.L.length = L := ⟨_, rfl⟩
  obtain ⟨L2, hL2⟩ : ∃ L, mkL (fun k => mvI lo hi (gi h.L k)) h.L.length = L := ⟨_, rfl⟩
  rw [hL1] at HM1 HCO
  rw [hL2] at HM2 HCO
  clear hL1 hL2 vg hn hA hB
  go_enter Try.func91, Try.ntmps91
  go_upto_region 1 with fail
  refine wp_name (fun W hW => ?_)
  have hE : Ext w W := by rw [hW]; (repeat (first | with_reducible exact Ext.rfl' _ | with_reducible assumption | with_reducible refine Ext.al ?_ _ | with_reducible refine Ext.dr ?_ | with_reducible refine Ext.st ?_ (by simp) _ | with_reducible refine Ext.tr ?_ (by assumption)))
  have HW := Lib.hid hW
  clear hW
  have kg : CellsAt W w.heap.size 0 [.int .i64 g.X, .int .i64 g.Y, .int .i64 g.S, .int .i64 g.C, .int .i64 g.R, .slice A g.L.length c] := by
    rw [HW.out]
    refine cells_six ⟨?_, ?_, ?_, ?_, ?_, ?_⟩ <;> simp [World.cell?_alloc_past, World.cell?_alloc_new, go_sem]
  have kh : CellsAt W (w.heap.size + 1) 0 [.int .i64 h.X, .int .i64 h.Y, .int .i64 h.S, .int .i64 h.C, .int .i64 h.R, .slice B h.L.length d] := by
    rw [HW.out]
    refine cells_six ⟨?_, ?_, ?_, ?_, ?_, ?_⟩ <;> simp [World.cell?_alloc_past, go_sem]
  have kr : CellsAt W (w.heap.size + 1 + 1) 0 [.int .i64 0, .int .i64 0, .int .i64 0] := by
    rw [HW.out]
    refine cells_three ⟨?_, ?_, ?_⟩ <;> simp [go_sem]
  have fr : ∀ o, W.frozen? ⟨w.heap.size + 1 + 1, o, none⟩ = false := fun o => by rw [HW.out]; simp [go_sem]
  have sz0 : W.heap.size = w.heap.size + 1 + 1 + 1 := by rw [HW.out]; simp
  have zg : w.heap.size < W.heap.size := by omega
  have zh : w.heap.size + 1 < W.heap.size := by omega
  have zr : w.heap.size + 1 + 1 < W.heap.size := by omega
  have dr : w.heap.size ≤ w.heap.size + 1 + 1 := by omega
  clear HW sz0
  generalize w.heap.size + 1 + 1 = nr at *
  generalize w.heap.size + 1 = nh at *
  go_cut [9] (fun s9 wx => ∃ (b9 : Nat), s9 = .pointer (some ⟨b9, 0, none⟩) ∧ Ext W wx ∧ b9 < wx.heap.size ∧ W.heap.size ≤ b9 ∧ CellsAt wx b9 0 [.int .i64 x, .int .i64 y, .int .i64 u] ∧ ∀ o, wx.frozen? ⟨b9, o, none⟩ = false)
  case first =>
    obtain ⟨g0, g1, g2, g3, g4, g5⟩ := kg.six
    obtain ⟨k0, k1, k2, k3, k4, k5⟩ := kh.six
    clear kr fr
    go_region_held3 (fun w' => (∀ j : Nat, w'.cell? ⟨w.heap.size, j, none⟩ = W.cell? ⟨w.heap.size, j, none⟩) ∧ (∀ j : Nat, w'.cell? ⟨nh, j, none⟩ = W.cell? ⟨nh, j, none⟩) ∧ Ext W w') ((refine keepB2 ?_ zg zh; (repeat (first | with_reducible exact Ext.rfl' _ | with_reducible assumption | (exact (by assumption : _ ∧ _ ∧ Ext W _).2.2) | with_reducible refine Ext.al ?_ _ | with_reducible refine Ext.dr ?_ | with_reducible refine Ext.st ?_ (by first | (simp; done) | ((try have h9 := Below.size hb2); (try have h8 := Below.size hb3); (try have h7 := Below.size hb4); (try simp at h9); (try simp at h8); (try simp at h7); (try simp); omega)) _ | with_reducible refine Ext.tr ?_ (by assumption))))) (first | (go_at_call 129; (with_reducible refine Calls.mono (HM1.out _ (hE.tr (by (repeat (first | with_reducible exact Ext.rfl' _ | with_reducible assumption | with_reducible refine Ext.al ?_ _ | with_reducible refine Ext.dr ?_ | with_reducible refine Ext.st ?_ (by simp) _ | with_reducible refine Ext.tr ?_ (by assumption)))))) ?_); rintro e w2 ⟨⟨A2, c2, rfl, hN2⟩, hb2⟩; have hc2 := hb2.ccell; have hf2 := hb2.frz; have hs2 := hb2.sz; (try have t2 := hs2 W.heap.size (by first | assumption | (simp; done) | (simp; omega))); (try have t2' := hs2 w3.heap.size (by first | assumption | (simp; done) | (simp; omega)))) | (go_at_call 129; (with_reducible refine Calls.mono (HM2.out _ (hE.tr (by (repeat (first | with_reducible exact Ext.rfl' _ | with_reducible assumption | with_reducible refine Ext.al ?_ _ | with_reducible refine Ext.dr ?_ | with_reducible refine Ext.st ?_ (by simp) _ | with_reducible refine Ext.tr ?_ (by assumption)))))) ?_); rintro e w3 ⟨⟨A3, c3, rfl, hN3⟩, hb3⟩; have hc3 := hb3.ccell; have hf3 := hb3.frz; have hs3 := hb3.sz; (try have t3 := hs3 W.heap.size (by first | assumption | (simp; done) | (simp; omega))); (try have t3' := hs3 w2.heap.size (by first | assumption | (simp; done) | (simp; omega)))) | (go_at_call 88; (with_reducible refine Calls.mono (HCO.out _ (hE.tr (by (repeat (first | with_reducible exact Ext.rfl' _ | with_reducible assumption | with_reducible refine Ext.al ?_ _ | with_reducible refine Ext.dr ?_ | with_reducible refine Ext.st ?_ (by simp) _ | with_reducible refine Ext.tr ?_ (by assumption))))) _ _ _ _ (hN2.row.ext (by (repeat (first | with_reducible exact Ext.rfl' _ | with_reducible assumption | with_reducible refine Ext.al ?_ _ | with_reducible refine Ext.dr ?_ | with_reducible refine Ext.st ?_ (by simp) _ | with_reducible refine Ext.tr ?_ (by assumption))))) (hN3.row.ext (by (repeat (first | with_reducible exact Ext.rfl' _ | with_reducible assumption | with_reducible refine Ext.al ?_ _ | with_reducible refine Ext.dr ?_ | with_reducible refine Ext.st ?_ (by simp) _ | with_reducible refine Ext.tr ?_ (by assumption)))))) ?_); rintro e w4 ⟨rfl, hb4⟩; have hc4 := hb4.ccell; have hf4 := hb4.frz; have hs4 := hb4.sz; (try have t4 := hs4 W.heap.size (by first | assumption | (simp; done) | (simp; omega))); (try have t4' := hs4 w2.heap.size (by first | assumption | (simp; done) | (simp; omega))); (try have t4'' := hs4 w3.heap.size (by first | assumption | (simp; done) | (simp; omega)))))
    all_goals
      rename_i hJ hK h1 h2 hH
      clear hH
      refine h2 _ _ (Met.intro (h1 _ _ ?_))
      (repeat apply Exists.intro)
      refine ⟨?_, rfl⟩
      refine ⟨_, rfl, ?_, ?_, ?_, ?_, ?_⟩
      · (repeat (first | with_reducible exact Ext.rfl' _ | with_reducible assumption | (exact (by assumption : _ ∧ _ ∧ Ext W _).2.2) | with_reducible refine Ext.al ?_ _ | with_reducible refine Ext.dr ?_ | with_reducible refine Ext.st ?_ (by first | (simp; done) | ((try have h9 := Below.size hb2); (try have h8 := Below.size hb3); (try have h7 := Below.size hb4); (try simp at h9); (try simp at h8); (try simp at h7); (try simp); omega)) _ | with_reducible refine Ext.tr ?_ (by assumption)))
      · first | (simp; done) | ((try have h9 := Below.size hb2); (try have h8 := Below.size hb3); (try have h7 := Below.size hb4); (try simp at h9); (try simp at h8); (try simp at h7); (try simp); omega)
      · first | (simp; done) | ((try have h9 := Below.size hb2); (try have h8 := Below.size hb3); (try have h7 := Below.size hb4); (try simp at h9); (try simp at h8); (try simp at h7); (try simp); omega)
      · first | (refine cells_three ⟨?_, ?_, ?_⟩ <;> (simp [go_sem]; done)) | (refine cells_three ⟨?_, ?_, ?_⟩ <;> (simp [*, go_sem]; done))
      · intro o; first | (simp [go_sem]; done) | (simp [*, go_sem]; done)
  case rest =>
    obtain ⟨b9, rfl, hx, hz9, hb9, k9, f9⟩ := hcut
    have hEc := hE.tr hx
    obtain ⟨r0, r1, r2⟩ := k9.three
    have kr2 := kr.ext hx zr
    have fr2 : ∀ o, wc.frozen? ⟨nr, o, none⟩ = false := fun o => (hx.frz _ o zr).trans (fr o)
    have zr2 := hx.sz _ zr
    obtain ⟨q0, q1, q2⟩ := kr2.three
    have hne : nr ≠ b9 := by omega
    have hd9 : w.heap.size ≤ b9 := by omega
    clear kr fr kg kh HM1 HM2 HCO hx
    go_wp2
    have hE3 : Ext w (wc.setCell ⟨b9, 2, none⟩ (.int .i64 0)) := Ext.st hEc (by show w.heap.size ≤ b9; omega) _
    have kr3 : CellsAt (wc.setCell ⟨b9, 2, none⟩ (.int .i64 0)) nr 0 [.int .i64 0, .int .i64 0, .int .i64 0] := kr2.st (by simp; omega) _
    generalize wc.setCell ⟨b9, 2, none⟩ (.int .i64 0) = wz at *
    have hSL := stL_at (nr) [.int .i64 x, .int .i64 y, .int .i64 0] _ 0 _ kr3 rfl
    have hXL := stL_ext (nr) (by first | omega | (simp; done) | (simp; omega)) [.int .i64 x, .int .i64 y, .int .i64 0] 0 _ hE3
    show bodyPost _ _ _ _ _ (stL (wz) (nr) 0 [.int .i64 x, .int .i64 y, .int .i64 0])
    generalize stL (wz) (nr) 0 [.int .i64 x, .int .i64 y, .int .i64 0] = WL at hSL hXL ⊢
    obtain ⟨s0, s1, s2⟩ := hSL.three
    refine bodyPost_ret (v := .agg #[.int .i64 x, .int .i64 y, .int .i64 0]) (by simp [results, Try.results91, go_sem, s0, s1, s2]) rfl ⟨rfl, hXL⟩
/-- The change of the layer number k. -/
def layK (g h : Gr) (l : List Int) (k : Nat) : C3 := layF g h (loL l k) (hiV l k)
theorem loL_succ (l : List Int) (k : Nat) : loL l (k + 1) = gi l k := by unfold loL; rw [if_neg (by omega)]; rfl
theorem hiV_lt {l : List Int} {k : Nat} (h : k < l.length) : hiV l k = gi l k := by unfold hiV; rw [if_pos h]
theorem hiV_end (l : List Int) : hiV l l.length = 20000 := by unfold hiV; rw [if_neg (by omega)]
/-- The error of Slices. -/
def slE (g h : Gr) (l : List Int) : Int := if twoE g h ≠ 0 then twoE g h else levE l
set_option maxHeartbeats 4000000 in
theorem slices_err_c (g h : Gr) (l : List Int) (w : World) (A B D : Option Addr) (c d e : Nat) (hl : g.L.length ≤ maxLen) (hm : h.L.length ≤ maxLen) (hk : l.length ≤ 1000) (hA : Row 1 encZ w A g.L) (hB : Row 1 encZ w B h.L) (hD : Row 1 encZ w D l) (h0 : slE g h l ≠ 0) :
    Calls Try.prog 46 #[.agg #[.int .i64 g.X, .int .i64 g.Y, .int .i64 g.S, .int .i64 g.C, .int .i64 g.R, .slice A g.L.length c], .agg #[.int .i64 h.X, .int .i64 h.Y, .int .i64 h.S, .int .i64 h.C, .int .i64 h.R, .slice B h.L.length d], .slice D l.length e] w fun e w' => e = .returned (.tuple #[.slice none 0 0, .int .i64 (slE g h l)]) ∧ Ext w w' := by
  have HC := Lib.hid (fun w' (hw : Ext w w') => checkTwo_c g h w' A B c d hl hm (hA.ext hw) (hB.ext hw))
  have HL := Lib.hid (fun w' (hw : Ext w w') => checkLevels_c l w' D e hk (hD.ext hw))
  unfold slE at *
  by_cases h1 : twoE g h = 0
  case neg =>
    rw [if_pos h1]
    have h1' : (twoE g h != 0) = true := by rw [bne_iff_ne]; exact h1
    clear h0 hA hB hD
    generalize twoE g h = E at *
    clear h1
    go_enter Try.func46, Try.ntmps46
    go_wp2_with (first | (go_at_call 87; with_reducible refine Calls.mono (HC.out _ (by (repeat (first | with_reducible exact Ext.rfl' _ | with_reducible assumption | with_reducible refine Ext.al ?_ _ | with_reducible refine Ext.dr ?_ | with_reducible refine Ext.st ?_ (by simp) _ | with_reducible refine Ext.tr ?_ (by assumption))))) ?_; rintro e w1 ⟨rfl, hb⟩; have hc := hb.ccell; have hf := hb.frz; have hs := hb.sz; (try simp at hs); (try have hs0 := hs w.heap.size (by omega)); (try have hs1 := hs (w.heap.size + 1) (by omega)); (try have hs2 := hs (w.heap.size + 1 + 1) (by omega)); (try have hs3 := hs (w.heap.size + 1 + 1 + 1) (by omega))))
    exact bodyPost_ret (v := .tuple #[.slice none 0 0, .int .i64 E]) (by simp [results, Try.results46, go_sem]) rfl ⟨rfl, by (repeat (first | with_reducible exact Ext.rfl' _ | with_reducible assumption | with_reducible refine Ext.al ?_ _ | with_reducible refine Ext.dr ?_ | with_reducible refine Ext.st ?_ (by simp) _ | with_reducible refine Ext.tr ?_ (by assumption)))⟩
  rw [if_neg (by omega)] at h0 ⊢
  rw [h1] at HC
  have h1' : (levE l != 0) = true := by rw [bne_iff_ne]; exact h0
  clear h0 h1 hA hB hD
  generalize levE l = E at *
  go_enter Try.func46, Try.ntmps46
  go_wp2_with (first | (go_at_call 87; with_reducible refine Calls.mono (HC.out _ (by (repeat (first | with_reducible exact Ext.rfl' _ | with_reducible assumption | with_reducible refine Ext.al ?_ _ | with_reducible refine Ext.dr ?_ | with_reducible refine Ext.st ?_ (by simp) _ | with_reducible refine Ext.tr ?_ (by assumption))))) ?_; rintro e w1 ⟨rfl, hb⟩; have hc := hb.ccell; have hf := hb.frz; have hs := hb.sz; (try simp at hs); (try have hs0 := hs w.heap.size (by omega)); (try have hs1 := hs (w.heap.size + 1) (by omega)); (try have hs2 := hs (w.heap.size + 1 + 1) (by omega)); (try have hs3 := hs (w.heap.size + 1 + 1 + 1) (by omega))) | (go_at_call 90; with_reducible refine Calls.mono (HL.out _ (by (repeat (first | with_reducible exact Ext.rfl' _ | with_reducible assumption | with_reducible refine Ext.al ?_ _ | with_reducible refine Ext.dr ?_ | with_reducible refine Ext.st ?_ (by simp) _ | with_reducible refine Ext.tr ?_ (by assumption))))) ?_; rintro e w1 ⟨rfl, hb⟩; have hc := hb.ccell; have hf := hb.frz; have hs := hb.sz; (try simp at hs); (try have hs0 := hs w.heap.size (by omega)); (try have hs1 := hs (w.heap.size + 1) (by omega)); (try have hs2 := hs (w.heap.size + 1 + 1) (by omega)); (try have hs3 := hs (w.heap.size + 1 + 1 + 1) (by omega))))
  exact bodyPost_ret (v := .tuple #[.slice none 0 0, .int .i64 E]) (by simp [results, Try.results46, go_sem]) rfl ⟨rfl, by (repeat (first | with_reducible exact Ext.rfl' _ | with_reducible assumption | with_reducible refine Ext.al ?_ _ | with_reducible refine Ext.dr ?_ | with_reducible refine Ext.st ?_ (by simp) _ | with_reducible refine Ext.tr ?_ (by assumption)))⟩
set_option maxHeartbeats 8000000 in
set_option maxRecDepth 100000 in
theorem slices_ok_c (g h : Gr) (l : List Int) (w : World) (A B D : Option Addr) (c d e : Nat) (hA : Row 1 encZ w A g.L) (hB : Row 1 encZ w B h.L) (hD : Row 1 encZ w D l) (h0 : twoE g h = 0) (hv0 : levE l = 0) :
    Calls Try.prog 46 #[.agg #[.int .i64 g.X, .int .i64 g.Y, .int .i64 g.S, .int .i64 g.C, .int .i64 g.R, .slice A g.L.length c], .agg #[.int .i64 h.X, .int .i64 h.Y, .int .i64 h.S, .int .i64 h.C, .int .i64 h.R, .slice B h.L.length d], .slice D l.length e] w fun e w' => OutCs (mkC (layK g h l) (l.length + 1)) e w' ∧ Ext w w' := by
  obtain ⟨vg, vh, hs, hn⟩ := twoE_ok h0
  obtain ⟨hk20, hlev⟩ := levE_ok hv0
  have hlg : g.L.length ≤ 1024 := by have h1 := vg.len; have h2 := vg.hn; omega
  have HC := Lib.hid (fun w' (hw : Ext w w') => by
    have h9 := checkTwo_c g h w' A B c d (by unfold maxLen; omega) (by unfold maxLen; omega) (hA.ext hw) (hB.ext hw)
    rw [h0] at h9
    exact h9)
  have HV := Lib.hid (fun w' (hw : Ext w w') => by
    have h9 := checkLevels_c l w' D e (by omega) (hD.ext hw)
    rw [hv0] at h9
    exact h9)
  obtain ⟨F, hF⟩ : ∃ F, layK g h l = F := ⟨_, rfl⟩
  have HCL := Lib.hid (fun k (hk : k ≤ l.length) w' (hw : Ext w w') => by
    have h9 := changeOfLayer_c g h (loL l k) (hiV l k) w' A B c d vg vh hn (hlev k hk) (hA.ext hw) (hB.ext hw)
    have q : layF g h (loL l k) (hiV l k) = F k := by rw [← hF]; rfl
    rw [q] at h9
    exact h9)
  have HFZ : Hid (∀ k, (F k).z = 0) := Lib.hid (fun k => by rw [← hF]; rfl)
  rw [hF]
  obtain ⟨i0, hi, hzi0, hzi1, hzi2⟩ := info_parts infoC
  have HI := Lib.hid (And.intro hi (And.intro hzi0 (And.intro hzi1 hzi2)))
  clear hi hzi0 hzi1 hzi2 hF vg vh hs hn hA hB h0 hv0 hlev
  go_enter Try.func46, Try.ntmps46
  go_upto_region 7 with (first | (go_at_call 87; with_reducible refine Calls.mono (HC.out _ (by (repeat (first | with_reducible exact Ext.rfl' _ | with_reducible assumption | with_reducible refine Ext.al ?_ _ | with_reducible refine Ext.dr ?_ | with_reducible refine Ext.st ?_ (by simp) _ | with_reducible refine Ext.tr ?_ (by assumption))))) ?_; rintro e w1 ⟨rfl, hb⟩; have hc := hb.ccell; have hf := hb.frz; have hs := hb.sz; (try simp at hs); (try have t0 := hs (w.heap.size) (by first | assumption | omega)); (try have t1 := hs (w.heap.size + 1) (by first | assumption | omega)); (try have t2 := hs (w.heap.size) (by first | assumption | omega)); (try have t3 := hs (w.heap.size) (by first | assumption | omega)); (try have t4 := hs (w.heap.size) (by first | assumption | omega)); (try have t5 := hs (w.heap.size) (by first | assumption | omega))) | (go_at_call 90; with_reducible refine Calls.mono (HV.out _ (by (repeat (first | with_reducible exact Ext.rfl' _ | with_reducible assumption | with_reducible refine Ext.al ?_ _ | with_reducible refine Ext.dr ?_ | with_reducible refine Ext.st ?_ (by simp) _ | with_reducible refine Ext.tr ?_ (by assumption))))) ?_; rintro e w2 ⟨rfl, hb⟩; have hc := hb.ccell; have hf := hb.frz; have hs := hb.sz; (try simp at hs); (try have t0 := hs (w.heap.size) (by first | assumption | omega)); (try have t1 := hs (w.heap.size + 1) (by first | assumption | omega)); (try have t2 := hs (w.heap.size) (by first | assumption | omega)); (try have t3 := hs (w.heap.size) (by first | assumption | omega)); (try have t4 := hs (w.heap.size) (by first | assumption | omega)); (try have t5 := hs (w.heap.size) (by first | assumption | omega))))
  have hE1 : Ext w w2 := by (repeat (first | with_reducible exact Ext.rfl' _ | with_reducible assumption | with_reducible refine Ext.al ?_ _ | with_reducible refine Ext.dr ?_ | with_reducible refine Ext.st ?_ (by simp) _ | with_reducible refine Ext.tr ?_ (by assumption)))
  have kg : CellsAt w2 w.heap.size 0 [.int .i64 g.X, .int .i64 g.Y, .int .i64 g.S, .int .i64 g.C, .int .i64 g.R, .slice A g.L.length c] := by refine cells_six ⟨?_, ?_, ?_, ?_, ?_, ?_⟩ <;> simp [*, go_sem]
  have kh : CellsAt w2 (w.heap.size + 1) 0 [.int .i64 h.X, .int .i64 h.Y, .int .i64 h.S, .int .i64 h.C, .int .i64 h.R, .slice B h.L.length d] := by refine cells_six ⟨?_, ?_, ?_, ?_, ?_, ?_⟩ <;> simp [*, go_sem]
  have zg : w.heap.size < w2.heap.size := by assumption
  have zh : w.heap.size + 1 < w2.heap.size := by assumption
  clear hc hf hs hb t0 t1 t2 t3 t4 t5
  go_wp2
  go_loopw [10, 11, 13, 27] (fun v lo _ i wr => Ext w2 wr ∧ ∃ k : Nat, k ≤ l.length ∧ i = .int .i64 k ∧ lo = .int .i64 (loL l k) ∧ Hid (wr.ownsRow w2.heap.size 58 3 v k ((mkC F k).flatMap encC))) (fun _ _ _ i _ => l.length - (intOf i).toNat)
  case atStart => exact ⟨Ext.rfl' _, 0, Nat.zero_le _, rfl, rfl, Lib.hid (World.ownsRow_nil _ _ _ _)⟩
  case round =>
    obtain ⟨hr, k, hk, rfl, rfl, hO⟩ := hrel
    have hE := hE1.tr hr
    obtain ⟨g0, g1, g2, g3, g4, g5⟩ := (kg.ext hr zg).six
    obtain ⟨h0, h1, h2, h3, h4, h5⟩ := (kh.ext hr zh).six
    have zg2 := hr.sz _ zg
    have zh2 := hr.sz _ zh
    have S1 := Lib.hid (fun w' (hw : Ext w w') => HCL.out k hk w' hw)
    have FZ := HFZ.out k
    obtain ⟨hi, hzi0, hzi1, hzi2⟩ := HI.out
    by_cases hlt : k < l.length
    · obtain ⟨b, off, rfl, hb0, hcell⟩ := hD.p1 hlt
      have c1 := hcell _ hE
      have hz := hE.sz _ hb0
      rw [← gi_lt] at c1
      clear hcell
      have hlo := Lib.hid (loL_succ l k)
      rw [hiV_lt hlt] at S1
      generalize gi l k = v at *
      generalize loL l k = lo at *
      go_wp2_with (first | (go_at_call 91; with_reducible refine Calls.mono (S1.out _ (by (repeat (first | with_reducible exact Ext.rfl' _ | with_reducible assumption | with_reducible refine Ext.al ?_ _ | with_reducible refine Ext.dr ?_ | with_reducible refine Ext.st ?_ (by simp) _ | with_reducible refine Ext.tr ?_ (by assumption))))) ?_; rintro e w3 ⟨rfl, hb⟩; have hc := hb.ccell; have hf := hb.frz; have hs := hb.sz; (try simp at hs); (try have t0 := hs (w.heap.size) (by first | assumption | omega)); (try have t1 := hs (w.heap.size) (by first | assumption | omega)); (try have t2 := hs (w.heap.size) (by first | assumption | omega)); (try have t3 := hs (w.heap.size) (by first | assumption | omega)); (try have t4 := hs (w.heap.size) (by first | assumption | omega)); (try have t5 := hs (w.heap.size) (by first | assumption | omega))) | (at_builtin; refine wpList_append_own _ rfl _ _ 61 rfl w2.heap.size 58 i0 _ 3 24 Try.underlying61 hi hzi0 hzi1 hzi2 rfl (by decide) _ _ _ rfl (World.ownsRow.alloc (ownsRow_ext hO.out (by assumption)) _) ⟨_, 0, none⟩ 1 1 [.int .i64 (F k).x, .int .i64 (F k).y, .int .i64 0] rfl rfl ?_ ?_ ?_ ?_ ?_ ?_))
      · exact three_newZ _ _ _ _ _
      · intro u hu; simp at hu; rcases hu with rfl | rfl | rfl <;> rfl
      · unfold maxLen; omega
      · omega
      · have hE3 : Ext wr w3 := by assumption
        have := (hr.tr hE3).size
        simp; omega
      intro v' w4 hown hgrow _
      have hE3 : Ext wr w3 := by assumption
      have hE4 : Ext w2 w4 := grown_ext (Ext.al (hr.tr hE3) _) (World.ownsRow.alloc (ownsRow_ext hO.out hE3) _) (Nat.le_refl _) hgrow
      have hown2 := Lib.hid hown
      clear hown hgrow hi hzi0 hzi1 hzi2
      go_wp2
      refine ⟨⟨hE4, k + 1, by omega, by go_num, by rw [hlo.out], Lib.hid ?_⟩, by simp [intOf]; omega⟩
      rw [mkC_succ, FZ]
      exact hown2.out
    · have hks : k = l.length := by omega
      subst hks
      rw [hiV_end] at S1
      generalize loL l l.length = lo at *
      go_wp2_with (first | (go_at_call 91; with_reducible refine Calls.mono (S1.out _ (by (repeat (first | with_reducible exact Ext.rfl' _ | with_reducible assumption | with_reducible refine Ext.al ?_ _ | with_reducible refine Ext.dr ?_ | with_reducible refine Ext.st ?_ (by simp) _ | with_reducible refine Ext.tr ?_ (by assumption))))) ?_; rintro e w3 ⟨rfl, hb⟩; have hc := hb.ccell; have hf := hb.frz; have hs := hb.sz; (try simp at hs); (try have t0 := hs (w.heap.size) (by first | assumption | omega)); (try have t1 := hs (w.heap.size) (by first | assumption | omega)); (try have t2 := hs (w.heap.size) (by first | assumption | omega)); (try have t3 := hs (w.heap.size) (by first | assumption | omega)); (try have t4 := hs (w.heap.size) (by first | assumption | omega)); (try have t5 := hs (w.heap.size) (by first | assumption | omega))) | (at_builtin; refine wpList_append_own _ rfl _ _ 61 rfl w2.heap.size 58 i0 _ 3 24 Try.underlying61 hi hzi0 hzi1 hzi2 rfl (by decide) _ _ _ rfl (World.ownsRow.alloc (ownsRow_ext hO.out (by assumption)) _) ⟨_, 0, none⟩ 1 1 [.int .i64 (F l.length).x, .int .i64 (F l.length).y, .int .i64 0] rfl rfl ?_ ?_ ?_ ?_ ?_ ?_))
      · exact three_newZ _ _ _ _ _
      · intro u hu; simp at hu; rcases hu with rfl | rfl | rfl <;> rfl
      · unfold maxLen; omega
      · omega
      · have hE3 : Ext wr w3 := by assumption
        have := (hr.tr hE3).size
        simp; omega
      intro v' w4 hown hgrow _
      have hE3 : Ext wr w3 := by assumption
      have hE4 : Ext w2 w4 := grown_ext (Ext.al (hr.tr hE3) _) (World.ownsRow.alloc (ownsRow_ext hO.out hE3) _) (Nat.le_refl _) hgrow
      have hE5 : Ext w w4 := hE1.tr hE4
      have hown2 : w4.ownsRow w2.heap.size 58 3 v' (l.length + 1) ((mkC F (l.length + 1)).flatMap encC) := by rw [mkC_succ, FZ]; exact hown
      obtain ⟨A', c', hv, _, _, hcase⟩ := ownK_cases encC_len (l := mkC F (l.length + 1)) rfl (mkC_len _ _).symm hown2
      subst hv
      have hrow := Lib.hid (ownK_row encC_len hcase)
      clear hown hown2 hgrow hi hzi0 hzi1 hzi2 hO hcase
      go_wp2
      exact bodyPost_ret (v := .tuple #[.slice A' (mkC F (l.length + 1)).length c', .int .i64 0]) (by simp [results, Try.results46, go_sem]) rfl ⟨⟨A', c', rfl, hrow.out⟩, hE5⟩
end Go.Proofs.Ytgnakeemcccfjaa

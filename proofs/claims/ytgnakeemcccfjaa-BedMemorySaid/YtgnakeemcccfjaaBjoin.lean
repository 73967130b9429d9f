/- The closure of join, with what it is given by Latest and by Shoalest. -/
import Derived.Test.YtgnakeemcccfjaaBclos
import Derived.Test.YtgnakeemcccfjaaBset
namespace Go.Proofs.Ytgnakeemcccfjaa
open Go Go.RowKit Go.IntWalk

/-- The level of a cell of two grids that are joined. -/
def joF (op : Int → Int → Int) (g h : Gr) (k : Nat) : Int := if knB g.L k = false then gi h.L k else if knB h.L k = false then gi g.L k else op (gi g.L k) (gi h.L k)
def opL (_ y : Int) : Int := y
def opS (x y : Int) : Int := max x y
theorem opL_c (x y : Int) (w : World) : Calls Try.prog 85 #[.int .i64 x, .int .i64 y] w fun e w' => e = .returned (.int .i64 (opL x y)) ∧ Ext w w' := by
  unfold opL
  go_enter Try.func85, Try.ntmps85
  go_wp2
  go_ret
  exact ⟨rfl, by (repeat (first | with_reducible exact Ext.rfl' _ | with_reducible assumption | with_reducible refine Ext.al ?_ _ | with_reducible refine Ext.dr ?_ | with_reducible refine Ext.st ?_ (by simp) _ | with_reducible refine Ext.tr ?_ (by assumption)))⟩
theorem opS_c (x y : Int) (w : World) : Calls Try.prog 86 #[.int .i64 x, .int .i64 y] w fun e w' => e = .returned (.int .i64 (opS x y)) ∧ Ext w w' := by
  unfold opS
  go_enter Try.func86, Try.ntmps86
  go_wp2
  go_ret
  exact ⟨rfl, by (repeat (first | with_reducible exact Ext.rfl' _ | with_reducible assumption | with_reducible refine Ext.al ?_ _ | with_reducible refine Ext.dr ?_ | with_reducible refine Ext.st ?_ (by simp) _ | with_reducible refine Ext.tr ?_ (by assumption)))⟩
set_option maxHeartbeats 4000000 in
theorem join1L_c (g h : Gr) (k p q r : Nat) (w : World) (A B : Option Addr) (c d : Nat) (hk : k < g.L.length) (hk2 : k < h.L.length) (hl : g.L.length ≤ 1100) (hm : h.L.length ≤ 1100) (hA : Row 1 encZ w A g.L) (hB : Row 1 encZ w B h.L) (hp : BoxG w p g A c) (hq : BoxG w q h B d) (hr : w.cell? ⟨r, 0, none⟩ = some (.func (.func 85) #[] #[])) (hrz : r < w.heap.size) :
    Calls Try.prog 126 #[.int .i64 k, .pointer (some ⟨p, 0, none⟩), .pointer (some ⟨q, 0, none⟩), .pointer (some ⟨r, 0, none⟩)] w fun e w' => e = .returned (.int .i64 (joF opL g h k)) ∧ Ext w w' := by
  have HK := Lib.hid (fun w' (hw : Ext w w') => isKnown_c g k w' A c hk (by unfold maxLen; omega) (hA.ext hw))
  have HL := Lib.hid (fun w' (hw : Ext w w') => isKnown_c h k w' B d hk2 (by unfold maxLen; omega) (hB.ext hw))
  obtain ⟨hpz, hp⟩ := hp
  obtain ⟨hqz, hq⟩ := hq
  obtain ⟨g0, g1, g2, g3, g4, g5⟩ := hp.six
  obtain ⟨k0, k1, k2, k3, k4, k5⟩ := hq.six
  obtain ⟨b, off, rfl, hb0, hcell⟩ := hA.p1 hk
  have e6 := hcell _ (Ext.rfl' w)
  rw [← gi_lt] at e6
  obtain ⟨b', off', rfl, hb1, hcell'⟩ := hB.p1 hk2
  have e7 := hcell' _ (Ext.rfl' w)
  rw [← gi_lt] at e7
  unfold joF
  generalize gi g.L k = x at *
  generalize gi h.L k = y at *
  have hkz : (0 : Int) ≤ k := by omega
  cases hkn : knB g.L k
  · rw [hkn] at HK
    rw [if_pos rfl]
    clear hkn hp hq hcell hcell' hA hB
    go_enter Try.func126, Try.ntmps126
    go_wp2_with (first | (go_at_call 79; with_reducible refine Calls.mono (HK.out _ (by (repeat (first | with_reducible exact Ext.rfl' _ | with_reducible assumption | with_reducible refine Ext.al ?_ _ | with_reducible refine Ext.dr ?_ | with_reducible refine Ext.st ?_ (by simp) _ | with_reducible refine Ext.tr ?_ (by assumption))))) ?_; rintro e w1 ⟨rfl, hb⟩; have hc := hb.ccell; have hf := hb.frz; have hs := hb.sz; (try simp at hs); (try have t0 := hs (p) (by first | assumption | omega)); (try have t1 := hs (q) (by first | assumption | omega)); (try have t2 := hs (r) (by first | assumption | omega)); (try have t3 := hs (b) (by first | assumption | omega)); (try have t4 := hs (b') (by first | assumption | omega)); (try have t5 := hs (w.heap.size) (by first | assumption | omega))))
    go_ret
    exact ⟨rfl, by (repeat (first | with_reducible exact Ext.rfl' _ | with_reducible assumption | with_reducible refine Ext.al ?_ _ | with_reducible refine Ext.dr ?_ | with_reducible refine Ext.st ?_ (by simp) _ | with_reducible refine Ext.tr ?_ (by assumption)))⟩
  · rw [hkn] at HK
    rw [if_neg (by decide)]
    cases hkm : knB h.L k
    · rw [hkm] at HL
      rw [if_pos rfl]
      clear hkn hkm hp hq hcell hcell' hA hB
      go_enter Try.func126, Try.ntmps126
      go_wp2_with (first | (go_at_call 79; with_reducible refine Calls.mono (HK.out _ (by (repeat (first | with_reducible exact Ext.rfl' _ | with_reducible assumption | with_reducible refine Ext.al ?_ _ | with_reducible refine Ext.dr ?_ | with_reducible refine Ext.st ?_ (by simp) _ | with_reducible refine Ext.tr ?_ (by assumption))))) ?_; rintro e w1 ⟨rfl, hb⟩; have hc := hb.ccell; have hf := hb.frz; have hs := hb.sz; (try simp at hs); (try have t0 := hs (p) (by first | assumption | omega)); (try have t1 := hs (q) (by first | assumption | omega)); (try have t2 := hs (r) (by first | assumption | omega)); (try have t3 := hs (b) (by first | assumption | omega)); (try have t4 := hs (b') (by first | assumption | omega)); (try have t5 := hs (w.heap.size) (by first | assumption | omega))) | (go_at_call 79; with_reducible refine Calls.mono (HL.out _ (by (repeat (first | with_reducible exact Ext.rfl' _ | with_reducible assumption | with_reducible refine Ext.al ?_ _ | with_reducible refine Ext.dr ?_ | with_reducible refine Ext.st ?_ (by simp) _ | with_reducible refine Ext.tr ?_ (by assumption))))) ?_; rintro e w2 ⟨rfl, hb⟩; have hc := hb.ccell; have hf := hb.frz; have hs := hb.sz; (try simp at hs); (try have t0 := hs (p) (by first | assumption | omega)); (try have t1 := hs (q) (by first | assumption | omega)); (try have t2 := hs (r) (by first | assumption | omega)); (try have t3 := hs (b) (by first | assumption | omega)); (try have t4 := hs (b') (by first | assumption | omega)); (try have t5 := hs (w.heap.size) (by first | assumption | omega))))
      go_ret
      exact ⟨rfl, by (repeat (first | with_reducible exact Ext.rfl' _ | with_reducible assumption | with_reducible refine Ext.al ?_ _ | with_reducible refine Ext.dr ?_ | with_reducible refine Ext.st ?_ (by simp) _ | with_reducible refine Ext.tr ?_ (by assumption)))⟩
    · rw [hkm] at HL
      rw [if_neg (by decide)]
      have HO := Lib.hid (fun w' => opL_c x y w')
      clear hkn hkm
      go_enter Try.func126, Try.ntmps126
      go_upto_region 5 with (first | (go_at_call 79; with_reducible refine Calls.mono (HK.out _ (by (repeat (first | with_reducible exact Ext.rfl' _ | with_reducible assumption | with_reducible refine Ext.al ?_ _ | with_reducible refine Ext.dr ?_ | with_reducible refine Ext.st ?_ (by simp) _ | with_reducible refine Ext.tr ?_ (by assumption))))) ?_; rintro e w4 ⟨rfl, hb⟩; have hc := hb.ccell; have hf := hb.frz; have hs := hb.sz; (try simp at hs); (try have t0 := hs (p) (by first | assumption | omega)); (try have t1 := hs (q) (by first | assumption | omega)); (try have t2 := hs (r) (by first | assumption | omega)); (try have t3 := hs (b) (by first | assumption | omega)); (try have t4 := hs (b') (by first | assumption | omega)); (try have t5 := hs (w.heap.size) (by first | assumption | omega))) | (go_at_call 79; with_reducible refine Calls.mono (HL.out _ (by (repeat (first | with_reducible exact Ext.rfl' _ | with_reducible assumption | with_reducible refine Ext.al ?_ _ | with_reducible refine Ext.dr ?_ | with_reducible refine Ext.st ?_ (by simp) _ | with_reducible refine Ext.tr ?_ (by assumption))))) ?_; rintro e w2 ⟨rfl, hb⟩; have hc := hb.ccell; have hf := hb.frz; have hs := hb.sz; (try simp at hs); (try have t0 := hs (p) (by first | assumption | omega)); (try have t1 := hs (q) (by first | assumption | omega)); (try have t2 := hs (r) (by first | assumption | omega)); (try have t3 := hs (b) (by first | assumption | omega)); (try have t4 := hs (b') (by first | assumption | omega)); (try have t5 := hs (w.heap.size) (by first | assumption | omega))))
      have hE2 : Ext w w2 := by (repeat (first | with_reducible exact Ext.rfl' _ | with_reducible assumption | with_reducible refine Ext.al ?_ _ | with_reducible refine Ext.dr ?_ | with_reducible refine Ext.st ?_ (by simp) _ | with_reducible refine Ext.tr ?_ (by assumption)))
      clear hb hc hf hs t0 t1 t2 t3 t4
      obtain ⟨g0, g1, g2, g3, g4, g5⟩ := (hp.ext hE2 hpz).six
      obtain ⟨k0, k1, k2, k3, k4, k5⟩ := (hq.ext hE2 hqz).six
      have e6 := (hE2.ccell _ _ hb0).trans e6
      have e7 := (hE2.ccell _ _ hb1).trans e7
      have hr := (hE2.ccell _ _ hrz).trans hr
      have z0 := hE2.sz _ hpz
      have z1 := hE2.sz _ hqz
      have z2 := hE2.sz _ hrz
      have z3 := hE2.sz _ hb0
      have z4 := hE2.sz _ hb1
      clear hp hq hcell hcell' hA hB
      refine region_grow (by kernel_rfl) (by kernel_rfl) ?_
      repeat (first | go_big_quiet_step (first | (go_at_call 85; with_reducible exact callsGrow (HO.out _)) | fail) | quiet_step (first | (go_at_call 85; with_reducible exact callsGrow (HO.out _)) | fail))
      refine wpQuiet_nil ?_
      intro w1 hb
      have hc := hb.ccell
      have hf := hb.frz
      have hs := hb.sz
      (try simp at hs); (try have hs0 := hs w.heap.size (by omega)); (try have hs1 := hs (w.heap.size + 1) (by omega)); (try have hs2 := hs (w.heap.size + 1 + 1) (by omega)); (try have hs3 := hs (w.heap.size + 1 + 1 + 1) (by omega))
      (try simp only [IntWalk.i64_left])
      have hE3 := hE2.tr hb
      go_wp2
      go_ret
      exact ⟨rfl, hE3⟩
set_option maxHeartbeats 4000000 in
theorem join1S_c (g h : Gr) (k p q r : Nat) (w : World) (A B : Option Addr) (c d : Nat) (hk : k < g.L.length) (hk2 : k < h.L.length) (hl : g.L.length ≤ 1100) (hm : h.L.length ≤ 1100) (hA : Row 1 encZ w A g.L) (hB : Row 1 encZ w B h.L) (hp : BoxG w p g A c) (hq : BoxG w q h B d) (hr : w.cell? ⟨r, 0, none⟩ = some (.func (.func 86) #[] #[])) (hrz : r < w.heap.size) :
    Calls Try.prog 126 #[.int .i64 k, .pointer (some ⟨p, 0, none⟩), .pointer (some ⟨q, 0, none⟩), .pointer (some ⟨r, 0, none⟩)] w fun e w' => e = .returned (.int .i64 (joF opS g h k)) ∧ Ext w w' := by
  have HK := Lib.hid (fun w' (hw : Ext w w') => isKnown_c g k w' A c hk (by unfold maxLen; omega) (hA.ext hw))
  have HL := Lib.hid (fun w' (hw : Ext w w') => isKnown_c h k w' B d hk2 (by unfold maxLen; omega) (hB.ext hw))
  obtain ⟨hpz, hp⟩ := hp
  obtain ⟨hqz, hq⟩ := hq
  obtain ⟨g0, g1, g2, g3, g4, g5⟩ := hp.six
  obtain ⟨k0, k1, k2, k3, k4, k5⟩ := hq.six
  obtain ⟨b, off, rfl, hb0, hcell⟩ := hA.p1 hk
  have e6 := hcell _ (Ext.rfl' w)
  rw [← gi_lt] at e6
  obtain ⟨b', off', rfl, hb1, hcell'⟩ := hB.p1 hk2
  have e7 := hcell' _ (Ext.rfl' w)
  rw [← gi_lt] at e7
  unfold joF
  generalize gi g.L k = x at *
  generalize gi h.L k = y at *
  have hkz : (0 : Int) ≤ k := by omega
  cases hkn : knB g.L k
  · rw [hkn] at HK
    rw [if_pos rfl]
    clear hkn hp hq hcell hcell' hA hB
    go_enter Try.func126, Try.ntmps126
    go_wp2_with (first | (go_at_call 79; with_reducible refine Calls.mono (HK.out _ (by (repeat (first | with_reducible exact Ext.rfl' _ | with_reducible assumption | with_reducible refine Ext.al ?_ _ | with_reducible refine Ext.dr ?_ | with_reducible refine Ext.st ?_ (by simp) _ | with_reducible refine Ext.tr ?_ (by assumption))))) ?_; rintro e w1 ⟨rfl, hb⟩; have hc := hb.ccell; have hf := hb.frz; have hs := hb.sz; (try simp at hs); (try have t0 := hs (p) (by first | assumption | omega)); (try have t1 := hs (q) (by first | assumption | omega)); (try have t2 := hs (r) (by first | assumption | omega)); (try have t3 := hs (b) (by first | assumption | omega)); (try have t4 := hs (b') (by first | assumption | omega)); (try have t5 := hs (w.heap.size) (by first | assumption | omega))))
    go_ret
    exact ⟨rfl, by (repeat (first | with_reducible exact Ext.rfl' _ | with_reducible assumption | with_reducible refine Ext.al ?_ _ | with_reducible refine Ext.dr ?_ | with_reducible refine Ext.st ?_ (by simp) _ | with_reducible refine Ext.tr ?_ (by assumption)))⟩
  · rw [hkn] at HK
    rw [if_neg (by decide)]
    cases hkm : knB h.L k
    · rw [hkm] at HL
      rw [if_pos rfl]
      clear hkn hkm hp hq hcell hcell' hA hB
      go_enter Try.func126, Try.ntmps126
      go_wp2_with (first | (go_at_call 79; with_reducible refine Calls.mono (HK.out _ (by (repeat (first | with_reducible exact Ext.rfl' _ | with_reducible assumption | with_reducible refine Ext.al ?_ _ | with_reducible refine Ext.dr ?_ | with_reducible refine Ext.st ?_ (by simp) _ | with_reducible refine Ext.tr ?_ (by assumption))))) ?_; rintro e w1 ⟨rfl, hb⟩; have hc := hb.ccell; have hf := hb.frz; have hs := hb.sz; (try simp at hs); (try have t0 := hs (p) (by first | assumption | omega)); (try have t1 := hs (q) (by first | assumption | omega)); (try have t2 := hs (r) (by first | assumption | omega)); (try have t3 := hs (b) (by first | assumption | omega)); (try have t4 := hs (b') (by first | assumption | omega)); (try have t5 := hs (w.heap.size) (by first | assumption | omega))) | (go_at_call 79; with_reducible refine Calls.mono (HL.out _ (by (repeat (first | with_reducible exact Ext.rfl' _ | with_reducible assumption | with_reducible refine Ext.al ?_ _ | with_reducible refine Ext.dr ?_ | with_reducible refine Ext.st ?_ (by simp) _ | with_reducible refine Ext.tr ?_ (by assumption))))) ?_; rintro e w2 ⟨rfl, hb⟩; have hc := hb.ccell; have hf := hb.frz; have hs := hb.sz; (try simp at hs); (try have t0 := hs (p) (by first | assumption | omega)); (try have t1 := hs (q) (by first | assumption | omega)); (try have t2 := hs (r) (by first | assumption | omega)); (try have t3 := hs (b) (by first | assumption | omega)); (try have t4 := hs (b') (by first | assumption | omega)); (try have t5 := hs (w.heap.size) (by first | assumption | omega))))
      go_ret
      exact ⟨rfl, by (repeat (first | with_reducible exact Ext.rfl' _ | with_reducible assumption | with_reducible refine Ext.al ?_ _ | with_reducible refine Ext.dr ?_ | with_reducible refine Ext.st ?_ (by simp) _ | with_reducible refine Ext.tr ?_ (by assumption)))⟩
    · rw [hkm] at HL
      rw [if_neg (by decide)]
      have HO := Lib.hid (fun w' => opS_c x y w')
      clear hkn hkm
      go_enter Try.func126, Try.ntmps126
      go_upto_region 5 with (first | (go_at_call 79; with_reducible refine Calls.mono (HK.out _ (by (repeat (first | with_reducible exact Ext.rfl' _ | with_reducible assumption | with_reducible refine Ext.al ?_ _ | with_reducible refine Ext.dr ?_ | with_reducible refine Ext.st ?_ (by simp) _ | with_reducible refine Ext.tr ?_ (by assumption))))) ?_; rintro e w4 ⟨rfl, hb⟩; have hc := hb.ccell; have hf := hb.frz; have hs := hb.sz; (try simp at hs); (try have t0 := hs (p) (by first | assumption | omega)); (try have t1 := hs (q) (by first | assumption | omega)); (try have t2 := hs (r) (by first | assumption | omega)); (try have t3 := hs (b) (by first | assumption | omega)); (try have t4 := hs (b') (by first | assumption | omega)); (try have t5 := hs (w.heap.size) (by first | assumption | omega))) | (go_at_call 79; with_reducible refine Calls.mono (HL.out _ (by (repeat (first | with_reducible exact Ext.rfl' _ | with_reducible assumption | with_reducible refine Ext.al ?_ _ | with_reducible refine Ext.dr ?_ | with_reducible refine Ext.st ?_ (by simp) _ | with_reducible refine Ext.tr ?_ (by assumption))))) ?_; rintro e w2 ⟨rfl, hb⟩; have hc := hb.ccell; have hf := hb.frz; have hs := hb.sz; (try simp at hs); (try have t0 := hs (p) (by first | assumption | omega)); (try have t1 := hs (q) (by first | assumption | omega)); (try have t2 := hs (r) (by first | assumption | omega)); (try have t3 := hs (b) (by first | assumption | omega)); (try have t4 := hs (b') (by first | assumption | omega)); (try have t5 := hs (w.heap.size) (by first | assumption | omega))))
      have hE2 : Ext w w2 := by (repeat (first | with_reducible exact Ext.rfl' _ | with_reducible assumption | with_reducible refine Ext.al ?_ _ | with_reducible refine Ext.dr ?_ | with_reducible refine Ext.st ?_ (by simp) _ | with_reducible refine Ext.tr ?_ (by assumption)))
      clear hb hc hf hs t0 t1 t2 t3 t4
      obtain ⟨g0, g1, g2, g3, g4, g5⟩ := (hp.ext hE2 hpz).six
      obtain ⟨k0, k1, k2, k3, k4, k5⟩ := (hq.ext hE2 hqz).six
      have e6 := (hE2.ccell _ _ hb0).trans e6
      have e7 := (hE2.ccell _ _ hb1).trans e7
      have hr := (hE2.ccell _ _ hrz).trans hr
      have z0 := hE2.sz _ hpz
      have z1 := hE2.sz _ hqz
      have z2 := hE2.sz _ hrz
      have z3 := hE2.sz _ hb0
      have z4 := hE2.sz _ hb1
      clear hp hq hcell hcell' hA hB
      refine region_grow (by kernel_rfl) (by kernel_rfl) ?_
      repeat (first | go_big_quiet_step (first | (go_at_call 86; with_reducible exact callsGrow (HO.out _)) | fail) | quiet_step (first | (go_at_call 86; with_reducible exact callsGrow (HO.out _)) | fail))
      refine wpQuiet_nil ?_
      intro w1 hb
      have hc := hb.ccell
      have hf := hb.frz
      have hs := hb.sz
      (try simp at hs); (try have hs0 := hs w.heap.size (by omega)); (try have hs1 := hs (w.heap.size + 1) (by omega)); (try have hs2 := hs (w.heap.size + 1 + 1) (by omega)); (try have hs3 := hs (w.heap.size + 1 + 1 + 1) (by omega))
      (try simp only [IntWalk.i64_left])
      have hE3 := hE2.tr hb
      go_wp2
      go_ret
      exact ⟨rfl, hE3⟩
end Go.Proofs.Ytgnakeemcccfjaa

/- The contract of the reference's Span. -/
import Derived.Test.YtblmljcgjibfgaaTspan
namespace Go.Proofs.Ytblmljcgjibfgaa
open Go Go.RowKit Go.IntWalk

theorem SpW.grow {w wr w' : World} {bo : Nat} {f t lo hi : Int} (h : SpW w wr bo f t lo hi) (hX : Ext wr w') : SpW w w' bo f t lo hi := by
  have zr := h.zres
  have zo := h.zout
  exact ⟨h.ext.tr hX, ⟨(hX.ccell w.heap.size 0 (by omega)).trans h.par.1, (hX.ccell w.heap.size 1 (by omega)).trans h.par.2⟩, ⟨(hX.ccell _ 0 zr).trans h.res.1, (hX.ccell _ 1 zr).trans h.res.2⟩, ⟨(hX.ccell _ 0 zo).trans h.out.1, (hX.ccell _ 1 zo).trans h.out.2⟩, fun o => (hX.frz _ o zr).trans (h.fres o), fun o => (hX.frz _ o zo).trans (h.fout o), hX.sz _ zr, hX.sz _ zo⟩
theorem SpW.set {w wr : World} {bo : Nat} {f t lo hi : Int} (h : SpW w wr bo f t lo hi) (hb : w.heap.size + 1 < bo) (lo' hi' : Int) : SpW w (st2 wr bo lo' hi') bo f t lo' hi' := by
  obtain ⟨hE, ⟨p0, p1⟩, ⟨q0, q1⟩, ⟨o0, o1⟩, fq, fo, zq, zo⟩ := h
  have n4 : w.heap.size ≠ bo := by omega
  have n5 : w.heap.size + 1 ≠ bo := by omega
  unfold st2
  refine ⟨Ext.st (Ext.st hE (by show w.heap.size ≤ bo; omega) _) (by show w.heap.size ≤ bo; omega) _, ⟨?_, ?_⟩, ⟨?_, ?_⟩, ⟨?_, ?_⟩, fun o => ?_, fun o => ?_, ?_, ?_⟩
  all_goals first | (simp [go_sem, *]; done) | (simp; omega)
set_option maxHeartbeats 4000000 in
theorem rspan_c (gs : List Ga) (x f : Int) (d : Nat) (V : Int → Int × Int × Bool) (w : World) (A : Option Addr) (c : Nat) (hA : Row 4 encG w A gs) (hM : Marks w gs) (h0 : viewE gs x f (f + d) = 0) (hV : ∀ m, IsLV gs x m (V m)) :
    Calls Try.prog 30 #[.slice A gs.length c, .int .i64 x, .agg #[.int .i64 f, .int .i64 (f + d)]] w
      fun e w' => e = .returned (.tuple #[.agg #[.int .i64 (spanV V f d).1, .int .i64 (spanV V f d).2.1], .bool (spanV V f d).2.2]) ∧ Ext w w' := by
  obtain ⟨hG, hx, f0, f1, f2⟩ := view_parts h0
  have HPL := Lib.hid (fun m (hm : 0 ≤ m ∧ m ≤ 1000000) w' (hw : Ext w w') => rplace_v (hV m) w' A c hG hx hm (hA.ext hw) (hM.ext hw))
  have HNO := Lib.hid (fun m => (hV m).no)
  obtain ⟨⟨R0, R1, R2⟩, hR⟩ : ∃ R, spanV V f d = R := ⟨_, rfl⟩
  rw [hR]
  have HR := Lib.hid hR
  dsimp only
  clear h0 hV hG hR
  go_enter Try.func30, Try.ntmps30
  go_wp2
  have Hp : SpW w (((w.alloc (.cells #[.int .i64 f, .int .i64 (f + d)] 49)).alloc (.cells #[.int .i64 0, .int .i64 0] 28)).alloc (.cells #[.int .i64 0, .int .i64 0] 28)) (w.heap.size + 1 + 1) f (f + d) 0 0 := by
    refine ⟨by (repeat (first | with_reducible exact Ext.rfl' _ | with_reducible assumption | with_reducible refine Ext.al ?_ _ | with_reducible refine Ext.dr ?_ | with_reducible refine Ext.st ?_ (by simp) _ | with_reducible refine Ext.tr ?_ (by assumption))), ⟨?_, ?_⟩, ⟨?_, ?_⟩, ⟨?_, ?_⟩, fun o => ?_, fun o => ?_, ?_, ?_⟩
    all_goals first | (simp [World.cell?_alloc_past, World.cell?_alloc_new, go_sem]; done) | (simp [go_sem]; done) | (simp; done) | (simp; omega)
  generalize (((w.alloc (.cells #[.int .i64 f, .int .i64 (f + d)] 49)).alloc (.cells #[.int .i64 0, .int .i64 0] 28)).alloc (.cells #[.int .i64 0, .int .i64 0] 28)) = wp at *
  have hbo : w.heap.size + 1 < w.heap.size + 1 + 1 := by omega
  obtain ⟨bo, hbo2⟩ : ∃ bo, w.heap.size + 1 + 1 = bo := ⟨_, rfl⟩
  rw [hbo2] at Hp hbo ⊢
  clear hbo2
  go_loopw [9, 10, 11] (fun m _ _ wr => ∃ j : Nat, j ≤ d + 1 ∧ m = .int .i64 (f + (j : Int)) ∧ Hid (anyN (unk V f) j = false) ∧ ∃ a b, SpW w wr bo f (f + d) a b ∧ (j = 0 ∨ (a = spLo V f (j - 1) ∧ b = spHi V f (j - 1)))) (fun m _ _ _ => d + 2 - (intOf m - f).toNat)
  case atStart => exact ⟨0, Nat.zero_le _, by simp, rfl, 0, 0, Hp, .inl rfl⟩
  case round =>
    clear Hp
    obtain ⟨j, hj, rfl, hN, lo, hi, hW, hacc⟩ := hrel
    obtain ⟨hE, ⟨p0, p1⟩, ⟨q0, q1⟩, ⟨o0, o1⟩, fq, fo, zq, zo⟩ := hW
    have HWR := Lib.hid (show SpW w wr bo f (f + d) lo hi from ⟨hE, ⟨p0, p1⟩, ⟨q0, q1⟩, ⟨o0, o1⟩, fq, fo, zq, zo⟩)
    have zp : w.heap.size < wr.heap.size := by omega
    by_cases hlt : j ≤ d
    · have hle : f + (j : Int) ≤ f + (d : Int) := by omega
      have HP2 := Lib.hid (fun w' (hw : Ext w w') => HPL.out (f + (j : Int)) (by omega) w' hw)
      cases hk : (V (f + (j : Int))).2.2
      · have hno := HNO.out _ hk
        rw [hno] at HP2
        have hu : anyN (unk V f) (d + 1) = true := anyN_at (unk V f) (show j < d + 1 by omega) (by unfold unk; rw [hk]; rfl)
        have hs0 : spanV V f d = (0, 0, false) := by unfold spanV; rw [if_pos hu]
        have hs1 := HR.out.symm.trans hs0
        injection hs1 with e1 e2
        injection e2 with e2 e3
        subst e1 e2 e3
        have HAC := Lib.hid hacc
        clear hno hk hu hs0 hacc
        go_wp2_with (first | (go_at_call 26; with_reducible refine Calls.mono (HP2.out _ (by (repeat (first | with_reducible exact Ext.rfl' _ | with_reducible assumption | with_reducible refine Ext.al ?_ _ | with_reducible refine Ext.dr ?_ | with_reducible refine Ext.st ?_ (by simp) _ | with_reducible refine Ext.tr ?_ (by assumption))))) ?_; rintro e w3 ⟨rfl, hb⟩; have hc := hb.ccell; have hf := hb.frz; have hs := hb.sz; (try simp at hs); (try have t0 := hs (w.heap.size) (by first | assumption | omega)); (try have t1 := hs (w.heap.size + 1) (by first | assumption | omega)); (try have t2 := hs (bo) (by first | assumption | omega)); (try have t3 := hs (wr.heap.size) (by first | assumption | omega)); (try have t4 := hs (wr.heap.size) (by first | assumption | omega)); (try have t5 := hs (wr.heap.size) (by first | assumption | omega))))
        have hE3 : Ext w w3 := hE.tr hb
        have kz := (HWR.out.grow hb).res
        have hS2 := Two.alloc (Two.store (w := w3) (b := w.heap.size + 1) kz (0) (0)) (by rw [st2_size]; exact t1) (.cells #[.int .i64 0, .int .i64 0] 28)
        have hX2 := Ext.al (Ext.store2 (b := w.heap.size + 1) hE3 (by omega) (0) (0)) (.cells #[.int .i64 0, .int .i64 0] 28)
        show bodyPost _ _ _ _ _ ((st2 w3 (w.heap.size + 1) (0) (0)).alloc (.cells #[.int .i64 0, .int .i64 0] 28))
        generalize (st2 w3 (w.heap.size + 1) (0) (0)).alloc (.cells #[.int .i64 0, .int .i64 0] 28) = W6 at hS2 hX2 ⊢
        obtain ⟨s0, s1⟩ := hS2
        refine bodyPost_ret (v := .tuple #[.agg #[.int .i64 0, .int .i64 0], .bool false]) (by simp [results, Try.results30, go_sem, s0, s1]) rfl ⟨rfl, hX2⟩
      · have HU := Lib.hid (show unk V f j = false by unfold unk; rw [hk]; rfl)
        have hm := fold_next V f j
        rw [hk] at HP2
        clear hk
        obtain ⟨r0, hr0⟩ : ∃ r, (V (f + (j : Int))).1 = r := ⟨_, rfl⟩
        obtain ⟨r1, hr1⟩ : ∃ r, (V (f + (j : Int))).2.1 = r := ⟨_, rfl⟩
        rw [hr0, hr1] at HP2
        rw [hr0, hr1] at hm
        by_cases hj0 : j = 0
        · subst hj0
          have hz1 : spLo V f 0 = r0 ∧ spHi V f 0 = r1 := by
            constructor
            · rw [← hr0]; simp [spLo]
            · rw [← hr1]; simp [spHi]
          have HM := Lib.hid hz1
          clear hr0 hr1 hm hz1 hacc
          have e0 : f + ((0 : Nat) : Int) = f := by simp
          rw [e0] at HP2 hle
          rw [e0]
          have hej : (f == f) = true := by rw [beq_iff_eq]
          clear e0
          go_wp2_with (first | (go_at_call 26; with_reducible refine Calls.mono (HP2.out _ (by (repeat (first | with_reducible exact Ext.rfl' _ | with_reducible assumption | with_reducible refine Ext.al ?_ _ | with_reducible refine Ext.dr ?_ | with_reducible refine Ext.st ?_ (by simp) _ | with_reducible refine Ext.tr ?_ (by assumption))))) ?_; rintro e w3 ⟨rfl, hb⟩; have hc := hb.ccell; have hf := hb.frz; have hs := hb.sz; (try simp at hs); (try have t0 := hs (w.heap.size) (by first | assumption | omega)); (try have t1 := hs (w.heap.size + 1) (by first | assumption | omega)); (try have t2 := hs (bo) (by first | assumption | omega)); (try have t3 := hs (wr.heap.size) (by first | assumption | omega)); (try have t4 := hs (wr.heap.size) (by first | assumption | omega)); (try have t5 := hs (wr.heap.size) (by first | assumption | omega))))
          refine ⟨⟨1, by omega, by go_num, (by show anyN _ (0 + 1) = false; rw [anyN, hN.out, HU.out]; rfl), spLo V f 0, spHi V f 0, ?_, .inr ⟨rfl, rfl⟩⟩, by simp [intOf]; omega⟩
          rw [HM.out.1, HM.out.2]
          exact (((HWR.out.grow hb).set hbo _ _).set hbo _ _).grow (Ext.al (Ext.rfl' _) _)
        · have hac : lo = spLo V f (j - 1) ∧ hi = spHi V f (j - 1) := by rcases hacc with h | h; exact absurd h hj0; exact h
          rw [← hac.1, ← hac.2] at hm
          have HM := Lib.hid hm
          clear hr0 hr1 hm hacc hac
          have hej : (f + (j : Int) == f) = false := by rw [beq_eq_false_iff_ne]; omega
          have HJ0 := Lib.hid hj0
          clear hj0
          go_wp2_with (first | (go_at_call 26; with_reducible refine Calls.mono (HP2.out _ (by (repeat (first | with_reducible exact Ext.rfl' _ | with_reducible assumption | with_reducible refine Ext.al ?_ _ | with_reducible refine Ext.dr ?_ | with_reducible refine Ext.st ?_ (by simp) _ | with_reducible refine Ext.tr ?_ (by assumption))))) ?_; rintro e w3 ⟨rfl, hb⟩; have hc := hb.ccell; have hf := hb.frz; have hs := hb.sz; (try simp at hs); (try have t0 := hs (w.heap.size) (by first | assumption | omega)); (try have t1 := hs (w.heap.size + 1) (by first | assumption | omega)); (try have t2 := hs (bo) (by first | assumption | omega)); (try have t3 := hs (wr.heap.size) (by first | assumption | omega)); (try have t4 := hs (wr.heap.size) (by first | assumption | omega)); (try have t5 := hs (wr.heap.size) (by first | assumption | omega))))
          refine ⟨⟨j + 1, by omega, by go_num, (by show anyN _ (j + 1) = false; rw [anyN, hN.out, HU.out]; rfl), spLo V f j, spHi V f j, ?_, .inr ⟨by rw [Nat.add_sub_cancel], by rw [Nat.add_sub_cancel]⟩⟩, by simp [intOf]; omega⟩
          rw [HM.out.1, HM.out.2, ite_min, ite_max]
          exact ((HWR.out.grow hb).set hbo _ _).grow (Ext.al (Ext.rfl' _) _)
    · have hjd : j = d + 1 := by omega
      subst hjd
      have hle : ¬ f + ((d + 1 : Nat) : Int) ≤ f + (d : Int) := by omega
      have hs0 : spanV V f d = (spLo V f d, spHi V f d, true) := by unfold spanV; rw [if_neg (by rw [hN.out]; decide)]
      have hac : lo = spLo V f d ∧ hi = spHi V f d := by
        rcases hacc with h | h
        · omega
        · rw [Nat.add_sub_cancel] at h; exact h
      obtain ⟨rfl, rfl⟩ := hac
      have hs1 := HR.out.symm.trans hs0
      injection hs1 with e1 e2
      injection e2 with e2 e3
      subst e1 e2 e3
      clear hs0 hlt hacc
      go_wp2
      have kz := HWR.out.res
      have hS2 := Two.store (w := wr) (b := w.heap.size + 1) kz (spLo V f d) (spHi V f d)
      have hX2 := Ext.store2 (b := w.heap.size + 1) hE (by omega) (spLo V f d) (spHi V f d)
      show bodyPost _ _ _ _ _ (st2 wr (w.heap.size + 1) (spLo V f d) (spHi V f d))
      generalize st2 wr (w.heap.size + 1) (spLo V f d) (spHi V f d) = W6 at hS2 hX2 ⊢
      obtain ⟨s0, s1⟩ := hS2
      refine bodyPost_ret (v := .tuple #[.agg #[.int .i64 (spLo V f d), .int .i64 (spHi V f d)], .bool true]) (by simp [results, Try.results30, go_sem, s0, s1]) rfl ⟨rfl, hX2⟩
end Go.Proofs.Ytblmljcgjibfgaa

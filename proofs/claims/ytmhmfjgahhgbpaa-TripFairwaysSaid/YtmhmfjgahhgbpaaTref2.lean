/- The contract of the reference's At. -/
import Derived.Test.YtmhmfjgahhgbpaaTref
import Derived.StillTailTactics
namespace Go.Proofs.Ytmhmfjgahhgbpaa
open Go Go.RowKit Go.IntWalk

theorem r_eq {l : List Pt} {t : Int} {i : Nat} (h : mOk l t i = true) : rN l t i = mN l t i ∧ rD l t i = mD l t i := by
  unfold rN rD; rw [h]; exact ⟨rfl, rfl⟩
set_option maxHeartbeats 4000000 in
set_option maxRecDepth 100000 in
theorem rat_c (s : ByteArray) (x er : Int) (l : List Pt) (t : Int) (i : Nat) (w : World) (A : Option Addr) (c : Nat) (hG : Good l) (he : 0 ≤ er ∧ er ≤ 1000) (ht : 0 ≤ t ∧ t ≤ 1000000) (hA : Row 2 encP w A l) (hp : PosAt l t i) :
    Calls Try.prog 45 #[.agg #[.string s, .int .i64 x, .int .i64 er, .slice A l.length c], .int .i64 t] w
      fun e w' => e = .returned (.tuple #[.agg #[.int .i64 (gLo er l t i), .int .i64 (gHi er l t i)], .bool (mOk l t i)]) ∧ Ext w w' := by
  have HM := Lib.hid (fun w' (hw : Ext w w') => rmean_c s x er l t i w' A c hG ht (hA.ext hw) hp)
  obtain ⟨m1, m2⟩ := m_bound hG ht hp
  obtain ⟨⟨b1, b2⟩, b3, b4⟩ := lohi_bound hG ht hp
  obtain ⟨e0, e1⟩ := he
  cases ho : mOk l t i
  · have g1 : gLo er l t i = 0 := by unfold gLo; rw [ho]; rfl
    have g2 : gHi er l t i = 0 := by unfold gHi; rw [ho]; rfl
    rw [g1, g2]
    rw [ho] at HM
    generalize rN l t i = n at *
    generalize rD l t i = d at *
    clear ho hp hG g1 g2 m1 m2 b1 b2 b3 b4
    go_enter Try.func45, Try.ntmps45
    go_wp2_with (first | (go_at_call 64; with_reducible refine Calls.mono (HM.out _ (by (repeat (first | with_reducible exact Ext.rfl' _ | with_reducible assumption | with_reducible refine Ext.al ?_ _ | with_reducible refine Ext.dr ?_ | with_reducible refine Ext.st ?_ (by simp) _ | with_reducible refine Ext.tr ?_ (by assumption))))) ?_; rintro e w1 ⟨rfl, hb⟩; have hc := hb.ccell; have hf := hb.frz; have hs := hb.sz; (try simp at hs); (try have hs0 := hs w.heap.size (by omega)); (try have hs1 := hs (w.heap.size + 1) (by omega)); (try have hs2 := hs (w.heap.size + 1 + 1) (by omega)); (try have hs3 := hs (w.heap.size + 1 + 1 + 1) (by omega))))
    have hE : Ext w w1 := by (repeat (first | with_reducible exact Ext.rfl' _ | with_reducible assumption | with_reducible refine Ext.al ?_ _ | with_reducible refine Ext.dr ?_ | with_reducible refine Ext.st ?_ (by simp) _ | with_reducible refine Ext.tr ?_ (by assumption)))
    have kz : Two w1 (w.heap.size + 1) 0 0 := by refine ⟨?_, ?_⟩ <;> simp [*, go_sem]
    have hS2 := Two.store (w := w1) (b := w.heap.size + 1) kz (0) (0)
    have hX2 := Ext.store2 (b := w.heap.size + 1) hE (by omega) (0) (0)
    show bodyPost _ _ _ _ _ (st2 w1 (w.heap.size + 1) (0) (0))
    generalize st2 w1 (w.heap.size + 1) (0) (0) = W6 at hS2 hX2 ⊢
    obtain ⟨s0, s1⟩ := hS2
    refine bodyPost_ret (v := .tuple #[.agg #[.int .i64 0, .int .i64 0], .bool false]) (by simp [results, Try.results45, go_sem, s0, s1]) rfl ⟨rfl, hX2⟩
  · obtain ⟨r1, r2⟩ := r_eq ho
    obtain ⟨d0, d1⟩ := m2 ho
    have q1 : mLo l t i = mN l t i / mD l t i := by unfold mLo; rw [ho]; rfl
    have q2 : mHi l t i = -((-mN l t i) / mD l t i) := by unfold mHi; rw [ho]; rfl
    have g1 : gLo er l t i = mLo l t i - er := by unfold gLo; rw [ho]; rfl
    have g2 : gHi er l t i = mHi l t i + er := by unfold gHi; rw [ho]; rfl
    rw [g1, g2]
    rw [ho, r1, r2] at HM
    have HDN := Lib.hid (fun w => down_c (mN l t i) (mD l t i) w d0 (by omega) (by rw [← q1]; omega) (by rw [← q1]; omega))
    have HUP := Lib.hid (fun w => up_c (mN l t i) (mD l t i) w d0 (by omega) (by omega) (by omega) (by omega) (by omega))
    rw [← q1] at HDN
    rw [← q2] at HUP
    generalize mLo l t i = lo at *
    generalize mHi l t i = hi at *
    generalize mN l t i = n at *
    generalize mD l t i = d at *
    clear ho hp hG g1 g2 m1 m2 q1 q2 r1 r2 d0 d1
    go_enter Try.func45, Try.ntmps45
    go_upto_region 4 with (first | (go_at_call 64; with_reducible refine Calls.mono (HM.out _ (by (repeat (first | with_reducible exact Ext.rfl' _ | with_reducible assumption | with_reducible refine Ext.al ?_ _ | with_reducible refine Ext.dr ?_ | with_reducible refine Ext.st ?_ (by simp) _ | with_reducible refine Ext.tr ?_ (by assumption))))) ?_; rintro e w1 ⟨rfl, hb⟩; have hc := hb.ccell; have hf := hb.frz; have hs := hb.sz; (try simp at hs); (try have hs0 := hs w.heap.size (by omega)); (try have hs1 := hs (w.heap.size + 1) (by omega)); (try have hs2 := hs (w.heap.size + 1 + 1) (by omega)); (try have hs3 := hs (w.heap.size + 1 + 1 + 1) (by omega))))
    have hE : Ext w w1 := by (repeat (first | with_reducible exact Ext.rfl' _ | with_reducible assumption | with_reducible refine Ext.al ?_ _ | with_reducible refine Ext.dr ?_ | with_reducible refine Ext.st ?_ (by simp) _ | with_reducible refine Ext.tr ?_ (by assumption)))
    have kz : Two w1 (w.heap.size + 1) 0 0 := by refine ⟨?_, ?_⟩ <;> simp [*, go_sem]
    have fz : ∀ o, w1.frozen? ⟨w.heap.size + 1, o, none⟩ = false := by intro o; simp [*, go_sem]
    have ke : w1.cell? ⟨w.heap.size, 2, none⟩ = some (.int .i64 er) := by simp [*, go_sem]
    have hE2 := Ext.dr hE
    have kz2 := kz.drew
    have fz2 : ∀ o, w1.drew.frozen? ⟨w.heap.size + 1, o, none⟩ = false := fz
    have HD2 := Lib.hid (fun w => (HDN.out w).mono (fun _ _ ⟨h1, h2⟩ => And.intro h1 h2.symm))
    have HU2 := Lib.hid (fun w => (HUP.out w).mono (fun _ _ ⟨h1, h2⟩ => And.intro h1 h2.symm))
    clear hb hc hf hs HM hE kz fz HDN HUP
    refine wp_region_still_tail 13 (by kernel_rfl) (by kernel_rfl) ?_
    simp only [List.take_succ_cons, List.take_zero, List.drop_succ_cons, List.drop_zero]
    still_step
    still_step
    still_call (HD2.out _)
    still_step
    still_step
    still_step
    still_step
    still_step
    still_call (HU2.out _)
    still_step
    still_step
    still_step
    still_step
    refine wpStill_nil ?_
    change wpList _ _ _ _ _ w1.drew
    generalize w1.drew = w2 at hE2 kz2 fz2 ⊢
    have KZ := Lib.hid kz2
    obtain ⟨y0, y1⟩ := kz2
    go_wp2
    have hS2 := Two.store (w := w2) (b := w.heap.size + 1) KZ.out (lo - er) (hi + er)
    have hX2 := Ext.store2 (b := w.heap.size + 1) hE2 (by omega) (lo - er) (hi + er)
    show bodyPost _ _ _ _ _ (st2 w2 (w.heap.size + 1) (lo - er) (hi + er))
    generalize st2 w2 (w.heap.size + 1) (lo - er) (hi + er) = W6 at hS2 hX2 ⊢
    obtain ⟨s0, s1⟩ := hS2
    refine bodyPost_ret (v := .tuple #[.agg #[.int .i64 (lo - er), .int .i64 (hi + er)], .bool true]) (by simp [results, Try.results45, go_sem, s0, s1]) rfl ⟨rfl, hX2⟩
end Go.Proofs.Ytmhmfjgahhgbpaa

/- Contracts of gaugeLevel and At. -/
import Derived.Test.YtmhmfjgahhgbpaaTline
namespace Go.Proofs.Ytmhmfjgahhgbpaa
open Go Go.RowKit Go.IntWalk

theorem m_bound {l : List Pt} {t : Int} {i : Nat} (hG : Good l) (ht : 0 ≤ t ∧ t ≤ 1000000) (hp : PosAt l t i) :
    (-100000000000 ≤ mN l t i ∧ mN l t i ≤ 100000000000) ∧ (mOk l t i = true → 0 < mD l t i ∧ mD l t i ≤ 1000000) := by
  unfold mN mD mOk
  cases hf : foundB l t i
  · by_cases hi : 0 < i ∧ i < l.length
    · obtain ⟨j, hj⟩ : ∃ j, i = j + 1 := ⟨i - 1, by omega⟩
      subst hj
      have oi := (okM_iff _).1 (hG.ok (j + 1) hi.2)
      have oj := (okM_iff _).1 (hG.ok j (by omega))
      have hasc := hG.asc j hi.2
      have b1 := mul_bound (x := (gt l j).y) (y := (gt l (j + 1)).x - t) (M := 20000) (N := 1000000) (by omega) (by omega) (by omega) (by omega)
      have b2 := mul_bound (x := (gt l (j + 1)).y) (y := t - (gt l j).x) (M := 20000) (N := 1000000) (by omega) (by omega) (by omega) (by omega)
      simp only [Bool.false_eq_true, if_false, Nat.add_sub_cancel]
      unfold sumZ
      exact ⟨by omega, fun _ => by omega⟩
    · have ho : (decide (0 < i) && decide (i < l.length)) = false := by
        rw [Bool.and_eq_false_iff, decide_eq_false_iff_not, decide_eq_false_iff_not]; omega
      simp only [Bool.false_eq_true, if_false, ho, Bool.or_false]
      refine ⟨?_, fun h => by cases h⟩
      have key : ∀ k, (0 ≤ (gt l k).x ∧ (gt l k).x ≤ 1000000) ∧ (-20000 ≤ (gt l k).y ∧ (gt l k).y ≤ 20000) := by
        intro k
        by_cases hk : k < l.length
        · exact (okM_iff _).1 (hG.ok k hk)
        · have : gt l k = ⟨0, 0⟩ := by unfold gt; rw [List.getD_eq_getElem?_getD, List.getElem?_eq_none (by omega)]; rfl
          rw [this]; simp
      have k1 := key i
      have k2 := key (i - 1)
      have b1 := mul_bound (x := (gt l (i - 1)).y) (y := (gt l i).x - t) (M := 20000) (N := 1000000) (by omega) (by omega) (by omega) (by omega)
      have b2 := mul_bound (x := (gt l i).y) (y := t - (gt l (i - 1)).x) (M := 20000) (N := 1000000) (by omega) (by omega) (by omega) (by omega)
      unfold sumZ
      omega
  · have hil : i < l.length := by
      unfold foundB at hf
      rw [Bool.and_eq_true] at hf
      exact of_decide_eq_true hf.1
    have oi := (okM_iff _).1 (hG.ok i hil)
    simp only [if_true]
    exact ⟨by omega, fun _ => by omega⟩
theorem lohi_bound {l : List Pt} {t : Int} {i : Nat} (hG : Good l) (ht : 0 ≤ t ∧ t ≤ 1000000) (hp : PosAt l t i) :
    (-100000000000 ≤ mLo l t i ∧ mLo l t i ≤ 100000000000) ∧ (-100000000000 ≤ mHi l t i ∧ mHi l t i ≤ 100000000000) := by
  obtain ⟨h1, h2⟩ := m_bound hG ht hp
  unfold mLo mHi
  cases ho : mOk l t i
  · simp
  · obtain ⟨d0, d1⟩ := h2 ho
    have q1 := quot_bd (n := mN l t i) (M := 100000000000) d0 (by omega) (by omega)
    have q2 := quot_bd (n := -mN l t i) (M := 100000000000) d0 (by omega) (by omega)
    simp only [if_true]
    omega
def gLo (er : Int) (l : List Pt) (t : Int) (i : Nat) : Int := if mOk l t i then mLo l t i - er else 0
def gHi (er : Int) (l : List Pt) (t : Int) (i : Nat) : Int := if mOk l t i then mHi l t i + er else 0

set_option maxHeartbeats 2000000 in
theorem gaugeLevel_c (s : ByteArray) (x er : Int) (l : List Pt) (t : Int) (i : Nat) (w : World) (A : Option Addr) (c : Nat) (hG : Good l) (he : 0 ≤ er ∧ er ≤ 1000) (ht : 0 ≤ t ∧ t ≤ 1000000) (hA : Row 2 encP w A l) (hp : PosAt l t i) :
    Calls Try.prog 75 #[.agg #[.string s, .int .i64 x, .int .i64 er, .slice A l.length c], .int .i64 t] w
      fun e w' => e = .returned (.tuple #[.agg #[.int .i64 (gLo er l t i), .int .i64 (gHi er l t i)], .bool (mOk l t i)]) ∧ Ext w w' := by
  have HM := Lib.hid (fun w' (hw : Ext w w') => meanLevel_c l t i w' A c hG ht (hA.ext hw) hp)
  obtain ⟨⟨b1, b2⟩, b3, b4⟩ := lohi_bound hG ht hp
  obtain ⟨e0, e1⟩ := he
  cases ho : mOk l t i
  · have g1 : gLo er l t i = 0 := by unfold gLo; rw [ho]; rfl
    have g2 : gHi er l t i = 0 := by unfold gHi; rw [ho]; rfl
    rw [g1, g2]
    rw [ho] at HM
    generalize mLo l t i = lo at *
    generalize mHi l t i = hi at *
    clear ho hp hG g1 g2
    go_enter Try.func75, Try.ntmps75
    go_wp2_with (first | (go_at_call 87; with_reducible refine Calls.mono (HM.out _ (by (repeat (first | with_reducible exact Ext.rfl' _ | with_reducible assumption | with_reducible refine Ext.al ?_ _ | with_reducible refine Ext.dr ?_ | with_reducible refine Ext.st ?_ (by simp) _ | with_reducible refine Ext.tr ?_ (by assumption))))) ?_; rintro e w1 ⟨rfl, hb⟩; have hc := hb.ccell; have hf := hb.frz; have hs := hb.sz; (try simp at hs); (try have hs0 := hs w.heap.size (by omega)); (try have hs1 := hs (w.heap.size + 1) (by omega)); (try have hs2 := hs (w.heap.size + 1 + 1) (by omega)); (try have hs3 := hs (w.heap.size + 1 + 1 + 1) (by omega))))
    have hE : Ext w w1 := by (repeat (first | with_reducible exact Ext.rfl' _ | with_reducible assumption | with_reducible refine Ext.al ?_ _ | with_reducible refine Ext.dr ?_ | with_reducible refine Ext.st ?_ (by simp) _ | with_reducible refine Ext.tr ?_ (by assumption)))
    have kz : Two w1 (w.heap.size + 1) 0 0 := by refine ⟨?_, ?_⟩ <;> simp [*, go_sem]
    have hS2 := Two.alloc (Two.store (w := w1) (b := w.heap.size + 1) kz (0) (0)) (by rw [st2_size]; exact hs1) (.cells #[.int .i64 lo, .int .i64 hi] 48)
    have hX2 := Ext.al (Ext.store2 (b := w.heap.size + 1) hE (by omega) (0) (0)) (.cells #[.int .i64 lo, .int .i64 hi] 48)
    show bodyPost _ _ _ _ _ ((st2 w1 (w.heap.size + 1) (0) (0)).alloc (.cells #[.int .i64 lo, .int .i64 hi] 48))
    generalize (st2 w1 (w.heap.size + 1) (0) (0)).alloc (.cells #[.int .i64 lo, .int .i64 hi] 48) = W6 at hS2 hX2 ⊢
    obtain ⟨s0, s1⟩ := hS2
    refine bodyPost_ret (v := .tuple #[.agg #[.int .i64 0, .int .i64 0], .bool false]) (by simp [results, Try.results75, go_sem, s0, s1]) rfl ⟨rfl, hX2⟩
  · have g1 : gLo er l t i = mLo l t i - er := by unfold gLo; rw [ho]; rfl
    have g2 : gHi er l t i = mHi l t i + er := by unfold gHi; rw [ho]; rfl
    rw [g1, g2]
    rw [ho] at HM
    generalize mLo l t i = lo at *
    generalize mHi l t i = hi at *
    clear ho hp hG g1 g2
    go_enter Try.func75, Try.ntmps75
    go_wp2_with (first | (go_at_call 87; with_reducible refine Calls.mono (HM.out _ (by (repeat (first | with_reducible exact Ext.rfl' _ | with_reducible assumption | with_reducible refine Ext.al ?_ _ | with_reducible refine Ext.dr ?_ | with_reducible refine Ext.st ?_ (by simp) _ | with_reducible refine Ext.tr ?_ (by assumption))))) ?_; rintro e w1 ⟨rfl, hb⟩; have hc := hb.ccell; have hf := hb.frz; have hs := hb.sz; (try simp at hs); (try have hs0 := hs w.heap.size (by omega)); (try have hs1 := hs (w.heap.size + 1) (by omega)); (try have hs2 := hs (w.heap.size + 1 + 1) (by omega)); (try have hs3 := hs (w.heap.size + 1 + 1 + 1) (by omega))))
    have hE : Ext w w1 := by (repeat (first | with_reducible exact Ext.rfl' _ | with_reducible assumption | with_reducible refine Ext.al ?_ _ | with_reducible refine Ext.dr ?_ | with_reducible refine Ext.st ?_ (by simp) _ | with_reducible refine Ext.tr ?_ (by assumption)))
    have kz : Two w1 (w.heap.size + 1) 0 0 := by refine ⟨?_, ?_⟩ <;> simp [*, go_sem]
    have hS2 := Two.alloc (Two.store (w := w1) (b := w.heap.size + 1) kz (lo - er) (hi + er)) (by rw [st2_size]; exact hs1) (.cells #[.int .i64 lo, .int .i64 hi] 48)
    have hX2 := Ext.al (Ext.store2 (b := w.heap.size + 1) hE (by omega) (lo - er) (hi + er)) (.cells #[.int .i64 lo, .int .i64 hi] 48)
    show bodyPost _ _ _ _ _ ((st2 w1 (w.heap.size + 1) (lo - er) (hi + er)).alloc (.cells #[.int .i64 lo, .int .i64 hi] 48))
    generalize (st2 w1 (w.heap.size + 1) (lo - er) (hi + er)).alloc (.cells #[.int .i64 lo, .int .i64 hi] 48) = W6 at hS2 hX2 ⊢
    obtain ⟨s0, s1⟩ := hS2
    refine bodyPost_ret (v := .tuple #[.agg #[.int .i64 (lo - er), .int .i64 (hi + er)], .bool true]) (by simp [results, Try.results75, go_sem, s0, s1]) rfl ⟨rfl, hX2⟩

theorem gaugeE_zero {s : ByteArray} {x er : Int} {l : List Pt} (h : gaugeE s x er l = 0) : nameB s = true ∧ withinB x (-1000000) 1000000 = true ∧ (0 ≤ er ∧ er ≤ 1000) ∧ Good l := by
  unfold gaugeE at h
  cases h1 : nameB s
  · rw [if_pos h1] at h; omega
  rw [if_neg (by rw [h1]; decide)] at h
  cases h2 : (withinB x (-1000000) 1000000 && withinB er 0 1000)
  · rw [if_pos h2] at h; omega
  rw [if_neg (by rw [h2]; decide)] at h
  rw [Bool.and_eq_true] at h2
  refine ⟨rfl, h2.1, ?_, marks_good h⟩
  have := h2.2
  unfold withinB at this
  simpa using this
theorem marks_len {s : ByteArray} {x er : Int} {l : List Pt} (h : gaugeE s x er l = 0) : l.length ≤ 400 := (gaugeE_zero h).2.2.2.len

end Go.Proofs.Ytmhmfjgahhgbpaa

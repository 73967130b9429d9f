/- The level between two gauges lies between their levels: the law returns true for every input. Conditions: none. -/
import Derived.Test.YtblmljcgjibfgaaTlawpl
import Derived.Test.YtblmljcgjibfgaaTlawlev
namespace Go.Proofs.Ytblmljcgjibfgaa
open Go Go.RowKit Go.IntWalk

theorem index2 (a b : Int) (w : World) : (Instr.index 46 (.agg #[.int .i64 a, .int .i64 b]) (.int .i64 0)).run Try.prog w = .ok (.int .i64 a) w ∧
    (Instr.index 46 (.agg #[.int .i64 a, .int .i64 b]) (.int .i64 1)).run Try.prog w = .ok (.int .i64 b) w := ⟨by kernel_rfl, by kernel_rfl⟩
theorem nextE_gauge {gs : List Ga} {g : Ga} (h : nextE gs g = 0) : gaugeE g.s g.x g.er g.l = 0 := by
  unfold nextE at h
  unfold gaugeE
  cases hn : nameB g.s
  · rw [if_pos hn] at h; omega
  rw [if_neg (by rw [hn]; decide)] at h
  rw [if_neg (by decide)]
  cases hh : hasB gs g.s
  case true => rw [if_pos hh] at h; omega
  rw [if_neg (by rw [hh]; decide)] at h
  cases hw : (withinB g.x (-1000000) 1000000 && withinB g.er 0 1000)
  · rw [if_pos hw] at h; omega
  rw [if_neg (by rw [hw]; decide)] at h
  rw [if_neg (by decide)]
  by_cases hm : marksE g.l = 0
  · exact hm
  · rw [if_neg hm] at h; exact h
theorem gaus_two {a b : Ga} (h : gausE [a, b] = 0) : gaugeE a.s a.x a.er a.l = 0 ∧ gaugeE b.s b.x b.er b.l = 0 := by
  unfold gausE at h
  rw [if_neg (by simp)] at h
  have hz := firstE_zero h
  have h0 := hz 0 (by simp)
  have h1 := hz 1 (by simp)
  rw [errG_lt (by simp)] at h0 h1
  exact ⟨nextE_gauge h0, nextE_gauge h1⟩
theorem one_mono {g : Ga} {t : Int} {p : Nat} (hG : GoodR g) (hp : PosAt g.l t p) : (oneV g t p).1 ≤ (oneV g t p).2.1 := by
  unfold oneV gLo gHi
  dsimp only
  cases ho : mOk g.l t p
  · simp
  · obtain ⟨h0, h1, h2⟩ := m_small hG.m hp ho
    have he := hG.er.1
    unfold mLo mHi
    rw [ho]
    simp only [if_true]
    obtain ⟨a1, a2⟩ := div_le (n := mN g.l t p) h0
    obtain ⟨a3, a4⟩ := div_le (n := -mN g.l t p) h0
    rcases Int.lt_or_le (-((-mN g.l t p) / mD g.l t p)) (mN g.l t p / mD g.l t p) with h | h
    · exfalso
      have h5 := Int.mul_le_mul_of_nonneg_right (show -((-mN g.l t p) / mD g.l t p) + 1 ≤ mN g.l t p / mD g.l t p by omega) (show 0 ≤ mD g.l t p by omega)
      have e3 : (-((-mN g.l t p) / mD g.l t p) + 1) * mD g.l t p = -((-mN g.l t p) / mD g.l t p * mD g.l t p) + mD g.l t p := by grind
      omega
    · omega
/-- What lies on a straight line, rounded, lies between the ends. -/
theorem line_between {a b x v u v' u' : Int} (hab : a < b) (h1 : a ≤ x) (h2 : x ≤ b) (hv : v ≤ v') (hu : u ≤ u') :
    min v u ≤ sumZ a v b u x / (b - a) ∧ sumZ a v b u x / (b - a) ≤ -((-sumZ a v' b u' x) / (b - a)) ∧ -((-sumZ a v' b u' x) / (b - a)) ≤ max v' u' := by
  have hd : 0 < b - a := by omega
  have m1 := Int.mul_le_mul_of_nonneg_right (show min v u ≤ v by omega) (show 0 ≤ b - x by omega)
  have m2 := Int.mul_le_mul_of_nonneg_right (show min v u ≤ u by omega) (show 0 ≤ x - a by omega)
  have m3 := Int.mul_le_mul_of_nonneg_right (show v' ≤ max v' u' by omega) (show 0 ≤ b - x by omega)
  have m4 := Int.mul_le_mul_of_nonneg_right (show u' ≤ max v' u' by omega) (show 0 ≤ x - a by omega)
  have m5 := Int.mul_le_mul_of_nonneg_right hv (show 0 ≤ b - x by omega)
  have m6 := Int.mul_le_mul_of_nonneg_right hu (show 0 ≤ x - a by omega)
  have e1 : min v u * (b - x) + min v u * (x - a) = min v u * (b - a) := by grind
  have e2 : max v' u' * (b - x) + max v' u' * (x - a) = max v' u' * (b - a) := by grind
  unfold sumZ
  have k1 : min v u ≤ (v * (b - x) + u * (x - a)) / (b - a) := Int.le_ediv_of_mul_le hd (by omega)
  have k2 : -(max v' u') ≤ (-(v' * (b - x) + u' * (x - a))) / (b - a) := Int.le_ediv_of_mul_le hd (by
    have e3 : -(max v' u') * (b - a) = -(max v' u' * (b - a)) := by grind
    omega)
  have hss : v * (b - x) + u * (x - a) ≤ v' * (b - x) + u' * (x - a) := by omega
  refine ⟨k1, ?_, by omega⟩
  clear k1 k2 m1 m2 m3 m4 m5 m6 e1 e2
  generalize v * (b - x) + u * (x - a) = s at *
  generalize v' * (b - x) + u' * (x - a) = s' at *
  obtain ⟨a1, a2⟩ := div_le (n := s) hd
  obtain ⟨a3, a4⟩ := div_le (n := -s') hd
  rcases Int.lt_or_le (-((-s') / (b - a))) (s / (b - a)) with h | h
  · exfalso
    have h5 := Int.mul_le_mul_of_nonneg_right (show -((-s') / (b - a)) + 1 ≤ s / (b - a) by omega) (show 0 ≤ b - a by omega)
    have e3 : (-((-s') / (b - a)) + 1) * (b - a) = -((-s') / (b - a) * (b - a)) + (b - a) := by grind
    omega
  · exact h
theorem two_cases {a b : Ga} {x t : Int} {P : Nat → Nat} {i : Nat} (hG : GoodL [a, b]) (h1 : a.x ≤ x) (h2 : x ≤ b.x) (hp : PosG [a, b] x i) :
    (x = a.x ∧ x ≠ b.x ∧ plV [a, b] x t P i = oneV a t (P 0)) ∨ (x ≠ a.x ∧ x = b.x ∧ plV [a, b] x t P i = oneV b t (P 1)) ∨ (x ≠ a.x ∧ x ≠ b.x ∧ plV [a, b] x t P i = twoV a b x t (P 0) (P 1)) := by
  have hab : a.x < b.x := hG.asc 0 (by simp)
  obtain ⟨p1, p2, p3⟩ := hp
  have p1 : i ≤ 2 := p1
  by_cases hxa : x = a.x
  · have hi : i = 0 := by
      rcases Nat.eq_zero_or_pos i with h | h
      · exact h
      · have : a.x < x := p2 0 h; omega
    subst hi
    refine .inl ⟨hxa, by omega, ?_⟩
    unfold plV
    rw [if_neg (by simp), if_pos (by simp)]
    rfl
  · have hi0 : 1 ≤ i := by
      rcases Nat.eq_zero_or_pos i with h | h
      · have : x ≤ a.x := p3 0 (by omega) (by simp); omega
      · exact h
    have hi1 : i ≤ 1 := by
      rcases Nat.lt_or_ge i 2 with h | h
      · omega
      · have : b.x < x := p2 1 (by omega); omega
    have hi : i = 1 := by omega
    subst hi
    by_cases hxb : x = b.x
    · refine .inr (.inl ⟨hxa, hxb, ?_⟩)
      have hf : foundG [a, b] x 1 = true := by
        unfold foundG
        rw [decide_eq_true (show 1 < [a, b].length by simp), decide_eq_true (show (gg [a, b] 1).x = x from hxb.symm)]; rfl
      unfold plV
      rw [if_neg (by simp), hf, if_pos (by simp)]
      rfl
    · refine .inr (.inr ⟨hxa, hxb, ?_⟩)
      have hf : foundG [a, b] x 1 = false := by
        unfold foundG
        rw [decide_eq_false (show ¬ (gg [a, b] 1).x = x from fun h => hxb h.symm), Bool.and_false]
      unfold plV
      rw [if_neg (by simp), hf, if_neg (by simp), if_neg (by simp)]
      rfl
def litG (a b : Ga) : Obj := .cells #[.string a.s, .int .i64 a.x, .int .i64 a.er, .slice a.A a.l.length a.c, .string b.s, .int .i64 b.x, .int .i64 b.er, .slice b.A b.l.length b.c] 24
theorem row_lit (a b : Ga) (w0 w' : World) (h : Ext (w0.alloc (litG a b)) w') : Row 4 encG w' (some ⟨w0.heap.size, 0, none⟩) [a, b] :=
  (Row.new encG_len w0 _ _ [a, b] rfl).ext h
theorem marks_lit (a b : Ga) (w w' : World) (hla : a.l.length ≤ 1000) (hlb : b.l.length ≤ 1000) (hA : Row 2 encP w a.A a.l) (hB : Row 2 encP w b.A b.l) (h : Ext w w') : Marks w' [a, b] := by
  intro k hk
  match k, hk with
  | 0, _ => exact ⟨hla, hA.ext h⟩
  | 1, _ => exact ⟨hlb, hB.ext h⟩
set_option maxHeartbeats 4000000 in
theorem bt_walk (a b : Ga) (x t : Int) (w : World) (hA : Row 2 encP w a.A a.l) (hB : Row 2 encP w b.A b.l) :
    Calls Try.prog 5 #[.agg #[.string a.s, .int .i64 a.x, .int .i64 a.er, .slice a.A a.l.length a.c], .agg #[.string b.s, .int .i64 b.x, .int .i64 b.er, .slice b.A b.l.length b.c], .agg #[.int .i64 x, .int .i64 t]] w
      fun e w' => e = .returned (.bool true) ∧ Ext w w' := by
  have j0 := fun w => (index2 x t w).1
  have j1 := fun w => (index2 x t w).2
  have hS0 : ∀ (w0 w' : World), Ext (w0.alloc (.cells #[.string a.s, .int .i64 a.x, .int .i64 a.er, .slice a.A a.l.length a.c, .string b.s, .int .i64 b.x, .int .i64 b.er, .slice b.A b.l.length b.c] 24)) w' → Calls Try.prog 21 #[.slice (some ⟨w0.heap.size, 0, none⟩) 2 2] w' fun e w'' => e = .returned (.bool (shortAllB [a, b])) ∧ Ext w' w'' :=
    fun w0 w' h => shortAll_c [a, b] w' _ 2 (row_lit a b w0 w' h)
  cases hsh : shortAllB [a, b]
  · rw [hsh] at hS0
    have HS := Lib.hid hS0
    clear hsh hS0
    go_enter Try.func5, Try.ntmps5
    go_wp2_with (first | (go_at_call 15; with_reducible refine Calls.mono (awake_c _) ?_; rintro e wK ⟨rfl, hb⟩; have hc := hb.ccell; have hf := hb.frz; have hs := hb.sz; (try simp at hs); (try have t0 := hs (w.heap.size) (by first | assumption | omega)); (try have t1 := hs (w.heap.size + 1) (by first | assumption | omega)); (try have t2 := hs (w.heap.size + 1 + 1) (by first | assumption | omega)); (try have t3 := hs (wK.heap.size) (by first | assumption | omega)); (try have t4 := hs (wA.heap.size) (by first | assumption | omega)); (try have t5 := hs (wB.heap.size) (by first | assumption | omega)); (try have t6 := hs (wL.heap.size) (by first | assumption | omega))) | (go_at_call 21; with_reducible refine Calls.mono (HS.out _ _ (by (repeat (first | with_reducible exact Ext.rfl' _ | with_reducible assumption | with_reducible refine Ext.al ?_ _ | with_reducible refine Ext.dr ?_ | with_reducible refine Ext.st ?_ (by simp) _ | with_reducible refine Ext.tr ?_ (by assumption))))) ?_; rintro e wS ⟨rfl, hb⟩; have hc := hb.ccell; have hf := hb.frz; have hs := hb.sz; (try simp at hs); (try have t0 := hs (w.heap.size) (by first | assumption | omega)); (try have t1 := hs (w.heap.size + 1) (by first | assumption | omega)); (try have t2 := hs (w.heap.size + 1 + 1) (by first | assumption | omega)); (try have t3 := hs (wK.heap.size) (by first | assumption | omega)); (try have t4 := hs (wA.heap.size) (by first | assumption | omega)); (try have t5 := hs (wB.heap.size) (by first | assumption | omega)); (try have t6 := hs (wL.heap.size) (by first | assumption | omega))))
    go_ret
    exact ⟨rfl, by (repeat (first | with_reducible exact Ext.rfl' _ | with_reducible assumption | with_reducible refine Ext.al ?_ _ | with_reducible refine Ext.dr ?_ | with_reducible refine Ext.st ?_ (by simp) _ | with_reducible refine Ext.tr ?_ (by assumption)))⟩
  rw [hsh] at hS0
  have HS := Lib.hid hS0
  clear hS0
  obtain ⟨_, hM0⟩ := short_marks (w := w) hsh (fun k hk => by match k, hk with | 0, _ => exact hA | 1, _ => exact hB)
  have hM : ∀ w', Ext w w' → Marks w' [a, b] := fun w' h => hM0.ext h
  have hC0 : ∀ (w0 : World), Ext w w0 → ∀ (w' : World), Ext (w0.alloc (.cells #[.string a.s, .int .i64 a.x, .int .i64 a.er, .slice a.A a.l.length a.c, .string b.s, .int .i64 b.x, .int .i64 b.er, .slice b.A b.l.length b.c] 24)) w' → Calls Try.prog 24 #[.slice (some ⟨w0.heap.size, 0, none⟩) 2 2] w' fun e w'' => e = .returned (.int .i64 (gausE [a, b])) ∧ Ext w' w'' :=
    fun w0 h0 w' h => checkAll_c [a, b] w' _ 2 (by simp) (by simp) (row_lit a b w0 w' h) (hM w' ((Ext.al h0 _).tr h))
  clear hsh hM0
  by_cases h0 : gausE [a, b] = 0
  case neg =>
    generalize gausE [a, b] = r at *
    have h' : (r == 0) = false := by simp [h0]
    have HC := Lib.hid hC0
    clear hC0
    go_enter Try.func5, Try.ntmps5
    go_wp2_with (first | (go_at_call 15; with_reducible refine Calls.mono (awake_c _) ?_; rintro e wK ⟨rfl, hb⟩; have hc := hb.ccell; have hf := hb.frz; have hs := hb.sz; (try simp at hs); (try have t0 := hs (w.heap.size) (by first | assumption | omega)); (try have t1 := hs (w.heap.size + 1) (by first | assumption | omega)); (try have t2 := hs (w.heap.size + 1 + 1) (by first | assumption | omega)); (try have t3 := hs (wK.heap.size) (by first | assumption | omega)); (try have t4 := hs (wA.heap.size) (by first | assumption | omega)); (try have t5 := hs (wB.heap.size) (by first | assumption | omega)); (try have t6 := hs (wL.heap.size) (by first | assumption | omega))) | (go_at_call 21; with_reducible refine Calls.mono (HS.out _ _ (by (repeat (first | with_reducible exact Ext.rfl' _ | with_reducible assumption | with_reducible refine Ext.al ?_ _ | with_reducible refine Ext.dr ?_ | with_reducible refine Ext.st ?_ (by simp) _ | with_reducible refine Ext.tr ?_ (by assumption))))) ?_; rintro e wS ⟨rfl, hb⟩; have hc := hb.ccell; have hf := hb.frz; have hs := hb.sz; (try simp at hs); (try have t0 := hs (w.heap.size) (by first | assumption | omega)); (try have t1 := hs (w.heap.size + 1) (by first | assumption | omega)); (try have t2 := hs (w.heap.size + 1 + 1) (by first | assumption | omega)); (try have t3 := hs (wK.heap.size) (by first | assumption | omega)); (try have t4 := hs (wA.heap.size) (by first | assumption | omega)); (try have t5 := hs (wB.heap.size) (by first | assumption | omega)); (try have t6 := hs (wL.heap.size) (by first | assumption | omega))) | (go_at_call 24; with_reducible refine Calls.mono (HC.out _ (by (repeat (first | with_reducible exact Ext.rfl' _ | with_reducible assumption | with_reducible refine Ext.al ?_ _ | with_reducible refine Ext.dr ?_ | with_reducible refine Ext.st ?_ (by simp) _ | with_reducible refine Ext.tr ?_ (by assumption)))) _ (by (repeat (first | with_reducible exact Ext.rfl' _ | with_reducible assumption | with_reducible refine Ext.al ?_ _ | with_reducible refine Ext.dr ?_ | with_reducible refine Ext.st ?_ (by simp) _ | with_reducible refine Ext.tr ?_ (by assumption))))) ?_; rintro e wC ⟨rfl, hb⟩; have hc := hb.ccell; have hf := hb.frz; have hs := hb.sz; (try simp at hs); (try have t0 := hs (w.heap.size) (by first | assumption | omega)); (try have t1 := hs (w.heap.size + 1) (by first | assumption | omega)); (try have t2 := hs (w.heap.size + 1 + 1) (by first | assumption | omega)); (try have t3 := hs (wK.heap.size) (by first | assumption | omega)); (try have t4 := hs (wA.heap.size) (by first | assumption | omega)); (try have t5 := hs (wB.heap.size) (by first | assumption | omega)); (try have t6 := hs (wL.heap.size) (by first | assumption | omega))))
    go_ret
    exact ⟨rfl, by (repeat (first | with_reducible exact Ext.rfl' _ | with_reducible assumption | with_reducible refine Ext.al ?_ _ | with_reducible refine Ext.dr ?_ | with_reducible refine Ext.st ?_ (by simp) _ | with_reducible refine Ext.tr ?_ (by assumption)))⟩
  rw [h0] at hC0
  have HC := Lib.hid hC0
  clear hC0
  have hG := gaus_good h0
  obtain ⟨ga, gb⟩ := gaus_two h0
  rcases (by omega : x < a.x ∨ (a.x ≤ x ∧ b.x < x) ∨ (a.x ≤ x ∧ x ≤ b.x ∧ t < 0) ∨ (a.x ≤ x ∧ x ≤ b.x ∧ 0 ≤ t ∧ 1000000 < t) ∨ (a.x ≤ x ∧ x ≤ b.x ∧ 0 ≤ t ∧ t ≤ 1000000)) with q | ⟨q1, q2⟩ | ⟨q1, q2, q3⟩ | ⟨q1, q2, q3, q4⟩ | ⟨q1, q2, q3, q4⟩
  case inr.inr.inr.inr =>
    have ht : withinB t 0 1000000 = true := by unfold withinB; simp; omega
    have oa := hG.ok 0 (by simp)
    have ob := hG.ok 1 (by simp)
    have hx1 := oa.x
    have hx2 := ob.x
    have hx : withinB x (-1000000) 1000000 = true := by
      have e1 : (gg [a, b] 0).x = a.x := rfl
      have e2 : (gg [a, b] 1).x = b.x := rfl
      unfold withinB; simp; omega
    obtain ⟨i, hp⟩ := posG_some hG x
    obtain ⟨P, hP⟩ := pos_all hG t
    have hPa : PosAt a.l t (P 0) := hP 0 (by simp)
    have hPb : PosAt b.l t (P 1) := hP 1 (by simp)
    have hab : a.x < b.x := hG.asc 0 (by simp)
    have hL0 : ∀ (w0 : World), Ext w w0 → ∀ (w' : World), Ext (w0.alloc (.cells #[.string a.s, .int .i64 a.x, .int .i64 a.er, .slice a.A a.l.length a.c, .string b.s, .int .i64 b.x, .int .i64 b.er, .slice b.A b.l.length b.c] 24)) w' → Calls Try.prog 22 #[.slice (some ⟨w0.heap.size, 0, none⟩) 2 2, .int .i64 x, .int .i64 t] w' fun e w'' => e = .returned (.tuple #[.agg #[.int .i64 (plV [a, b] x t P i).1, .int .i64 (plV [a, b] x t P i).2.1], .int .i64 (if (plV [a, b] x t P i).2.2 then 0 else 11)]) ∧ Ext w' w'' :=
      fun w0 h1 w' h => level_ok_c [a, b] x t P i w' _ 2 (by simp) (row_lit a b w0 w' h) (hM w' ((Ext.al h1 _).tr h)) h0 hx ht hp hP
    have hA0 : ∀ (w' : World), Ext w w' → Calls Try.prog 17 #[.agg #[.string a.s, .int .i64 a.x, .int .i64 a.er, .slice a.A a.l.length a.c], .int .i64 t] w' fun e w'' => e = .returned (.tuple #[.agg #[.int .i64 (oneV a t (P 0)).1, .int .i64 (oneV a t (P 0)).2.1], .int .i64 (if (oneV a t (P 0)).2.2 then 0 else 11)]) ∧ Ext w' w'' :=
      fun w' h => at_ok_c a.s a.x a.er a.l t (P 0) w' a.A a.c (hA.ext h) ga ht hPa
    have hB0 : ∀ (w' : World), Ext w w' → Calls Try.prog 17 #[.agg #[.string b.s, .int .i64 b.x, .int .i64 b.er, .slice b.A b.l.length b.c], .int .i64 t] w' fun e w'' => e = .returned (.tuple #[.agg #[.int .i64 (oneV b t (P 1)).1, .int .i64 (oneV b t (P 1)).2.1], .int .i64 (if (oneV b t (P 1)).2.2 then 0 else 11)]) ∧ Ext w' w'' :=
      fun w' h => at_ok_c b.s b.x b.er b.l t (P 1) w' b.A b.c (hB.ext h) gb ht hPb
    have ma := one_mono (t := t) (p := P 0) oa hPa
    have mb := one_mono (t := t) (p := P 1) ob hPb
    have hc3 := two_cases (t := t) (P := P) hG q1 q2 hp
    have e2 : twoV a b x t (P 0) (P 1) = (if (oneV a t (P 0)).2.2 && (oneV b t (P 1)).2.2 then sumZ a.x (oneV a t (P 0)).1 b.x (oneV b t (P 1)).1 x / (b.x - a.x) else 0,
      if (oneV a t (P 0)).2.2 && (oneV b t (P 1)).2.2 then -((-sumZ a.x (oneV a t (P 0)).2.1 b.x (oneV b t (P 1)).2.1 x) / (b.x - a.x)) else 0, (oneV a t (P 0)).2.2 && (oneV b t (P 1)).2.2) := rfl
    rw [e2] at hc3
    have ma : (oneV a t (P 0)).1 ≤ (oneV a t (P 0)).2.1 := ma
    have mb : (oneV b t (P 1)).1 ≤ (oneV b t (P 1)).2.1 := mb
    have hln := line_between (v := (oneV a t (P 0)).1) (u := (oneV b t (P 1)).1) hab q1 q2 ma mb
    generalize plV [a, b] x t P i = r at *
    generalize oneV a t (P 0) = va at *
    generalize oneV b t (P 1) = vb at *
    obtain ⟨r0, r1, r2⟩ := r
    obtain ⟨a0, a1, ao⟩ := va
    obtain ⟨b0, b1, bo⟩ := vb
    dsimp only at *
    have HL := Lib.hid hL0
    have HAA := Lib.hid hA0
    have HAB := Lib.hid hB0
    generalize sumZ a.x a0 b.x b0 x / (b.x - a.x) = m0 at *
    generalize -((-sumZ a.x a1 b.x b1 x) / (b.x - a.x)) = m1 at *
    clear hL0 hA0 hB0 e2 h0 hG ga gb oa ob hx1 hx2 hx ht hp hP hPa hPb
    rcases hc3 with ⟨xa, xb, hr⟩ | ⟨xa, xb, hr⟩ | ⟨xa, xb, hr⟩
    · injection hr with hr1 hr2
      injection hr2 with hr2 hr3
      subst hr1 hr2 hr3
      subst xa
      have xb' : (a.x == b.x) = false := by rw [beq_eq_false_iff_ne]; exact xb
      have n1 : ¬ b.x < a.x := by omega
      clear hln hM hA hB
      cases r2
      all_goals cases bo
      all_goals
        go_enter Try.func5, Try.ntmps5
        go_upto_region 6 with (first | (go_at_call 15; with_reducible refine Calls.mono (awake_c _) ?_; rintro e wK ⟨rfl, hb⟩; have hc := hb.ccell; have hf := hb.frz; have hs := hb.sz; (try simp at hs); (try have t0 := hs (w.heap.size) (by first | assumption | omega)); (try have t1 := hs (w.heap.size + 1) (by first | assumption | omega)); (try have t2 := hs (w.heap.size + 1 + 1) (by first | assumption | omega)); (try have t3 := hs (wK.heap.size) (by first | assumption | omega)); (try have t4 := hs (wA.heap.size) (by first | assumption | omega)); (try have t5 := hs (wB.heap.size) (by first | assumption | omega)); (try have t6 := hs (wL.heap.size) (by first | assumption | omega))) | (go_at_call 21; with_reducible refine Calls.mono (HS.out _ _ (by (repeat (first | with_reducible exact Ext.rfl' _ | with_reducible assumption | with_reducible refine Ext.al ?_ _ | with_reducible refine Ext.dr ?_ | with_reducible refine Ext.st ?_ (by simp) _ | with_reducible refine Ext.tr ?_ (by assumption))))) ?_; rintro e wS ⟨rfl, hb⟩; have hc := hb.ccell; have hf := hb.frz; have hs := hb.sz; (try simp at hs); (try have t0 := hs (w.heap.size) (by first | assumption | omega)); (try have t1 := hs (w.heap.size + 1) (by first | assumption | omega)); (try have t2 := hs (w.heap.size + 1 + 1) (by first | assumption | omega)); (try have t3 := hs (wK.heap.size) (by first | assumption | omega)); (try have t4 := hs (wA.heap.size) (by first | assumption | omega)); (try have t5 := hs (wB.heap.size) (by first | assumption | omega)); (try have t6 := hs (wL.heap.size) (by first | assumption | omega))) | (go_at_call 24; with_reducible refine Calls.mono (HC.out _ (by (repeat (first | with_reducible exact Ext.rfl' _ | with_reducible assumption | with_reducible refine Ext.al ?_ _ | with_reducible refine Ext.dr ?_ | with_reducible refine Ext.st ?_ (by simp) _ | with_reducible refine Ext.tr ?_ (by assumption)))) _ (by (repeat (first | with_reducible exact Ext.rfl' _ | with_reducible assumption | with_reducible refine Ext.al ?_ _ | with_reducible refine Ext.dr ?_ | with_reducible refine Ext.st ?_ (by simp) _ | with_reducible refine Ext.tr ?_ (by assumption))))) ?_; rintro e wC ⟨rfl, hb⟩; have hc := hb.ccell; have hf := hb.frz; have hs := hb.sz; (try simp at hs); (try have t0 := hs (w.heap.size) (by first | assumption | omega)); (try have t1 := hs (w.heap.size + 1) (by first | assumption | omega)); (try have t2 := hs (w.heap.size + 1 + 1) (by first | assumption | omega)); (try have t3 := hs (wK.heap.size) (by first | assumption | omega)); (try have t4 := hs (wA.heap.size) (by first | assumption | omega)); (try have t5 := hs (wB.heap.size) (by first | assumption | omega)); (try have t6 := hs (wL.heap.size) (by first | assumption | omega))))
        refine region_grow (by kernel_rfl) (by kernel_rfl) ?_
        repeat (first | go_big_quiet_step (first  | fail) | quiet_step (first  | fail))
        refine wpQuiet_nil ?_
        intro w1 hb
        have hc := hb.ccell
        have hf := hb.frz
        have hs := hb.sz
        (try simp at hs); (try have hs0 := hs w.heap.size (by omega)); (try have hs1 := hs (w.heap.size + 1) (by omega)); (try have hs2 := hs (w.heap.size + 1 + 1) (by omega)); (try have hs3 := hs (w.heap.size + 1 + 1 + 1) (by omega))
        (try simp only [IntWalk.i64_left])
        go_wp2_with (first | (go_at_call 17; with_reducible refine Calls.mono (HAA.out _ (by (repeat (first | with_reducible exact Ext.rfl' _ | with_reducible assumption | with_reducible refine Ext.al ?_ _ | with_reducible refine Ext.dr ?_ | with_reducible refine Ext.st ?_ (by simp) _ | with_reducible refine Ext.tr ?_ (by assumption))))) ?_; rintro e wA ⟨rfl, hb⟩; have hc := hb.ccell; have hf := hb.frz; have hs := hb.sz; (try simp at hs); (try have t0 := hs (w.heap.size) (by first | assumption | omega)); (try have t1 := hs (w.heap.size + 1) (by first | assumption | omega)); (try have t2 := hs (w.heap.size + 1 + 1) (by first | assumption | omega)); (try have t3 := hs (wK.heap.size) (by first | assumption | omega)); (try have t4 := hs (wA.heap.size) (by first | assumption | omega)); (try have t5 := hs (wB.heap.size) (by first | assumption | omega)); (try have t6 := hs (wL.heap.size) (by first | assumption | omega))) | (go_at_call 17; with_reducible refine Calls.mono (HAB.out _ (by (repeat (first | with_reducible exact Ext.rfl' _ | with_reducible assumption | with_reducible refine Ext.al ?_ _ | with_reducible refine Ext.dr ?_ | with_reducible refine Ext.st ?_ (by simp) _ | with_reducible refine Ext.tr ?_ (by assumption))))) ?_; rintro e wB ⟨rfl, hb⟩; have hc := hb.ccell; have hf := hb.frz; have hs := hb.sz; (try simp at hs); (try have t0 := hs (w.heap.size) (by first | assumption | omega)); (try have t1 := hs (w.heap.size + 1) (by first | assumption | omega)); (try have t2 := hs (w.heap.size + 1 + 1) (by first | assumption | omega)); (try have t3 := hs (wK.heap.size) (by first | assumption | omega)); (try have t4 := hs (wA.heap.size) (by first | assumption | omega)); (try have t5 := hs (wB.heap.size) (by first | assumption | omega)); (try have t6 := hs (wL.heap.size) (by first | assumption | omega))) | (go_at_call 22; with_reducible refine Calls.mono (HL.out _ (by (repeat (first | with_reducible exact Ext.rfl' _ | with_reducible assumption | with_reducible refine Ext.al ?_ _ | with_reducible refine Ext.dr ?_ | with_reducible refine Ext.st ?_ (by simp) _ | with_reducible refine Ext.tr ?_ (by assumption)))) _ (by (repeat (first | with_reducible exact Ext.rfl' _ | with_reducible assumption | with_reducible refine Ext.al ?_ _ | with_reducible refine Ext.dr ?_ | with_reducible refine Ext.st ?_ (by simp) _ | with_reducible refine Ext.tr ?_ (by assumption))))) ?_; rintro e wL ⟨rfl, hb⟩; have hc := hb.ccell; have hf := hb.frz; have hs := hb.sz; (try simp at hs); (try have t0 := hs (w.heap.size) (by first | assumption | omega)); (try have t1 := hs (w.heap.size + 1) (by first | assumption | omega)); (try have t2 := hs (w.heap.size + 1 + 1) (by first | assumption | omega)); (try have t3 := hs (wK.heap.size) (by first | assumption | omega)); (try have t4 := hs (wA.heap.size) (by first | assumption | omega)); (try have t5 := hs (wB.heap.size) (by first | assumption | omega)); (try have t6 := hs (wL.heap.size) (by first | assumption | omega))))
        all_goals go_ret
        all_goals exact ⟨by first | rfl | (simp; done) | (simp; omega), by (repeat (first | with_reducible exact Ext.rfl' _ | with_reducible assumption | with_reducible refine Ext.al ?_ _ | with_reducible refine Ext.dr ?_ | with_reducible refine Ext.st ?_ (by simp) _ | with_reducible refine Ext.tr ?_ (by assumption)))⟩
    · injection hr with hr1 hr2
      injection hr2 with hr2 hr3
      subst hr1 hr2 hr3
      subst xb
      have xa' : (b.x == a.x) = false := by rw [beq_eq_false_iff_ne]; exact xa
      have n1 : ¬ b.x < a.x := by omega
      clear hln hM hA hB
      cases r2
      all_goals cases ao
      all_goals
        go_enter Try.func5, Try.ntmps5
        go_upto_region 6 with (first | (go_at_call 15; with_reducible refine Calls.mono (awake_c _) ?_; rintro e wK ⟨rfl, hb⟩; have hc := hb.ccell; have hf := hb.frz; have hs := hb.sz; (try simp at hs); (try have t0 := hs (w.heap.size) (by first | assumption | omega)); (try have t1 := hs (w.heap.size + 1) (by first | assumption | omega)); (try have t2 := hs (w.heap.size + 1 + 1) (by first | assumption | omega)); (try have t3 := hs (wK.heap.size) (by first | assumption | omega)); (try have t4 := hs (wA.heap.size) (by first | assumption | omega)); (try have t5 := hs (wB.heap.size) (by first | assumption | omega)); (try have t6 := hs (wL.heap.size) (by first | assumption | omega))) | (go_at_call 21; with_reducible refine Calls.mono (HS.out _ _ (by (repeat (first | with_reducible exact Ext.rfl' _ | with_reducible assumption | with_reducible refine Ext.al ?_ _ | with_reducible refine Ext.dr ?_ | with_reducible refine Ext.st ?_ (by simp) _ | with_reducible refine Ext.tr ?_ (by assumption))))) ?_; rintro e wS ⟨rfl, hb⟩; have hc := hb.ccell; have hf := hb.frz; have hs := hb.sz; (try simp at hs); (try have t0 := hs (w.heap.size) (by first | assumption | omega)); (try have t1 := hs (w.heap.size + 1) (by first | assumption | omega)); (try have t2 := hs (w.heap.size + 1 + 1) (by first | assumption | omega)); (try have t3 := hs (wK.heap.size) (by first | assumption | omega)); (try have t4 := hs (wA.heap.size) (by first | assumption | omega)); (try have t5 := hs (wB.heap.size) (by first | assumption | omega)); (try have t6 := hs (wL.heap.size) (by first | assumption | omega))) | (go_at_call 24; with_reducible refine Calls.mono (HC.out _ (by (repeat (first | with_reducible exact Ext.rfl' _ | with_reducible assumption | with_reducible refine Ext.al ?_ _ | with_reducible refine Ext.dr ?_ | with_reducible refine Ext.st ?_ (by simp) _ | with_reducible refine Ext.tr ?_ (by assumption)))) _ (by (repeat (first | with_reducible exact Ext.rfl' _ | with_reducible assumption | with_reducible refine Ext.al ?_ _ | with_reducible refine Ext.dr ?_ | with_reducible refine Ext.st ?_ (by simp) _ | with_reducible refine Ext.tr ?_ (by assumption))))) ?_; rintro e wC ⟨rfl, hb⟩; have hc := hb.ccell; have hf := hb.frz; have hs := hb.sz; (try simp at hs); (try have t0 := hs (w.heap.size) (by first | assumption | omega)); (try have t1 := hs (w.heap.size + 1) (by first | assumption | omega)); (try have t2 := hs (w.heap.size + 1 + 1) (by first | assumption | omega)); (try have t3 := hs (wK.heap.size) (by first | assumption | omega)); (try have t4 := hs (wA.heap.size) (by first | assumption | omega)); (try have t5 := hs (wB.heap.size) (by first | assumption | omega)); (try have t6 := hs (wL.heap.size) (by first | assumption | omega))))
        refine region_grow (by kernel_rfl) (by kernel_rfl) ?_
        repeat (first | go_big_quiet_step (first  | fail) | quiet_step (first  | fail))
        refine wpQuiet_nil ?_
        intro w1 hb
        have hc := hb.ccell
        have hf := hb.frz
        have hs := hb.sz
        (try simp at hs); (try have hs0 := hs w.heap.size (by omega)); (try have hs1 := hs (w.heap.size + 1) (by omega)); (try have hs2 := hs (w.heap.size + 1 + 1) (by omega)); (try have hs3 := hs (w.heap.size + 1 + 1 + 1) (by omega))
        (try simp only [IntWalk.i64_left])
        go_wp2_with (first | (go_at_call 17; with_reducible refine Calls.mono (HAA.out _ (by (repeat (first | with_reducible exact Ext.rfl' _ | with_reducible assumption | with_reducible refine Ext.al ?_ _ | with_reducible refine Ext.dr ?_ | with_reducible refine Ext.st ?_ (by simp) _ | with_reducible refine Ext.tr ?_ (by assumption))))) ?_; rintro e wA ⟨rfl, hb⟩; have hc := hb.ccell; have hf := hb.frz; have hs := hb.sz; (try simp at hs); (try have t0 := hs (w.heap.size) (by first | assumption | omega)); (try have t1 := hs (w.heap.size + 1) (by first | assumption | omega)); (try have t2 := hs (w.heap.size + 1 + 1) (by first | assumption | omega)); (try have t3 := hs (wK.heap.size) (by first | assumption | omega)); (try have t4 := hs (wA.heap.size) (by first | assumption | omega)); (try have t5 := hs (wB.heap.size) (by first | assumption | omega)); (try have t6 := hs (wL.heap.size) (by first | assumption | omega))) | (go_at_call 17; with_reducible refine Calls.mono (HAB.out _ (by (repeat (first | with_reducible exact Ext.rfl' _ | with_reducible assumption | with_reducible refine Ext.al ?_ _ | with_reducible refine Ext.dr ?_ | with_reducible refine Ext.st ?_ (by simp) _ | with_reducible refine Ext.tr ?_ (by assumption))))) ?_; rintro e wB ⟨rfl, hb⟩; have hc := hb.ccell; have hf := hb.frz; have hs := hb.sz; (try simp at hs); (try have t0 := hs (w.heap.size) (by first | assumption | omega)); (try have t1 := hs (w.heap.size + 1) (by first | assumption | omega)); (try have t2 := hs (w.heap.size + 1 + 1) (by first | assumption | omega)); (try have t3 := hs (wK.heap.size) (by first | assumption | omega)); (try have t4 := hs (wA.heap.size) (by first | assumption | omega)); (try have t5 := hs (wB.heap.size) (by first | assumption | omega)); (try have t6 := hs (wL.heap.size) (by first | assumption | omega))) | (go_at_call 22; with_reducible refine Calls.mono (HL.out _ (by (repeat (first | with_reducible exact Ext.rfl' _ | with_reducible assumption | with_reducible refine Ext.al ?_ _ | with_reducible refine Ext.dr ?_ | with_reducible refine Ext.st ?_ (by simp) _ | with_reducible refine Ext.tr ?_ (by assumption)))) _ (by (repeat (first | with_reducible exact Ext.rfl' _ | with_reducible assumption | with_reducible refine Ext.al ?_ _ | with_reducible refine Ext.dr ?_ | with_reducible refine Ext.st ?_ (by simp) _ | with_reducible refine Ext.tr ?_ (by assumption))))) ?_; rintro e wL ⟨rfl, hb⟩; have hc := hb.ccell; have hf := hb.frz; have hs := hb.sz; (try simp at hs); (try have t0 := hs (w.heap.size) (by first | assumption | omega)); (try have t1 := hs (w.heap.size + 1) (by first | assumption | omega)); (try have t2 := hs (w.heap.size + 1 + 1) (by first | assumption | omega)); (try have t3 := hs (wK.heap.size) (by first | assumption | omega)); (try have t4 := hs (wA.heap.size) (by first | assumption | omega)); (try have t5 := hs (wB.heap.size) (by first | assumption | omega)); (try have t6 := hs (wL.heap.size) (by first | assumption | omega))))
        all_goals go_ret
        all_goals exact ⟨by first | rfl | (simp; done) | (simp; omega), by (repeat (first | with_reducible exact Ext.rfl' _ | with_reducible assumption | with_reducible refine Ext.al ?_ _ | with_reducible refine Ext.dr ?_ | with_reducible refine Ext.st ?_ (by simp) _ | with_reducible refine Ext.tr ?_ (by assumption)))⟩
    · have xa' : (x == a.x) = false := by rw [beq_eq_false_iff_ne]; exact xa
      have xb' : (x == b.x) = false := by rw [beq_eq_false_iff_ne]; exact xb
      have n1 : ¬ x < a.x := by omega
      have n2 : ¬ b.x < x := by omega
      obtain ⟨l1, l2, l3⟩ := hln
      clear hM hA hB
      cases ao
      all_goals cases bo
      all_goals simp only [Bool.and_self, Bool.and_false, Bool.false_and, Bool.false_eq_true, if_false, if_true] at hr
      all_goals injection hr with hr1 hr2
      all_goals injection hr2 with hr2 hr3
      all_goals subst hr1 hr2 hr3
      all_goals
        go_enter Try.func5, Try.ntmps5
        go_upto_region 6 with (first | (go_at_call 15; with_reducible refine Calls.mono (awake_c _) ?_; rintro e wK ⟨rfl, hb⟩; have hc := hb.ccell; have hf := hb.frz; have hs := hb.sz; (try simp at hs); (try have t0 := hs (w.heap.size) (by first | assumption | omega)); (try have t1 := hs (w.heap.size + 1) (by first | assumption | omega)); (try have t2 := hs (w.heap.size + 1 + 1) (by first | assumption | omega)); (try have t3 := hs (wK.heap.size) (by first | assumption | omega)); (try have t4 := hs (wA.heap.size) (by first | assumption | omega)); (try have t5 := hs (wB.heap.size) (by first | assumption | omega)); (try have t6 := hs (wL.heap.size) (by first | assumption | omega))) | (go_at_call 21; with_reducible refine Calls.mono (HS.out _ _ (by (repeat (first | with_reducible exact Ext.rfl' _ | with_reducible assumption | with_reducible refine Ext.al ?_ _ | with_reducible refine Ext.dr ?_ | with_reducible refine Ext.st ?_ (by simp) _ | with_reducible refine Ext.tr ?_ (by assumption))))) ?_; rintro e wS ⟨rfl, hb⟩; have hc := hb.ccell; have hf := hb.frz; have hs := hb.sz; (try simp at hs); (try have t0 := hs (w.heap.size) (by first | assumption | omega)); (try have t1 := hs (w.heap.size + 1) (by first | assumption | omega)); (try have t2 := hs (w.heap.size + 1 + 1) (by first | assumption | omega)); (try have t3 := hs (wK.heap.size) (by first | assumption | omega)); (try have t4 := hs (wA.heap.size) (by first | assumption | omega)); (try have t5 := hs (wB.heap.size) (by first | assumption | omega)); (try have t6 := hs (wL.heap.size) (by first | assumption | omega))) | (go_at_call 24; with_reducible refine Calls.mono (HC.out _ (by (repeat (first | with_reducible exact Ext.rfl' _ | with_reducible assumption | with_reducible refine Ext.al ?_ _ | with_reducible refine Ext.dr ?_ | with_reducible refine Ext.st ?_ (by simp) _ | with_reducible refine Ext.tr ?_ (by assumption)))) _ (by (repeat (first | with_reducible exact Ext.rfl' _ | with_reducible assumption | with_reducible refine Ext.al ?_ _ | with_reducible refine Ext.dr ?_ | with_reducible refine Ext.st ?_ (by simp) _ | with_reducible refine Ext.tr ?_ (by assumption))))) ?_; rintro e wC ⟨rfl, hb⟩; have hc := hb.ccell; have hf := hb.frz; have hs := hb.sz; (try simp at hs); (try have t0 := hs (w.heap.size) (by first | assumption | omega)); (try have t1 := hs (w.heap.size + 1) (by first | assumption | omega)); (try have t2 := hs (w.heap.size + 1 + 1) (by first | assumption | omega)); (try have t3 := hs (wK.heap.size) (by first | assumption | omega)); (try have t4 := hs (wA.heap.size) (by first | assumption | omega)); (try have t5 := hs (wB.heap.size) (by first | assumption | omega)); (try have t6 := hs (wL.heap.size) (by first | assumption | omega))))
        refine region_grow (by kernel_rfl) (by kernel_rfl) ?_
        repeat (first | go_big_quiet_step (first  | fail) | quiet_step (first  | fail))
        refine wpQuiet_nil ?_
        intro w1 hb
        have hc := hb.ccell
        have hf := hb.frz
        have hs := hb.sz
        (try simp at hs); (try have hs0 := hs w.heap.size (by omega)); (try have hs1 := hs (w.heap.size + 1) (by omega)); (try have hs2 := hs (w.heap.size + 1 + 1) (by omega)); (try have hs3 := hs (w.heap.size + 1 + 1 + 1) (by omega))
        (try simp only [IntWalk.i64_left])
        go_wp2_with (first | (go_at_call 17; with_reducible refine Calls.mono (HAA.out _ (by (repeat (first | with_reducible exact Ext.rfl' _ | with_reducible assumption | with_reducible refine Ext.al ?_ _ | with_reducible refine Ext.dr ?_ | with_reducible refine Ext.st ?_ (by simp) _ | with_reducible refine Ext.tr ?_ (by assumption))))) ?_; rintro e wA ⟨rfl, hb⟩; have hc := hb.ccell; have hf := hb.frz; have hs := hb.sz; (try simp at hs); (try have t0 := hs (w.heap.size) (by first | assumption | omega)); (try have t1 := hs (w.heap.size + 1) (by first | assumption | omega)); (try have t2 := hs (w.heap.size + 1 + 1) (by first | assumption | omega)); (try have t3 := hs (wK.heap.size) (by first | assumption | omega)); (try have t4 := hs (wA.heap.size) (by first | assumption | omega)); (try have t5 := hs (wB.heap.size) (by first | assumption | omega)); (try have t6 := hs (wL.heap.size) (by first | assumption | omega))) | (go_at_call 17; with_reducible refine Calls.mono (HAB.out _ (by (repeat (first | with_reducible exact Ext.rfl' _ | with_reducible assumption | with_reducible refine Ext.al ?_ _ | with_reducible refine Ext.dr ?_ | with_reducible refine Ext.st ?_ (by simp) _ | with_reducible refine Ext.tr ?_ (by assumption))))) ?_; rintro e wB ⟨rfl, hb⟩; have hc := hb.ccell; have hf := hb.frz; have hs := hb.sz; (try simp at hs); (try have t0 := hs (w.heap.size) (by first | assumption | omega)); (try have t1 := hs (w.heap.size + 1) (by first | assumption | omega)); (try have t2 := hs (w.heap.size + 1 + 1) (by first | assumption | omega)); (try have t3 := hs (wK.heap.size) (by first | assumption | omega)); (try have t4 := hs (wA.heap.size) (by first | assumption | omega)); (try have t5 := hs (wB.heap.size) (by first | assumption | omega)); (try have t6 := hs (wL.heap.size) (by first | assumption | omega))) | (go_at_call 22; with_reducible refine Calls.mono (HL.out _ (by (repeat (first | with_reducible exact Ext.rfl' _ | with_reducible assumption | with_reducible refine Ext.al ?_ _ | with_reducible refine Ext.dr ?_ | with_reducible refine Ext.st ?_ (by simp) _ | with_reducible refine Ext.tr ?_ (by assumption)))) _ (by (repeat (first | with_reducible exact Ext.rfl' _ | with_reducible assumption | with_reducible refine Ext.al ?_ _ | with_reducible refine Ext.dr ?_ | with_reducible refine Ext.st ?_ (by simp) _ | with_reducible refine Ext.tr ?_ (by assumption))))) ?_; rintro e wL ⟨rfl, hb⟩; have hc := hb.ccell; have hf := hb.frz; have hs := hb.sz; (try simp at hs); (try have t0 := hs (w.heap.size) (by first | assumption | omega)); (try have t1 := hs (w.heap.size + 1) (by first | assumption | omega)); (try have t2 := hs (w.heap.size + 1 + 1) (by first | assumption | omega)); (try have t3 := hs (wK.heap.size) (by first | assumption | omega)); (try have t4 := hs (wA.heap.size) (by first | assumption | omega)); (try have t5 := hs (wB.heap.size) (by first | assumption | omega)); (try have t6 := hs (wL.heap.size) (by first | assumption | omega))))
        all_goals go_ret
        all_goals exact ⟨by first | rfl | (simp; done) | (simp; omega), by (repeat (first | with_reducible exact Ext.rfl' _ | with_reducible assumption | with_reducible refine Ext.al ?_ _ | with_reducible refine Ext.dr ?_ | with_reducible refine Ext.st ?_ (by simp) _ | with_reducible refine Ext.tr ?_ (by assumption)))⟩
  all_goals
    clear h0 hG ga gb
    go_enter Try.func5, Try.ntmps5
    go_upto_region 6 with (first | (go_at_call 15; with_reducible refine Calls.mono (awake_c _) ?_; rintro e wK ⟨rfl, hb⟩; have hc := hb.ccell; have hf := hb.frz; have hs := hb.sz; (try simp at hs); (try have t0 := hs (w.heap.size) (by first | assumption | omega)); (try have t1 := hs (w.heap.size + 1) (by first | assumption | omega)); (try have t2 := hs (w.heap.size + 1 + 1) (by first | assumption | omega)); (try have t3 := hs (wK.heap.size) (by first | assumption | omega)); (try have t4 := hs (wA.heap.size) (by first | assumption | omega)); (try have t5 := hs (wB.heap.size) (by first | assumption | omega)); (try have t6 := hs (wL.heap.size) (by first | assumption | omega))) | (go_at_call 21; with_reducible refine Calls.mono (HS.out _ _ (by (repeat (first | with_reducible exact Ext.rfl' _ | with_reducible assumption | with_reducible refine Ext.al ?_ _ | with_reducible refine Ext.dr ?_ | with_reducible refine Ext.st ?_ (by simp) _ | with_reducible refine Ext.tr ?_ (by assumption))))) ?_; rintro e wS ⟨rfl, hb⟩; have hc := hb.ccell; have hf := hb.frz; have hs := hb.sz; (try simp at hs); (try have t0 := hs (w.heap.size) (by first | assumption | omega)); (try have t1 := hs (w.heap.size + 1) (by first | assumption | omega)); (try have t2 := hs (w.heap.size + 1 + 1) (by first | assumption | omega)); (try have t3 := hs (wK.heap.size) (by first | assumption | omega)); (try have t4 := hs (wA.heap.size) (by first | assumption | omega)); (try have t5 := hs (wB.heap.size) (by first | assumption | omega)); (try have t6 := hs (wL.heap.size) (by first | assumption | omega))) | (go_at_call 24; with_reducible refine Calls.mono (HC.out _ (by (repeat (first | with_reducible exact Ext.rfl' _ | with_reducible assumption | with_reducible refine Ext.al ?_ _ | with_reducible refine Ext.dr ?_ | with_reducible refine Ext.st ?_ (by simp) _ | with_reducible refine Ext.tr ?_ (by assumption)))) _ (by (repeat (first | with_reducible exact Ext.rfl' _ | with_reducible assumption | with_reducible refine Ext.al ?_ _ | with_reducible refine Ext.dr ?_ | with_reducible refine Ext.st ?_ (by simp) _ | with_reducible refine Ext.tr ?_ (by assumption))))) ?_; rintro e wC ⟨rfl, hb⟩; have hc := hb.ccell; have hf := hb.frz; have hs := hb.sz; (try simp at hs); (try have t0 := hs (w.heap.size) (by first | assumption | omega)); (try have t1 := hs (w.heap.size + 1) (by first | assumption | omega)); (try have t2 := hs (w.heap.size + 1 + 1) (by first | assumption | omega)); (try have t3 := hs (wK.heap.size) (by first | assumption | omega)); (try have t4 := hs (wA.heap.size) (by first | assumption | omega)); (try have t5 := hs (wB.heap.size) (by first | assumption | omega)); (try have t6 := hs (wL.heap.size) (by first | assumption | omega))))
    refine region_grow (by kernel_rfl) (by kernel_rfl) ?_
    repeat (first | go_big_quiet_step (first  | fail) | quiet_step (first  | fail))
    refine wpQuiet_nil ?_
    intro w1 hb
    have hc := hb.ccell
    have hf := hb.frz
    have hs := hb.sz
    (try simp at hs); (try have hs0 := hs w.heap.size (by omega)); (try have hs1 := hs (w.heap.size + 1) (by omega)); (try have hs2 := hs (w.heap.size + 1 + 1) (by omega)); (try have hs3 := hs (w.heap.size + 1 + 1 + 1) (by omega))
    (try simp only [IntWalk.i64_left])
    go_wp2
    go_ret
    exact ⟨rfl, by (repeat (first | with_reducible exact Ext.rfl' _ | with_reducible assumption | with_reducible refine Ext.al ?_ _ | with_reducible refine Ext.dr ?_ | with_reducible refine Ext.st ?_ (by simp) _ | with_reducible refine Ext.tr ?_ (by assumption)))⟩
end Go.Proofs.Ytblmljcgjibfgaa

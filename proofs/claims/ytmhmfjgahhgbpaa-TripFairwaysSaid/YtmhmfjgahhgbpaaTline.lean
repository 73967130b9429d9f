/- Contracts of onLine and meanLevel. -/
import Derived.Test.YtmhmfjgahhgbpaaTbin
import Derived.Deep.RegionHeld3
namespace Go.Proofs.Ytmhmfjgahhgbpaa
open Go Go.RowKit Go.IntWalk

def Two (w : World) (b : Nat) (x y : Int) : Prop := w.cell? ⟨b, 0, none⟩ = some (.int .i64 x) ∧ w.cell? ⟨b, 1, none⟩ = some (.int .i64 y)
def st2 (w : World) (b : Nat) (x0 x1 : Int) : World := (w.setCell ⟨b, 0, none⟩ (.int .i64 x0)).setCell ⟨b, 1, none⟩ (.int .i64 x1)
theorem Two.store {w : World} {b : Nat} {x y : Int} (h : Two w b x y) (x0 x1 : Int) : Two (st2 w b x0 x1) b x0 x1 := by
  obtain ⟨o0, o1⟩ := h
  unfold st2
  refine ⟨?_, ?_⟩ <;> simp [go_sem, o0, o1]
theorem st2_size (w : World) (b : Nat) (x0 x1 : Int) : (st2 w b x0 x1).heap.size = w.heap.size := by unfold st2; simp
theorem Two.alloc {w : World} {b : Nat} {x y : Int} (h : Two w b x y) (hb : b < w.heap.size) (o : Obj) : Two (w.alloc o) b x y :=
  ⟨((Ext.al (Ext.rfl' w) o).ccell b 0 hb).trans h.1, ((Ext.al (Ext.rfl' w) o).ccell b 1 hb).trans h.2⟩
theorem Two.drew {w : World} {b : Nat} {x y : Int} (h : Two w b x y) : Two w.drew b x y := by
  obtain ⟨o0, o1⟩ := h
  refine ⟨?_, ?_⟩ <;> simp [World.cell?_drew, o0, o1]
theorem Ext.store2 {w wr : World} {b : Nat} (h : Ext w wr) (hb : w.heap.size ≤ b) (x0 x1 : Int) : Ext w (st2 wr b x0 x1) := Ext.st (Ext.st h hb _) hb _
def sumZ (a v b u p : Int) : Int := v * (b - p) + u * (p - a)
theorem quot_bd {n m M : Int} (h0 : 0 < m) (h1 : -M ≤ n) (h2 : n ≤ M) : -M ≤ n / m ∧ n / m ≤ M := by
  have hM : 0 ≤ M := by omega
  constructor
  · refine Int.le_ediv_of_mul_le h0 ?_
    have := Int.mul_le_mul_of_nonneg_left (show 1 ≤ m by omega) hM
    have e : -M * m = -(M * m) := by grind
    omega
  · have := Int.ediv_lt_of_lt_mul (a := n) (b := M + 1) h0 (by
      have := Int.mul_le_mul_of_nonneg_left (show 1 ≤ m by omega) (show 0 ≤ M + 1 by omega)
      omega)
    omega
set_option maxHeartbeats 1000000 in
theorem onLine_c (a v b u p : Int) (w : World) (ha : -10000000 ≤ a ∧ a ≤ 10000000) (hb : -10000000 ≤ b ∧ b ≤ 10000000) (hp : -10000000 ≤ p ∧ p ≤ 10000000) (hab : a < b)
    (h1 : -1000000000000 ≤ v * (b - p) ∧ v * (b - p) ≤ 1000000000000) (h2 : -1000000000000 ≤ u * (p - a) ∧ u * (p - a) ≤ 1000000000000) :
    Calls Try.prog 88 #[.int .i64 a, .int .i64 v, .int .i64 b, .int .i64 u, .int .i64 p] w
      fun e w' => e = .returned (.agg #[.int .i64 (sumZ a v b u p / (b - a)), .int .i64 (-((-sumZ a v b u p) / (b - a)))]) ∧ Ext w w' := by
  obtain ⟨a0, a1⟩ := ha
  obtain ⟨b0, b1⟩ := hb
  obtain ⟨p0, p1⟩ := hp
  obtain ⟨h3, h4⟩ := h1
  obtain ⟨h5, h6⟩ := h2
  have hd : 0 < b - a := by omega
  have hS : -2000000000000 ≤ sumZ a v b u p ∧ sumZ a v b u p ≤ 2000000000000 := by unfold sumZ; omega
  have q1 := quot_bd hd hS.1 hS.2
  have q2 := quot_bd (n := -sumZ a v b u p) (M := 2000000000000) hd (by omega) (by omega)
  have HQ1 := Lib.hid (fun w => quotient_c (sumZ a v b u p) (b - a) w hd (by omega) (by omega) (by omega))
  have HQ2 := Lib.hid (fun w => quotient_c (-sumZ a v b u p) (b - a) w hd (by omega) (by omega) (by omega))
  generalize hlo : sumZ a v b u p / (b - a) = lo at *
  generalize hhi : (-sumZ a v b u p) / (b - a) = hi at *
  unfold sumZ at HQ1 HQ2
  clear hlo hhi hS
  obtain ⟨q1, q2'⟩ := q1
  obtain ⟨q3, q4⟩ := q2
  go_enter Try.func88, Try.ntmps88
  go_wp2_with (first | (go_at_call 96; with_reducible refine Calls.mono (HQ1.out _) ?_; rintro e w' ⟨rfl, rfl⟩) | (go_at_call 96; with_reducible refine Calls.mono (HQ2.out _) ?_; rintro e w' ⟨rfl, rfl⟩))
  refine bodyPost_ret (v := .agg #[.int .i64 lo, .int .i64 (-hi)]) (by simp [results, Try.results88, go_sem]) rfl ⟨rfl, ?_⟩
  (repeat (first | with_reducible exact Ext.rfl' _ | with_reducible assumption | with_reducible refine Ext.al ?_ _ | with_reducible refine Ext.dr ?_ | with_reducible refine Ext.st ?_ (by simp) _ | with_reducible refine Ext.tr ?_ (by assumption)))

/-! ### What marks give -/
def mOk (l : List Pt) (t : Int) (i : Nat) : Bool := foundB l t i || (decide (0 < i) && decide (i < l.length))
def mN (l : List Pt) (t : Int) (i : Nat) : Int := if foundB l t i then (gt l i).y else sumZ (gt l (i - 1)).x (gt l (i - 1)).y (gt l i).x (gt l i).y t
def mD (l : List Pt) (t : Int) (i : Nat) : Int := if foundB l t i then 1 else (gt l i).x - (gt l (i - 1)).x
def mLo (l : List Pt) (t : Int) (i : Nat) : Int := if mOk l t i then mN l t i / mD l t i else 0
def mHi (l : List Pt) (t : Int) (i : Nat) : Int := if mOk l t i then -((-mN l t i) / mD l t i) else 0
/-- Marks that are valid. -/
structure Good (l : List Pt) : Prop where
  len : l.length ≤ 400
  ok : ∀ i, i < l.length → okM (gt l i) = true
  asc : ∀ i, i + 1 < l.length → (gt l i).x < (gt l (i + 1)).x
theorem okM_iff (p : Pt) : okM p = true ↔ (0 ≤ p.x ∧ p.x ≤ 1000000) ∧ (-20000 ≤ p.y ∧ p.y ≤ 20000) := by simp [okM, withinB]
theorem firstE_zero {f : Nat → Int} : ∀ {n : Nat}, firstE f n = 0 → ∀ i, i < n → f i = 0
  | n + 1, h, i, hi => by
    rw [firstE] at h
    by_cases h0 : firstE f n = 0
    · rw [if_pos h0] at h
      by_cases hin : i = n
      · subst hin; exact h
      · exact firstE_zero h0 i (by omega)
    · rw [if_neg h0] at h; exact absurd h h0
theorem marks_good {l : List Pt} (h : marksE l = 0) : Good l := by
  unfold marksE at h
  by_cases h1 : 400 < l.length
  · rw [if_pos h1] at h; omega
  rw [if_neg h1] at h
  have hz := firstE_zero h
  have hok : ∀ i, i < l.length → okM (gt l i) = true := by
    intro i hi
    have := hz i hi
    unfold errAt at this
    cases ho : okM (gt l i)
    · rw [if_pos ho] at this; omega
    · rfl
  refine ⟨by omega, hok, fun i hi => ?_⟩
  have := hz (i + 1) hi
  unfold errAt at this
  rw [if_neg (by rw [hok _ hi]; decide)] at this
  by_cases hc : (gt l (i + 1)).x ≤ (gt l i).x
  · rw [if_pos ⟨by omega, by rw [Nat.add_sub_cancel]; exact hc⟩] at this; omega
  · omega
theorem Good.lt {l : List Pt} (h : Good l) : ∀ (d a : Nat), a + d + 1 < l.length → (gt l a).x < (gt l (a + d + 1)).x
  | 0, a, hd => h.asc a hd
  | d + 1, a, hd => by
    have h1 := h.lt d a (by omega)
    have h2 := h.asc (a + d + 1) (by omega)
    rw [show a + (d + 1) + 1 = a + d + 1 + 1 by omega]
    omega
theorem Good.sorted {l : List Pt} (h : Good l) {a b : Nat} (hab : a < b) (hb : b < l.length) : (gt l a).x < (gt l b).x := by
  have := h.lt (b - a - 1) a (by omega)
  rwa [show a + (b - a - 1) + 1 = b by omega] at this
theorem pos_some {l : List Pt} (h : Good l) (t : Int) : ∃ i, PosAt l t i := by
  have : ∀ k, k ≤ l.length → ∃ i, i ≤ k ∧ (∀ a, a < i → (gt l a).x < t) ∧ (∀ a, i ≤ a → a < k → t ≤ (gt l a).x) := by
    intro k
    induction k with
    | zero => intro _; exact ⟨0, Nat.le_refl _, fun a ha => by omega, fun a _ ha => by omega⟩
    | succ k ih =>
      intro hk
      obtain ⟨i, h1, h2, h3⟩ := ih (by omega)
      by_cases hc : t ≤ (gt l k).x
      · refine ⟨i, by omega, h2, fun a ha hak => ?_⟩
        by_cases hak2 : a = k
        · subst hak2; exact hc
        · exact h3 a ha (by omega)
      · refine ⟨k + 1, Nat.le_refl _, fun a ha => ?_, fun a ha hak => by omega⟩
        by_cases hak2 : a = k
        · subst hak2; omega
        · have := h.sorted (show a < k by omega) (show k < l.length by omega); omega
  obtain ⟨i, h1, h2, h3⟩ := this l.length (Nat.le_refl _)
  exact ⟨i, h1, h2, h3⟩

set_option maxHeartbeats 4000000 in
theorem meanLevel_c (l : List Pt) (t : Int) (i : Nat) (w : World) (A : Option Addr) (c : Nat) (hG : Good l) (ht : 0 ≤ t ∧ t ≤ 1000000) (hA : Row 2 encP w A l) (hp : PosAt l t i) :
    Calls Try.prog 87 #[.slice A l.length c, .int .i64 t] w
      fun e w' => e = .returned (.tuple #[.agg #[.int .i64 (mLo l t i), .int .i64 (mHi l t i)], .bool (mOk l t i)]) ∧ Ext w w' := by
  have hl : l.length ≤ 1000 := by have := hG.len; omega
  have HS := Lib.hid (fun w' (hw : Ext w w') => search_c l t i w' A c hl (hA.ext hw) hp)
  cases hf : foundB l t i
  · rw [hf] at HS
    by_cases h0 : i = 0
    · have e1 : mOk l t i = false := by unfold mOk; rw [hf, decide_eq_false (show ¬ 0 < i by omega)]; rfl
      have e2 : mLo l t i = 0 := by unfold mLo; rw [e1]; rfl
      have e3 : mHi l t i = 0 := by unfold mHi; rw [e1]; rfl
      rw [e1, e2, e3]
      subst h0
      clear e1 e2 e3 hf
      go_enter Try.func87, Try.ntmps87
      go_wp2_with (first | (go_at_call 94; with_reducible refine Calls.mono (HS.out _ (by (repeat (first | with_reducible exact Ext.rfl' _ | with_reducible assumption | with_reducible refine Ext.al ?_ _ | with_reducible refine Ext.dr ?_ | with_reducible refine Ext.st ?_ (by simp) _ | with_reducible refine Ext.tr ?_ (by assumption))))) ?_; rintro e w1 ⟨rfl, hb⟩; have hc := hb.ccell; have hf := hb.frz; have hs := hb.sz; (try simp at hs); (try have hs0 := hs w.heap.size (by omega)); (try have hs1 := hs (w.heap.size + 1) (by omega)); (try have hs2 := hs (w.heap.size + 1 + 1) (by omega)); (try have hs3 := hs (w.heap.size + 1 + 1 + 1) (by omega))))
      have hE : Ext w w1 := by (repeat (first | with_reducible exact Ext.rfl' _ | with_reducible assumption | with_reducible refine Ext.al ?_ _ | with_reducible refine Ext.dr ?_ | with_reducible refine Ext.st ?_ (by simp) _ | with_reducible refine Ext.tr ?_ (by assumption)))
      have kz : Two w1 w.heap.size 0 0 := by refine ⟨?_, ?_⟩ <;> simp [*, go_sem]
      have hS2 := Two.store (w := w1) (b := w.heap.size) kz (0) (0)
      have hX2 := Ext.store2 (b := w.heap.size) hE (by omega) (0) (0)
      show bodyPost _ _ _ _ _ (st2 w1 (w.heap.size) (0) (0))
      generalize st2 w1 (w.heap.size) (0) (0) = W6 at hS2 hX2 ⊢
      obtain ⟨s0, s1⟩ := hS2
      refine bodyPost_ret (v := .tuple #[.agg #[.int .i64 0, .int .i64 0], .bool false]) (by simp [results, Try.results87, go_sem, s0, s1]) rfl ⟨rfl, hX2⟩
    by_cases hn : i = l.length
    · have e1 : mOk l t i = false := by unfold mOk; rw [hf, decide_eq_false (show ¬ i < l.length by omega), Bool.and_false]; rfl
      have e2 : mLo l t i = 0 := by unfold mLo; rw [e1]; rfl
      have e3 : mHi l t i = 0 := by unfold mHi; rw [e1]; rfl
      rw [e1, e2, e3]
      have hi0 : ¬ (i : Int) = 0 := by omega
      subst hn
      clear e1 e2 e3 hf
      go_enter Try.func87, Try.ntmps87
      go_wp2_with (first | (go_at_call 94; with_reducible refine Calls.mono (HS.out _ (by (repeat (first | with_reducible exact Ext.rfl' _ | with_reducible assumption | with_reducible refine Ext.al ?_ _ | with_reducible refine Ext.dr ?_ | with_reducible refine Ext.st ?_ (by simp) _ | with_reducible refine Ext.tr ?_ (by assumption))))) ?_; rintro e w1 ⟨rfl, hb⟩; have hc := hb.ccell; have hf := hb.frz; have hs := hb.sz; (try simp at hs); (try have hs0 := hs w.heap.size (by omega)); (try have hs1 := hs (w.heap.size + 1) (by omega)); (try have hs2 := hs (w.heap.size + 1 + 1) (by omega)); (try have hs3 := hs (w.heap.size + 1 + 1 + 1) (by omega))))
      have hE : Ext w w1 := by (repeat (first | with_reducible exact Ext.rfl' _ | with_reducible assumption | with_reducible refine Ext.al ?_ _ | with_reducible refine Ext.dr ?_ | with_reducible refine Ext.st ?_ (by simp) _ | with_reducible refine Ext.tr ?_ (by assumption)))
      have kz : Two w1 w.heap.size 0 0 := by refine ⟨?_, ?_⟩ <;> simp [*, go_sem]
      have hS2 := Two.store (w := w1) (b := w.heap.size) kz (0) (0)
      have hX2 := Ext.store2 (b := w.heap.size) hE (by omega) (0) (0)
      show bodyPost _ _ _ _ _ (st2 w1 (w.heap.size) (0) (0))
      generalize st2 w1 (w.heap.size) (0) (0) = W6 at hS2 hX2 ⊢
      obtain ⟨s0, s1⟩ := hS2
      refine bodyPost_ret (v := .tuple #[.agg #[.int .i64 0, .int .i64 0], .bool false]) (by simp [results, Try.results87, go_sem, s0, s1]) rfl ⟨rfl, hX2⟩
    have hil : i < l.length := by have := hp.1; omega
    obtain ⟨j, hj⟩ : ∃ j, i = j + 1 := ⟨i - 1, by omega⟩
    have hjl : j < l.length := by omega
    have e1 : mOk l t i = true := by unfold mOk; rw [hf, decide_eq_true (show 0 < i by omega), decide_eq_true hil]; rfl
    have gi := gt_lt l i hil
    have gj := gt_lt l j hjl
    have oi := (okM_iff _).1 (hG.ok i hil)
    have oj := (okM_iff _).1 (hG.ok j hjl)
    have hasc := hG.asc j (by omega)
    rw [← hj] at hasc
    rw [gi] at oi
    rw [gj] at oj
    rw [gi, gj] at hasc
    have b1 := mul_bound (x := l[j].y) (y := l[i].x - t) (M := 20000) (N := 1000000) (by omega) (by omega) (by omega) (by omega)
    have b2 := mul_bound (x := l[i].y) (y := t - l[j].x) (M := 20000) (N := 1000000) (by omega) (by omega) (by omega) (by omega)
    have HL := Lib.hid (fun w => onLine_c l[j].x l[j].y l[i].x l[i].y t w (by omega) (by omega) (by omega) hasc (by omega) (by omega))
    have e2 : mLo l t i = sumZ l[j].x l[j].y l[i].x l[i].y t / (l[i].x - l[j].x) := by unfold mLo mN mD; rw [e1, hf, show i - 1 = j by omega, gi, gj]; rfl
    have e3 : mHi l t i = -((-sumZ l[j].x l[j].y l[i].x l[i].y t) / (l[i].x - l[j].x)) := by unfold mHi mN mD; rw [e1, hf, show i - 1 = j by omega, gi, gj]; rfl
    rw [e1, e2, e3]
    generalize sumZ l[j].x l[j].y l[i].x l[i].y t / (l[i].x - l[j].x) = lo at *
    generalize -((-sumZ l[j].x l[j].y l[i].x l[i].y t) / (l[i].x - l[j].x)) = hi at *
    have hi0 : ((i : Int) == 0) = false := by rw [beq_eq_false_iff_ne]; omega
    have hin : ((i : Int) == (l.length : Int)) = false := by rw [beq_eq_false_iff_ne]; omega
    have hj1 : IntKind.i64.wrap ((i : Int) - 1) = (j : Int) := by rw [i64_in _ (by omega)]; omega
    have HJ := Lib.hid hj
    obtain ⟨b, off, rfl, hb0, hcell⟩ := hA.p2 hil
    have hcj := hA.r2 hjl
    have hilz : (i : Int) < (l.length : Int) := by omega
    have hjlz : (j : Int) < (l.length : Int) := by omega
    clear e1 e2 e3 hf gi gj oi oj hasc b1 b2 h0 hn hj
    go_enter Try.func87, Try.ntmps87
    go_wp2_with (first | (go_at_call 94; with_reducible refine Calls.mono (HS.out _ (by (repeat (first | with_reducible exact Ext.rfl' _ | with_reducible assumption | with_reducible refine Ext.al ?_ _ | with_reducible refine Ext.dr ?_ | with_reducible refine Ext.st ?_ (by simp) _ | with_reducible refine Ext.tr ?_ (by assumption))))) ?_; rintro e w1 ⟨rfl, hb⟩; have hc := hb.ccell; have hf := hb.frz; have hs := hb.sz; (try simp at hs); (try have hs0 := hs w.heap.size (by omega)); (try have hs1 := hs (w.heap.size + 1) (by omega)); (try have hs2 := hs (w.heap.size + 1 + 1) (by omega)); (try have hs3 := hs (w.heap.size + 1 + 1 + 1) (by omega))))
    have hE : Ext w w1 := by (repeat (first | with_reducible exact Ext.rfl' _ | with_reducible assumption | with_reducible refine Ext.al ?_ _ | with_reducible refine Ext.dr ?_ | with_reducible refine Ext.st ?_ (by simp) _ | with_reducible refine Ext.tr ?_ (by assumption)))
    have kz : Two w1 w.heap.size 0 0 := by refine ⟨?_, ?_⟩ <;> simp [*, go_sem]
    have fz : ∀ o, w1.frozen? ⟨w.heap.size, o, none⟩ = false := by intro o; simp [*, go_sem]
    have c1 := hcell _ hE
    have c2 := hcj _ hE
    have tb := hE.sz _ hb0
    have KZ := Lib.hid kz
    have FZ := Lib.hid fz
    clear hcell hcj kz fz
    have hEw := Lib.hid hE
    clear hE hb hc hf hs hs0 HS hp ht
    go_cut [8, 9] (fun s3 s4 wx => ∃ b2 b3 : Nat, s3 = .pointer (some ⟨b2, 0, none⟩) ∧ s4 = .pointer (some ⟨b3, 0, none⟩) ∧ Ext w1 wx ∧ (b2 < wx.heap.size ∧ b3 < wx.heap.size) ∧
      (wx.cell? ⟨b2, 0, none⟩ = some (.int .i64 l[j].x) ∧ wx.cell? ⟨b2, 1, none⟩ = some (.int .i64 l[j].y)) ∧ (wx.cell? ⟨b3, 0, none⟩ = some (.int .i64 l[i].x) ∧ wx.cell? ⟨b3, 1, none⟩ = some (.int .i64 l[i].y)))
    case first =>
      go_region_held3 (fun w' => (∀ j : Nat, w'.cell? ⟨b, j, none⟩ = w1.cell? ⟨b, j, none⟩)) ((intro j; (repeat (first | with_reducible rfl | (exact (by assumption : ∀ j : Nat, _) j) | rw [World.cell?_drew] | rw [World.cell?_alloc_past _ _ _ (by first | omega | (simp; omega) | (simp; done))] | rw [World.cell?_setCell_far _ _ _ _ (by first | omega | (simp; omega) | (simp; done))])))) (fail)
      all_goals
        rename_i hJ hK h1 h2 hH
        clear hH c1 c2
        refine h2 _ _ (Met.intro (h1 _ _ ?_))
        (repeat apply Exists.intro)
        refine ⟨?_, rfl⟩
        refine ⟨_, _, rfl, rfl, ?_, ⟨?_, ?_⟩, ?_⟩
        all_goals first | ((repeat (first | with_reducible exact Ext.rfl' _ | with_reducible assumption | with_reducible refine Ext.al ?_ _ | with_reducible refine Ext.dr ?_ | with_reducible refine Ext.st ?_ (by simp) _ | with_reducible refine Ext.tr ?_ (by assumption))); done) | (simp; done) | (simp; omega) | (simp [go_sem]; done) | (simp [World.cell?_alloc_past, World.cell?_alloc_new, go_sem]; done)
    case rest =>
      obtain ⟨b2, b3, rfl, rfl, hx, ⟨hb2, hb3⟩, ⟨m4, m5⟩, ⟨m6, m7⟩⟩ := hcut
      have hz0 : w.heap.size < w1.heap.size := World.block_lt_of_cell? w1 ⟨w.heap.size, 0, none⟩ KZ.out.1
      have y0 := (hx.ccell _ 0 hz0).trans KZ.out.1
      have y1 := (hx.ccell _ 1 hz0).trans KZ.out.2
      have yf := fun o => (hx.frz _ o hz0).trans (FZ.out o)
      have hzx := hx.sz _ hz0
      have hEx : Ext w wc := hEw.out.tr hx
      clear c1 c2
      go_wp2_with (first | (go_at_call 88; with_reducible refine Calls.mono (HL.out _) ?_; rintro e w1 ⟨rfl, hb⟩; have hc := hb.ccell; have hf := hb.frz; have hs := hb.sz; (try simp at hs); (try have hs0 := hs w.heap.size (by omega)); (try have hs1 := hs (w.heap.size + 1) (by omega)); (try have hs2 := hs (w.heap.size + 1 + 1) (by omega)); (try have hs3 := hs (w.heap.size + 1 + 1 + 1) (by omega))))
      have kz : Two w1 w.heap.size 0 0 := ⟨(hb.ccell _ 0 hzx).trans y0, (hb.ccell _ 1 hzx).trans y1⟩
      have hE : Ext w w1 := hEx.tr hb
      have hS2 := Two.store (w := w1) (b := w.heap.size) kz (lo) (hi)
      have hX2 := Ext.store2 (b := w.heap.size) hE (by omega) (lo) (hi)
      show bodyPost _ _ _ _ _ (st2 w1 (w.heap.size) (lo) (hi))
      generalize st2 w1 (w.heap.size) (lo) (hi) = W6 at hS2 hX2 ⊢
      obtain ⟨s0, s1⟩ := hS2
      refine bodyPost_ret (v := .tuple #[.agg #[.int .i64 lo, .int .i64 hi], .bool true]) (by simp [results, Try.results87, go_sem, s0, s1]) rfl ⟨rfl, hX2⟩
  · rw [hf] at HS
    have hil : i < l.length := by
      unfold foundB at hf
      rw [Bool.and_eq_true] at hf
      exact of_decide_eq_true hf.1
    have gi := gt_lt l i hil
    have e1 : mOk l t i = true := by unfold mOk; rw [hf]; rfl
    have e2 : mLo l t i = l[i].y := by unfold mLo mN mD; rw [e1, hf, gi]; simp
    have e3 : mHi l t i = l[i].y := by unfold mHi mN mD; rw [e1, hf, gi]; simp
    rw [e1, e2, e3]
    obtain ⟨b, off, rfl, hb0, hcell⟩ := hA.p2 hil
    clear e1 e2 e3 hf gi
    go_enter Try.func87, Try.ntmps87
    go_wp2_with (first | (go_at_call 94; with_reducible refine Calls.mono (HS.out _ (by (repeat (first | with_reducible exact Ext.rfl' _ | with_reducible assumption | with_reducible refine Ext.al ?_ _ | with_reducible refine Ext.dr ?_ | with_reducible refine Ext.st ?_ (by simp) _ | with_reducible refine Ext.tr ?_ (by assumption))))) ?_; rintro e w1 ⟨rfl, hb⟩; have hc := hb.ccell; have hf := hb.frz; have hs := hb.sz; (try simp at hs); (try have hs0 := hs w.heap.size (by omega)); (try have hs1 := hs (w.heap.size + 1) (by omega)); (try have hs2 := hs (w.heap.size + 1 + 1) (by omega)); (try have hs3 := hs (w.heap.size + 1 + 1 + 1) (by omega))))
    have hE : Ext w w1 := by (repeat (first | with_reducible exact Ext.rfl' _ | with_reducible assumption | with_reducible refine Ext.al ?_ _ | with_reducible refine Ext.dr ?_ | with_reducible refine Ext.st ?_ (by simp) _ | with_reducible refine Ext.tr ?_ (by assumption)))
    have kz : Two w1 w.heap.size 0 0 := by refine ⟨?_, ?_⟩ <;> simp [*, go_sem]
    have fz : ∀ o, w1.frozen? ⟨w.heap.size, o, none⟩ = false := by intro o; simp [*, go_sem]
    have c1 := hcell _ hE
    have tb := hE.sz _ hb0
    have KZ := Lib.hid kz
    obtain ⟨y0, y1⟩ := kz
    have hEw := Lib.hid hE
    clear hcell hE hb hc hf hs HS
    go_region
    go_wp2
    have hE := hEw.out
    have hS2 := (Two.store (w := w1) (b := w.heap.size) KZ.out (l[i].y) (l[i].y)).drew
    have hX2 := Ext.dr (Ext.store2 (b := w.heap.size) hE (by omega) (l[i].y) (l[i].y))
    show bodyPost _ _ _ _ _ (st2 w1 (w.heap.size) (l[i].y) (l[i].y)).drew
    generalize (st2 w1 (w.heap.size) (l[i].y) (l[i].y)).drew = W6 at hS2 hX2 ⊢
    obtain ⟨s0, s1⟩ := hS2
    refine bodyPost_ret (v := .tuple #[.agg #[.int .i64 l[i].y, .int .i64 l[i].y], .bool true]) (by simp [results, Try.results87, go_sem, s0, s1]) rfl ⟨rfl, hX2⟩
end Go.Proofs.Ytmhmfjgahhgbpaa

/- Contracts of Span and of the reference's Span. -/
import Derived.Test.YtblmljcgjibfgaaTview
import Derived.Test.YtblmljcgjibfgaaTreflev
namespace Go.Proofs.Ytblmljcgjibfgaa
open Go Go.RowKit Go.IntWalk

/-- A level at a minute. -/
def IsLV (gs : List Ga) (x m : Int) (r : Int × Int × Bool) : Prop := ∃ i P, PosG gs x i ∧ (∀ k, k < gs.length → PosAt (gg gs k).l m (P k)) ∧ plV gs x m P i = r
theorem lv_some {gs : List Ga} (hG : GoodL gs) (x m : Int) : ∃ r, IsLV gs x m r := by
  obtain ⟨i, hp⟩ := posG_some hG x
  obtain ⟨P, hP⟩ := pos_all hG m
  exact ⟨_, i, P, hp, hP, rfl⟩
theorem lv_all {gs : List Ga} (hG : GoodL gs) (x : Int) : ∃ V : Int → Int × Int × Bool, ∀ m, IsLV gs x m (V m) :=
  ⟨fun m => Classical.choose (lv_some hG x m), fun m => Classical.choose_spec (lv_some hG x m)⟩
theorem IsLV.no {gs : List Ga} {x m : Int} {r : Int × Int × Bool} (h : IsLV gs x m r) (h2 : r.2.2 = false) : r = (0, 0, false) := by
  obtain ⟨i, P, _, _, rfl⟩ := h
  exact plV_no h2
theorem place_v {gs : List Ga} {x m : Int} {r : Int × Int × Bool} (h : IsLV gs x m r) (w : World) (A : Option Addr) (c : Nat) (hG : GoodL gs) (hx : -1000000 ≤ x ∧ x ≤ 1000000) (ht : 0 ≤ m ∧ m ≤ 1000000) (hA : Row 4 encG w A gs) (hM : Marks w gs) :
    Calls Try.prog 70 #[.slice A gs.length c, .int .i64 x, .int .i64 m] w
      fun e w' => e = .returned (.tuple #[.agg #[.int .i64 r.1, .int .i64 r.2.1], .bool r.2.2]) ∧ Ext w w' := by
  obtain ⟨i, P, hp, hP, rfl⟩ := h
  exact placeLevel_c gs x m P i w A c hG hx ht hA hM hp hP
theorem rplace_v {gs : List Ga} {x m : Int} {r : Int × Int × Bool} (h : IsLV gs x m r) (w : World) (A : Option Addr) (c : Nat) (hG : GoodL gs) (hx : -1000000 ≤ x ∧ x ≤ 1000000) (ht : 0 ≤ m ∧ m ≤ 1000000) (hA : Row 4 encG w A gs) (hM : Marks w gs) :
    Calls Try.prog 26 #[.slice A gs.length c, .int .i64 x, .int .i64 m] w
      fun e w' => e = .returned (.tuple #[.agg #[.int .i64 r.1, .int .i64 r.2.1], .bool r.2.2]) ∧ Ext w w' := by
  obtain ⟨i, P, hp, hP, rfl⟩ := h
  exact rlevel_c gs x m P i w A c hG hx ht hA hM hp hP
def spLo (V : Int → Int × Int × Bool) (f : Int) : Nat → Int
  | 0 => (V f).1
  | j + 1 => min (spLo V f j) (V (f + ((j + 1 : Nat) : Int))).1
def spHi (V : Int → Int × Int × Bool) (f : Int) : Nat → Int
  | 0 => (V f).2.1
  | j + 1 => max (spHi V f j) (V (f + ((j + 1 : Nat) : Int))).2.1
def unk (V : Int → Int × Int × Bool) (f : Int) (j : Nat) : Bool := !(V (f + (j : Int))).2.2
def spanV (V : Int → Int × Int × Bool) (f : Int) (d : Nat) : Int × Int × Bool := if anyN (unk V f) (d + 1) then (0, 0, false) else (spLo V f d, spHi V f d, true)
theorem view_parts {gs : List Ga} {x f t : Int} (h : viewE gs x f t = 0) : GoodL gs ∧ (-1000000 ≤ x ∧ x ≤ 1000000) ∧ (0 ≤ f ∧ f ≤ t ∧ t ≤ 1000000) := by
  unfold viewE at h
  by_cases h0 : gausE gs = 0
  · rw [if_neg (by rw [h0]; simp)] at h
    cases hx : withinB x (-1000000) 1000000
    · rw [if_pos hx] at h; omega
    rw [if_neg (by rw [hx]; decide)] at h
    unfold winE at h
    by_cases hw : f < 0 ∨ t < f ∨ 1000000 < t ∨ 3000 < t - f
    · rw [if_pos hw] at h; omega
    · exact ⟨gaus_good h0, by unfold withinB at hx; simpa using hx, by omega⟩
  · rw [if_pos h0] at h; exact absurd h h0
/-- The world of Span's loop: the window, a blank result, the least and the greatest level so far. -/
structure SpW (w wr : World) (bo : Nat) (f t lo hi : Int) : Prop where
  ext : Ext w wr
  par : Two wr w.heap.size f t
  res : Two wr (w.heap.size + 1) 0 0
  out : Two wr bo lo hi
  fres : ∀ o, wr.frozen? ⟨w.heap.size + 1, o, none⟩ = false
  fout : ∀ o, wr.frozen? ⟨bo, o, none⟩ = false
  zres : w.heap.size + 1 < wr.heap.size
  zout : bo < wr.heap.size
theorem ite_min (a b : Int) : (if b < a then b else a) = min a b := by split <;> omega
theorem ite_max (a b : Int) : (if a < b then b else a) = max a b := by split <;> omega
theorem fold_next (V : Int → Int × Int × Bool) (f : Int) (j : Nat) : spLo V f j = min (spLo V f (j - 1)) (V (f + (j : Int))).1 ∧ spHi V f j = max (spHi V f (j - 1)) (V (f + (j : Int))).2.1 := by
  cases j with
  | zero => constructor <;> simp [spLo, spHi]
  | succ j => exact ⟨rfl, rfl⟩
theorem SpW.next {w wr w3 : World} {bo : Nat} {f t lo hi : Int} (h : SpW w wr bo f t lo hi) (hX : Ext w w3) (hX2 : Ext wr w3) (hb : w.heap.size + 1 < bo) (hz : wr.heap.size < w3.heap.size) (v0 v1 lo' hi' : Int) :
    SpW w ((((w3.setCell ⟨wr.heap.size, 0, none⟩ (.int .i64 v0)).setCell ⟨wr.heap.size, 1, none⟩ (.int .i64 v1)).setCell ⟨bo, 0, none⟩ (.int .i64 lo')).setCell ⟨bo, 1, none⟩ (.int .i64 hi')) bo f t lo' hi' := by
  have h0 : w.heap.size ≤ wr.heap.size := by have := h.zres; omega
  have c0 := (hX2.ccell bo 0 h.zout).trans h.out.1
  have c1 := (hX2.ccell bo 1 h.zout).trans h.out.2
  have zr := h.zres
  have zo := h.zout
  have p0 := (hX2.ccell w.heap.size 0 (by omega)).trans h.par.1
  have p1 := (hX2.ccell w.heap.size 1 (by omega)).trans h.par.2
  have q0 := (hX2.ccell (w.heap.size + 1) 0 zr).trans h.res.1
  have q1 := (hX2.ccell (w.heap.size + 1) 1 zr).trans h.res.2
  have fq := fun o => (hX2.frz (w.heap.size + 1) o zr).trans (h.fres o)
  have fo := fun o => (hX2.frz bo o zo).trans (h.fout o)
  have n1 : bo ≠ wr.heap.size := by omega
  have n2 : w.heap.size ≠ wr.heap.size := by omega
  have n3 : w.heap.size + 1 ≠ wr.heap.size := by omega
  have n4 : w.heap.size ≠ bo := by omega
  have n5 : w.heap.size + 1 ≠ bo := by omega
  refine ⟨Ext.st (Ext.st (Ext.st (Ext.st hX h0 _) h0 _) (by show w.heap.size ≤ bo; omega) _) (by show w.heap.size ≤ bo; omega) _, ⟨?_, ?_⟩, ⟨?_, ?_⟩, ⟨?_, ?_⟩, fun o => ?_, fun o => ?_, ?_, ?_⟩
  all_goals first | (simp [go_sem, *]; done) | (simp; omega)
set_option maxHeartbeats 4000000 in
theorem span_no_c (gs : List Ga) (x f t : Int) (w : World) (A : Option Addr) (c : Nat) (hl : gs.length ≤ 1000) (hc : gs.length ≤ c) (hA : Row 4 encG w A gs) (hM : Marks w gs) (h0 : viewE gs x f t ≠ 0) :
    Calls Try.prog 28 #[.slice A gs.length c, .int .i64 x, .agg #[.int .i64 f, .int .i64 t]] w
      fun e w' => e = .returned (.tuple #[.agg #[.int .i64 0, .int .i64 0], .int .i64 (viewE gs x f t)]) ∧ Ext w w' := by
  have HC := Lib.hid (fun w' (hw : Ext w w') => checkLook_c gs x f t w' A c hl hc (hA.ext hw) (hM.ext hw))
  generalize viewE gs x f t = r at *
  have h' : (r == 0) = false := by simp [h0]
  go_enter Try.func28, Try.ntmps28
  go_wp2_with (first | (go_at_call 72; with_reducible refine Calls.mono (HC.out _ (by (repeat (first | with_reducible exact Ext.rfl' _ | with_reducible assumption | with_reducible refine Ext.al ?_ _ | with_reducible refine Ext.dr ?_ | with_reducible refine Ext.st ?_ (by simp) _ | with_reducible refine Ext.tr ?_ (by assumption))))) ?_; rintro e w1 ⟨rfl, hb⟩; have hc := hb.ccell; have hf := hb.frz; have hs := hb.sz; (try simp at hs); (try have hs0 := hs w.heap.size (by omega)); (try have hs1 := hs (w.heap.size + 1) (by omega)); (try have hs2 := hs (w.heap.size + 1 + 1) (by omega)); (try have hs3 := hs (w.heap.size + 1 + 1 + 1) (by omega))))
  have hE : Ext w w1 := by (repeat (first | with_reducible exact Ext.rfl' _ | with_reducible assumption | with_reducible refine Ext.al ?_ _ | with_reducible refine Ext.dr ?_ | with_reducible refine Ext.st ?_ (by simp) _ | with_reducible refine Ext.tr ?_ (by assumption)))
  have kz : Two w1 (w.heap.size + 1) 0 0 := by refine ⟨?_, ?_⟩ <;> simp [*, go_sem]
  have hS2 := Two.store (w := w1) (b := w.heap.size + 1) kz (0) (0)
  have hX2 := Ext.store2 (b := w.heap.size + 1) hE (by omega) (0) (0)
  show bodyPost _ _ _ _ _ (st2 w1 (w.heap.size + 1) (0) (0))
  generalize st2 w1 (w.heap.size + 1) (0) (0) = W6 at hS2 hX2 ⊢
  obtain ⟨s0, s1⟩ := hS2
  refine bodyPost_ret (v := .tuple #[.agg #[.int .i64 0, .int .i64 0], .int .i64 r]) (by simp [results, Try.results28, go_sem, s0, s1]) rfl ⟨rfl, hX2⟩
set_option maxHeartbeats 4000000 in
theorem span_c (gs : List Ga) (x f : Int) (d : Nat) (V : Int → Int × Int × Bool) (w : World) (A : Option Addr) (c : Nat) (hl : gs.length ≤ 1000) (hc : gs.length ≤ c) (hA : Row 4 encG w A gs) (hM : Marks w gs) (h0 : viewE gs x f (f + d) = 0) (hV : ∀ m, IsLV gs x m (V m)) :
    Calls Try.prog 28 #[.slice A gs.length c, .int .i64 x, .agg #[.int .i64 f, .int .i64 (f + d)]] w
      fun e w' => e = .returned (.tuple #[.agg #[.int .i64 (spanV V f d).1, .int .i64 (spanV V f d).2.1], .int .i64 (if (spanV V f d).2.2 then 0 else 11)]) ∧ Ext w w' := by
  have HC := Lib.hid (fun w' (hw : Ext w w') => checkLook_c gs x f (f + d) w' A c hl hc (hA.ext hw) (hM.ext hw))
  rw [h0] at HC
  obtain ⟨hG, hx, f0, f1, f2⟩ := view_parts h0
  have HPL := Lib.hid (fun m (hm : 0 ≤ m ∧ m ≤ 1000000) w' (hw : Ext w w') => place_v (hV m) w' A c hG hx hm (hA.ext hw) (hM.ext hw))
  have HNO := Lib.hid (fun m => (hV m).no)
  obtain ⟨⟨R0, R1, R2⟩, hR⟩ : ∃ R, spanV V f d = R := ⟨_, rfl⟩
  rw [hR]
  have HR := Lib.hid hR
  dsimp only
  clear h0 hV hG hR
  go_enter Try.func28, Try.ntmps28
  go_wp2_with (first | (go_at_call 72; with_reducible refine Calls.mono (HC.out _ (by (repeat (first | with_reducible exact Ext.rfl' _ | with_reducible assumption | with_reducible refine Ext.al ?_ _ | with_reducible refine Ext.dr ?_ | with_reducible refine Ext.st ?_ (by simp) _ | with_reducible refine Ext.tr ?_ (by assumption))))) ?_; rintro e w1 ⟨rfl, hb⟩; have hc := hb.ccell; have hf := hb.frz; have hs := hb.sz; (try simp at hs); (try have t0 := hs (w.heap.size) (by first | assumption | omega)); (try have t1 := hs (w.heap.size + 1) (by first | assumption | omega)); (try have t2 := hs (w.heap.size) (by first | assumption | omega)); (try have t3 := hs (w.heap.size) (by first | assumption | omega)); (try have t4 := hs (w.heap.size) (by first | assumption | omega)); (try have t5 := hs (w.heap.size) (by first | assumption | omega))) | (go_at_call 70; with_reducible refine Calls.mono (HPL.out f (by omega) _ (by (repeat (first | with_reducible exact Ext.rfl' _ | with_reducible assumption | with_reducible refine Ext.al ?_ _ | with_reducible refine Ext.dr ?_ | with_reducible refine Ext.st ?_ (by simp) _ | with_reducible refine Ext.tr ?_ (by assumption))))) ?_; rintro e w2 ⟨rfl, hb⟩; have hc := hb.ccell; have hf := hb.frz; have hs := hb.sz; (try simp at hs); (try have t0 := hs (w.heap.size) (by first | assumption | omega)); (try have t1 := hs (w.heap.size + 1) (by first | assumption | omega)); (try have t2 := hs (w.heap.size) (by first | assumption | omega)); (try have t3 := hs (w.heap.size) (by first | assumption | omega)); (try have t4 := hs (w.heap.size) (by first | assumption | omega)); (try have t5 := hs (w.heap.size) (by first | assumption | omega))))
  have hE2 : Ext w w2 := by (repeat (first | with_reducible exact Ext.rfl' _ | with_reducible assumption | with_reducible refine Ext.al ?_ _ | with_reducible refine Ext.dr ?_ | with_reducible refine Ext.st ?_ (by simp) _ | with_reducible refine Ext.tr ?_ (by assumption)))
  have kp : Two w2 w.heap.size f (f + d) := by refine ⟨?_, ?_⟩ <;> simp [*, go_sem]
  have kz : Two w2 (w.heap.size + 1) 0 0 := by refine ⟨?_, ?_⟩ <;> simp [*, go_sem]
  have fz : ∀ o, w2.frozen? ⟨w.heap.size + 1, o, none⟩ = false := by intro o; simp [*, go_sem]
  have z1 : w.heap.size + 1 < w2.heap.size := by omega
  have z0 : w.heap.size < w2.heap.size := by omega
  clear hb hc hf hs HC
  have hE3 : Ext w2 (w2.alloc (.cells #[.int .i64 (V f).1, .int .i64 (V f).2.1] 28)) := by (repeat (first | with_reducible exact Ext.rfl' _ | with_reducible assumption | with_reducible refine Ext.al ?_ _ | with_reducible refine Ext.dr ?_ | with_reducible refine Ext.st ?_ (by simp) _ | with_reducible refine Ext.tr ?_ (by assumption)))
  have ko : Two (w2.alloc (.cells #[.int .i64 (V f).1, .int .i64 (V f).2.1] 28)) w2.heap.size (V f).1 (V f).2.1 := by refine ⟨?_, ?_⟩ <;> simp [go_sem]
  have fo : ∀ o, (w2.alloc (.cells #[.int .i64 (V f).1, .int .i64 (V f).2.1] 28)).frozen? ⟨w2.heap.size, o, none⟩ = false := by intro o; simp [go_sem]
  have zo : w2.heap.size < (w2.alloc (.cells #[.int .i64 (V f).1, .int .i64 (V f).2.1] 28)).heap.size := by simp
  generalize w2.alloc (.cells #[.int .i64 (V f).1, .int .i64 (V f).2.1] 28) = wp at *
  have Hp : SpW w wp w2.heap.size f (f + d) (V f).1 (V f).2.1 :=
    ⟨hE2.tr hE3, ⟨(hE3.ccell _ 0 z0).trans kp.1, (hE3.ccell _ 1 z0).trans kp.2⟩, ⟨(hE3.ccell _ 0 z1).trans kz.1, (hE3.ccell _ 1 z1).trans kz.2⟩, ko, fun o => (hE3.frz _ o z1).trans (fz o), fo, hE3.sz _ z1, zo⟩
  have HZB := Lib.hid z1
  clear hE2 kp kz fz ko fo zo hE3 z0
  go_loopw [10, 11, 12] (fun kb m _ wr => ∃ j : Nat, j ≤ d + 1 ∧ m = .int .i64 (f + (j : Int)) ∧ ((kb = .bool true ∧ Hid (anyN (unk V f) j = false) ∧ SpW w wr w2.heap.size f (f + d) (spLo V f (j - 1)) (spHi V f (j - 1))) ∨ (kb = .bool false ∧ Hid (anyN (unk V f) (d + 1) = true) ∧ ∃ a b, SpW w wr w2.heap.size f (f + d) a b))) (fun _ m _ _ => d + 2 - (intOf m - f).toNat)
  case atStart =>
    refine ⟨0, Nat.zero_le _, by simp, ?_⟩
    cases hk : (V f).2.2
    · right
      refine ⟨rfl, ?_, _, _, Hp⟩
      exact anyN_at (unk V f) (show 0 < d + 1 by omega) (by unfold unk; rw [show f + ((0 : Nat) : Int) = f by simp, hk]; rfl)
    · left
      exact ⟨rfl, rfl, Hp⟩
  case round =>
    clear Hp
    obtain ⟨j, hj, rfl, hrel⟩ := hrel
    rcases hrel with ⟨rfl, hN, hW⟩ | ⟨rfl, hN, a, b, hW⟩
    · obtain ⟨hE, ⟨p0, p1⟩, ⟨q0, q1⟩, ⟨o0, o1⟩, fq, fo, zq, zo⟩ := hW
      have HWR := Lib.hid (show SpW w wr w2.heap.size f (f + d) (spLo V f (j - 1)) (spHi V f (j - 1)) from ⟨hE, ⟨p0, p1⟩, ⟨q0, q1⟩, ⟨o0, o1⟩, fq, fo, zq, zo⟩)
      have zp : w.heap.size < wr.heap.size := by omega
      by_cases hlt : j ≤ d
      · have hle : f + (j : Int) ≤ f + (d : Int) := by omega
        have HP2 := Lib.hid (fun w' (hw : Ext w w') => HPL.out (f + (j : Int)) (by omega) w' hw)
        cases hk : (V (f + (j : Int))).2.2
        · have hno := HNO.out _ hk
          rw [hno] at HP2
          have HU := Lib.hid (show anyN (unk V f) (d + 1) = true from anyN_at (unk V f) (show j < d + 1 by omega) (by unfold unk; rw [hk]; rfl))
          clear hno hk
          go_wp2_with (first | (go_at_call 70; with_reducible refine Calls.mono (HP2.out _ (by (repeat (first | with_reducible exact Ext.rfl' _ | with_reducible assumption | with_reducible refine Ext.al ?_ _ | with_reducible refine Ext.dr ?_ | with_reducible refine Ext.st ?_ (by simp) _ | with_reducible refine Ext.tr ?_ (by assumption))))) ?_; rintro e w3 ⟨rfl, hb⟩; have hc := hb.ccell; have hf := hb.frz; have hs := hb.sz; (try simp at hs); (try have t0 := hs (w.heap.size) (by first | assumption | omega)); (try have t1 := hs (w.heap.size + 1) (by first | assumption | omega)); (try have t2 := hs (w2.heap.size) (by first | assumption | omega)); (try have t3 := hs (wr.heap.size) (by first | assumption | omega)); (try have t4 := hs (wr.heap.size) (by first | assumption | omega)); (try have t5 := hs (wr.heap.size) (by first | assumption | omega))))
          have hW := HWR.out
          have hX2 : Ext wr w3 := (Ext.al (Ext.rfl' wr) _).tr hb
          have hX : Ext w w3 := hE.tr hX2
          refine ⟨⟨j + 1, by omega, by go_num, .inr ⟨rfl, HU, _, _, SpW.next hW hX hX2 HZB.out t3 0 0 _ _⟩⟩, by simp [intOf]; omega⟩
        · have HU := Lib.hid (show unk V f j = false by unfold unk; rw [hk]; rfl)
          have hm := fold_next V f j
          rw [hk] at HP2
          clear hk
          obtain ⟨r0, hr0⟩ : ∃ r, (V (f + (j : Int))).1 = r := ⟨_, rfl⟩
          obtain ⟨r1, hr1⟩ : ∃ r, (V (f + (j : Int))).2.1 = r := ⟨_, rfl⟩
          rw [hr0, hr1] at HP2
          rw [hr0, hr1] at hm
          have HM := Lib.hid hm
          clear hr0 hr1 hm
          generalize spLo V f (j - 1) = lo at *
          generalize spHi V f (j - 1) = hi at *
          go_wp2_with (first | (go_at_call 70; with_reducible refine Calls.mono (HP2.out _ (by (repeat (first | with_reducible exact Ext.rfl' _ | with_reducible assumption | with_reducible refine Ext.al ?_ _ | with_reducible refine Ext.dr ?_ | with_reducible refine Ext.st ?_ (by simp) _ | with_reducible refine Ext.tr ?_ (by assumption))))) ?_; rintro e w3 ⟨rfl, hb⟩; have hc := hb.ccell; have hf := hb.frz; have hs := hb.sz; (try simp at hs); (try have t0 := hs (w.heap.size) (by first | assumption | omega)); (try have t1 := hs (w.heap.size + 1) (by first | assumption | omega)); (try have t2 := hs (w2.heap.size) (by first | assumption | omega)); (try have t3 := hs (wr.heap.size) (by first | assumption | omega)); (try have t4 := hs (wr.heap.size) (by first | assumption | omega)); (try have t5 := hs (wr.heap.size) (by first | assumption | omega))))
          have hW := HWR.out
          have hX2 : Ext wr w3 := (Ext.al (Ext.rfl' wr) _).tr hb
          have hX : Ext w w3 := hE.tr hX2
          refine ⟨⟨j + 1, by omega, by go_num, .inl ⟨rfl, (by show anyN _ (j + 1) = false; rw [anyN, hN.out, HU.out]; rfl), ?_⟩⟩, by simp [intOf]; omega⟩
          rw [Nat.add_sub_cancel, HM.out.1, HM.out.2, ite_min, ite_max]
          exact SpW.next hW hX hX2 HZB.out t3 _ _ _ _
      · have hjd : j = d + 1 := by omega
        subst hjd
        have hle : ¬ f + ((d + 1 : Nat) : Int) ≤ f + (d : Int) := by omega
        have hs0 : spanV V f d = (spLo V f d, spHi V f d, true) := by unfold spanV; rw [if_neg (by rw [hN.out]; decide)]
        rw [Nat.add_sub_cancel] at o0 o1 HWR
        have hs1 := HR.out.symm.trans hs0
        injection hs1 with e1 e2
        injection e2 with e2 e3
        subst e1 e2 e3
        clear hs0 hlt
        go_wp2
        have hW := HWR.out
        have hE2 := hW.ext
        have kz := hW.res
        have hS2 := Two.store (w := wr) (b := w.heap.size + 1) kz (spLo V f d) (spHi V f d)
        have hX2 := Ext.store2 (b := w.heap.size + 1) hE2 (by omega) (spLo V f d) (spHi V f d)
        show bodyPost _ _ _ _ _ (st2 wr (w.heap.size + 1) (spLo V f d) (spHi V f d))
        generalize st2 wr (w.heap.size + 1) (spLo V f d) (spHi V f d) = W6 at hS2 hX2 ⊢
        obtain ⟨s0, s1⟩ := hS2
        refine bodyPost_ret (v := .tuple #[.agg #[.int .i64 (spLo V f d), .int .i64 (spHi V f d)], .int .i64 0]) (by simp [results, Try.results28, go_sem, s0, s1]) rfl ⟨rfl, hX2⟩
    · obtain ⟨hE, ⟨p0, p1⟩, ⟨q0, q1⟩, ⟨o0, o1⟩, fq, fo, zq, zo⟩ := hW
      have HWR := Lib.hid (show SpW w wr w2.heap.size f (f + d) a b from ⟨hE, ⟨p0, p1⟩, ⟨q0, q1⟩, ⟨o0, o1⟩, fq, fo, zq, zo⟩)
      have hs0 : spanV V f d = (0, 0, false) := by unfold spanV; rw [if_pos hN.out]
      have hs1 := HR.out.symm.trans hs0
      injection hs1 with e1 e2
      injection e2 with e2 e3
      subst e1 e2 e3
      clear hs0
      go_wp2
      have hW := HWR.out
      have hE2 := hW.ext
      have kz := hW.res
      have hS2 := Two.store (w := wr) (b := w.heap.size + 1) kz (0) (0)
      have hX2 := Ext.store2 (b := w.heap.size + 1) hE2 (by omega) (0) (0)
      show bodyPost _ _ _ _ _ (st2 wr (w.heap.size + 1) (0) (0))
      generalize st2 wr (w.heap.size + 1) (0) (0) = W6 at hS2 hX2 ⊢
      obtain ⟨s0, s1⟩ := hS2
      refine bodyPost_ret (v := .tuple #[.agg #[.int .i64 0, .int .i64 0], .int .i64 11]) (by simp [results, Try.results28, go_sem, s0, s1]) rfl ⟨rfl, hX2⟩
end Go.Proofs.Ytblmljcgjibfgaa

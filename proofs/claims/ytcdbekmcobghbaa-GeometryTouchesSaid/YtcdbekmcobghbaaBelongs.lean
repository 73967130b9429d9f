/- Contracts of belongs, checkLocate and Locate. -/
import Derived.Test.YtcdbekmcobghbaaPick
import Derived.Test.YtcdbekmcobghbaaAwake
namespace Go.Proofs.Ytcdbekmcobghbaa
open Go Go.RowKit Go.IntWalk

def belB (a b c p : Pt) : Bool := decide (0 ≤ crossW a b p) && (decide (0 ≤ crossW b c p) && decide (0 ≤ crossW c a p))
def BelRel (z1 z2 z3 : Int) (i : Value) : Prop :=
  i = .int .i64 0 ∨ (i = .int .i64 1 ∧ Hid (0 ≤ z1)) ∨ (i = .int .i64 2 ∧ Hid (0 ≤ z1) ∧ Hid (0 ≤ z2)) ∨ (i = .int .i64 3 ∧ Hid (0 ≤ z1) ∧ Hid (0 ≤ z2) ∧ Hid (0 ≤ z3))

theorem belongs_c (ax ay bx by_ cx cy px py : Int) (w : World) :
    Calls Try.prog 104 #[.agg #[.int .i64 ax, .int .i64 ay, .int .i64 bx, .int .i64 by_, .int .i64 cx, .int .i64 cy], .agg #[.int .i64 px, .int .i64 py]] w
      fun e w' => e = .returned (.bool (belB ⟨ax, ay⟩ ⟨bx, by_⟩ ⟨cx, cy⟩ ⟨px, py⟩)) ∧ Ext w w' := by
  unfold belB
  have H1 := Lib.hid (fun w => cross_c ax ay bx by_ px py w)
  have H2 := Lib.hid (fun w => cross_c bx by_ cx cy px py w)
  have H3 := Lib.hid (fun w => cross_c cx cy ax ay px py w)
  generalize crossW ⟨ax, ay⟩ ⟨bx, by_⟩ ⟨px, py⟩ = z1 at *
  generalize crossW ⟨bx, by_⟩ ⟨cx, cy⟩ ⟨px, py⟩ = z2 at *
  generalize crossW ⟨cx, cy⟩ ⟨ax, ay⟩ ⟨px, py⟩ = z3 at *
  go_enter Try.func104, Try.ntmps104
  go_wp2
  refine wp_name (fun W hW => ?_)
  have hE : Ext w W := by rw [hW]; (repeat (first | with_reducible exact Ext.rfl' _ | with_reducible assumption | with_reducible refine Ext.al ?_ _ | with_reducible refine Ext.dr ?_ | with_reducible refine Ext.st ?_ (by simp) _ | with_reducible refine Ext.tr ?_ (by assumption)))
  have HW := Lib.hid hW
  clear hW
  go_loopw [5, 6] (fun _ i wr => Ext W wr ∧ BelRel z1 z2 z3 i) (fun _ i _ => (3 - intOf i).toNat)
  case atStart => exact ⟨Ext.rfl' _, .inl rfl⟩
  case round =>
    obtain ⟨hr, hrel⟩ := hrel
    have hc := hr.ccell
    have hf := hr.frz
    have hs := hr.sz
    rw [HW.out] at hc hf hs
    (try simp at hs); (try have hs0 := hs w.heap.size (by omega)); (try have hs1 := hs (w.heap.size + 1) (by omega)); (try have hs2 := hs (w.heap.size + 1 + 1) (by omega)); (try have hs3 := hs (w.heap.size + 1 + 1 + 1) (by omega))
    rcases hrel with rfl | ⟨rfl, q1⟩ | ⟨rfl, q1, q2⟩ | ⟨rfl, q1, q2, q3⟩
    · by_cases hz : z1 < 0
      all_goals
        go_wp2_with fail
        refine region_grow (by kernel_rfl) (by kernel_rfl) ?_
        repeat (first | go_big_quiet_step (first | (go_at_call 74; with_reducible exact callsGrow (H1.out _)) | fail) | quiet_step (first | (go_at_call 74; with_reducible exact callsGrow (H1.out _)) | fail))
        refine wpQuiet_nil ?_
        intro w1 hb
        have hc := hb.ccell
        have hf := hb.frz
        have hs := hb.sz
        (try simp at hs); (try have hs0 := hs w.heap.size (by omega)); (try have hs1 := hs (w.heap.size + 1) (by omega)); (try have hs2 := hs (w.heap.size + 1 + 1) (by omega)); (try have hs3 := hs (w.heap.size + 1 + 1 + 1) (by omega))
        (try simp only [IntWalk.i64_left])
        go_wp2
      · go_ret
        exact ⟨ret_bool (by simp; omega), by (repeat (first | with_reducible exact Ext.rfl' _ | with_reducible assumption | with_reducible refine Ext.al ?_ _ | with_reducible refine Ext.dr ?_ | with_reducible refine Ext.st ?_ (by simp) _ | with_reducible refine Ext.tr ?_ (by assumption)))⟩
      · exact ⟨⟨by (repeat (first | with_reducible exact Ext.rfl' _ | with_reducible assumption | with_reducible refine Ext.al ?_ _ | with_reducible refine Ext.dr ?_ | with_reducible refine Ext.st ?_ (by simp) _ | with_reducible refine Ext.tr ?_ (by assumption))), .inr (.inl ⟨rfl, (show 0 ≤ z1 by omega)⟩)⟩, by simp [intOf]⟩
    · by_cases hz : z2 < 0
      all_goals
        go_wp2_with fail
        refine region_grow (by kernel_rfl) (by kernel_rfl) ?_
        repeat (first | go_big_quiet_step (first | (go_at_call 74; with_reducible exact callsGrow (H2.out _)) | fail) | quiet_step (first | (go_at_call 74; with_reducible exact callsGrow (H2.out _)) | fail))
        refine wpQuiet_nil ?_
        intro w1 hb
        have hc := hb.ccell
        have hf := hb.frz
        have hs := hb.sz
        (try simp at hs); (try have hs0 := hs w.heap.size (by omega)); (try have hs1 := hs (w.heap.size + 1) (by omega)); (try have hs2 := hs (w.heap.size + 1 + 1) (by omega)); (try have hs3 := hs (w.heap.size + 1 + 1 + 1) (by omega))
        (try simp only [IntWalk.i64_left])
        go_wp2
      · go_ret
        exact ⟨ret_bool (by simp; omega), by (repeat (first | with_reducible exact Ext.rfl' _ | with_reducible assumption | with_reducible refine Ext.al ?_ _ | with_reducible refine Ext.dr ?_ | with_reducible refine Ext.st ?_ (by simp) _ | with_reducible refine Ext.tr ?_ (by assumption)))⟩
      · exact ⟨⟨by (repeat (first | with_reducible exact Ext.rfl' _ | with_reducible assumption | with_reducible refine Ext.al ?_ _ | with_reducible refine Ext.dr ?_ | with_reducible refine Ext.st ?_ (by simp) _ | with_reducible refine Ext.tr ?_ (by assumption))), .inr (.inr (.inl ⟨rfl, q1, (show 0 ≤ z2 by omega)⟩))⟩, by simp [intOf]⟩
    · by_cases hz : z3 < 0
      all_goals
        go_wp2_with fail
        refine region_grow (by kernel_rfl) (by kernel_rfl) ?_
        repeat (first | go_big_quiet_step (first | (go_at_call 74; with_reducible exact callsGrow (H3.out _)) | fail) | quiet_step (first | (go_at_call 74; with_reducible exact callsGrow (H3.out _)) | fail))
        refine wpQuiet_nil ?_
        intro w1 hb
        have hc := hb.ccell
        have hf := hb.frz
        have hs := hb.sz
        (try simp at hs); (try have hs0 := hs w.heap.size (by omega)); (try have hs1 := hs (w.heap.size + 1) (by omega)); (try have hs2 := hs (w.heap.size + 1 + 1) (by omega)); (try have hs3 := hs (w.heap.size + 1 + 1 + 1) (by omega))
        (try simp only [IntWalk.i64_left])
        go_wp2
      · go_ret
        exact ⟨ret_bool (by simp; omega), by (repeat (first | with_reducible exact Ext.rfl' _ | with_reducible assumption | with_reducible refine Ext.al ?_ _ | with_reducible refine Ext.dr ?_ | with_reducible refine Ext.st ?_ (by simp) _ | with_reducible refine Ext.tr ?_ (by assumption)))⟩
      · exact ⟨⟨by (repeat (first | with_reducible exact Ext.rfl' _ | with_reducible assumption | with_reducible refine Ext.al ?_ _ | with_reducible refine Ext.dr ?_ | with_reducible refine Ext.st ?_ (by simp) _ | with_reducible refine Ext.tr ?_ (by assumption))), .inr (.inr (.inr ⟨rfl, q1, q2, (show 0 ≤ z3 by omega)⟩))⟩, by simp [intOf]⟩
    · go_wp2
      go_ret
      exact ⟨by simp [q1.out, q2.out, q3.out], by (repeat (first | with_reducible exact Ext.rfl' _ | with_reducible assumption | with_reducible refine Ext.al ?_ _ | with_reducible refine Ext.dr ?_ | with_reducible refine Ext.st ?_ (by simp) _ | with_reducible refine Ext.tr ?_ (by assumption)))⟩

/-! ### What a list of triangles is -/
def atI (l : List Pt) (n : Int) : Pt := l.getD n.toNat ⟨0, 0⟩
theorem atI_nat (l : List Pt) (k : Nat) (h : k < l.length) : atI l k = l[k] := by simp [atI, List.getD, h]
def hasL (l : List Pt) (t : I3) : Bool := inL l t.1 && (inL l t.2.1 && inL l t.2.2)
def crI (l : List Pt) (t : I3) : Int := crossW (atI l t.1) (atI l t.2.1) (atI l t.2.2)
def badT (l : List Pt) (t : I3) : Int := if !hasL l t then 6 else if crI l t ≤ 0 then 10 else 0
def firstBad (l : List Pt) : List I3 → Int
  | [] => 0
  | t :: ts => if badT l t = 0 then firstBad l ts else badT l t
theorem firstBad_at (l : List Pt) : ∀ (ts : List I3) (k : Nat) (h : k < ts.length), (∀ j (hj : j < k), badT l (ts[j]'(by omega)) = 0) → badT l ts[k] ≠ 0 → firstBad l ts = badT l ts[k]
  | t :: ts, 0, _, _, hne => by simp [firstBad]; intro h; exact absurd h hne
  | t :: ts, k + 1, h, hall, hne => by
    have h0 : badT l t = 0 := hall 0 (by omega)
    rw [firstBad, if_pos h0]
    exact firstBad_at l ts k (by simpa using h) (fun j hj => by have := hall (j + 1) (by omega); simpa using this) (by simpa using hne)
theorem firstBad_no (l : List Pt) : ∀ (ts : List I3), (∀ j (hj : j < ts.length), badT l ts[j] = 0) → firstBad l ts = 0
  | [], _ => rfl
  | t :: ts, hall => by
    have h0 : badT l t = 0 := hall 0 (by simp)
    rw [firstBad, if_pos h0]
    exact firstBad_no l ts (fun j hj => by have := hall (j + 1) (by simpa using hj); simpa using this)
theorem firstBad_zero (l : List Pt) : ∀ (ts : List I3), firstBad l ts = 0 → ∀ j (hj : j < ts.length), badT l ts[j] = 0
  | t :: ts, h, j, hj => by
    rw [firstBad] at h
    by_cases h0 : badT l t = 0
    · rw [if_pos h0] at h
      cases j with
      | zero => exact h0
      | succ j => simpa using firstBad_zero l ts h j (by simpa using hj)
    · rw [if_neg h0] at h; exact absurd h h0
theorem badT_zero {l : List Pt} {t : I3} (h : badT l t = 0) : hasL l t = true ∧ 0 < crI l t := by
  unfold badT at h
  cases hh : hasL l t
  · simp [hh] at h
  · simp [hh] at h
    exact ⟨rfl, by omega⟩
def chkP (l : List Pt) : Int := if 64 < l.length then 8 else if allGood l then 0 else 2
def locE (l : List Pt) (ts : List I3) (p : Pt) : Int := if chkP l ≠ 0 then chkP l else if 128 < ts.length then 8 else if firstBad l ts ≠ 0 then firstBad l ts else if good p then 0 else 2
def belT (l : List Pt) (t : I3) (p : Pt) : Bool := belB (atI l t.1) (atI l t.2.1) (atI l t.2.2) p
def findT (l : List Pt) (p : Pt) : List I3 → Int → Int × Int
  | [], _ => (0, 11)
  | t :: ts, k => if belT l t p then (k, 0) else findT l p ts (k + 1)
theorem findT_at (l : List Pt) (p : Pt) : ∀ (ts : List I3) (k : Nat) (i : Int) (h : k < ts.length), (∀ j (hj : j < k), belT l (ts[j]'(by omega)) p = false) → belT l ts[k] p = true → findT l p ts i = (i + k, 0)
  | t :: ts, 0, i, _, _, hy => by simp only [List.getElem_cons_zero] at hy; rw [findT, if_pos hy]; simp
  | t :: ts, k + 1, i, h, hall, hy => by
    have h0 : belT l t p = false := hall 0 (by omega)
    rw [findT, if_neg (by rw [h0]; simp), findT_at l p ts k (i + 1) (by simpa using h) (fun j hj => by have := hall (j + 1) (by omega); simpa using this) (by simpa using hy)]
    simp; omega
theorem findT_no (l : List Pt) (p : Pt) : ∀ (ts : List I3) (i : Int), (∀ j (hj : j < ts.length), belT l ts[j] p = false) → findT l p ts i = (0, 11)
  | [], _, _ => rfl
  | t :: ts, i, hall => by
    have h0 : belT l t p = false := hall 0 (by simp)
    rw [findT, if_neg (by rw [h0]; simp)]
    exact findT_no l p ts (i + 1) (fun j hj => by have := hall (j + 1) (by simpa using hj); simpa using this)
def locV (l : List Pt) (ts : List I3) (p : Pt) : Int × Int := if locE l ts p ≠ 0 then (0, locE l ts p) else findT l p ts 0

/-! ### pick's two outcomes -/
theorem pick_no (l : List Pt) (a b c : Int) (w : World) (A : Option Addr) (cp : Nat) (hl : l.length ≤ maxLen) (hA : Row 2 encP w A l) (h : hasL l (a, b, c) = false) :
    Calls Try.prog 103 #[.slice A l.length cp, .agg #[.int .i64 a, .int .i64 b, .int .i64 c]] w
      fun e w' => e = .returned (.tuple #[.agg #[.int .i64 0, .int .i64 0, .int .i64 0, .int .i64 0, .int .i64 0, .int .i64 0], .bool false]) ∧ Ext w w' := by
  refine (pick_raw l a b c w A cp hl hA).mono ?_
  rintro e w' ⟨hb, ⟨k0, h0, k1, h1, k2, h2, rfl, rfl, rfl, he⟩ | ⟨_, he⟩⟩
  · simp [hasL, inL_cast h0, inL_cast h1, inL_cast h2] at h
  · exact ⟨he, hb⟩
theorem pick_yes (l : List Pt) (a b c : Int) (w : World) (A : Option Addr) (cp : Nat) (hl : l.length ≤ maxLen) (hA : Row 2 encP w A l) (h : hasL l (a, b, c) = true) :
    Calls Try.prog 103 #[.slice A l.length cp, .agg #[.int .i64 a, .int .i64 b, .int .i64 c]] w
      fun e w' => e = .returned (.tuple #[.agg #[.int .i64 (atI l a).x, .int .i64 (atI l a).y, .int .i64 (atI l b).x, .int .i64 (atI l b).y, .int .i64 (atI l c).x, .int .i64 (atI l c).y], .bool true]) ∧ Ext w w' := by
  refine (pick_raw l a b c w A cp hl hA).mono ?_
  rintro e w' ⟨hb, ⟨k0, h0, k1, h1, k2, h2, rfl, rfl, rfl, he⟩ | ⟨hn, _⟩⟩
  · rw [atI_nat l k0 h0, atI_nat l k1 h1, atI_nat l k2 h2]; exact ⟨he, hb⟩
  · unfold hasL at h; rw [hn] at h; cases h

theorem inRange1_c (ax ay : Int) (r : Bool) (hr : good ⟨ax, ay⟩ = r) (w : World) (c n : Nat) (t : TypeId) (hn : n = w.heap.size) :
    Calls Try.prog 73 #[.slice (some ⟨n, 0, none⟩) 1 c] (w.alloc (.cells #[.int .i64 ax, .int .i64 ay] t))
      fun e w' => e = .returned (.bool r) ∧ Ext (w.alloc (.cells #[.int .i64 ax, .int .i64 ay] t)) w' := by
  have := inRange_c [⟨ax, ay⟩] (w.alloc (.cells #[.int .i64 ax, .int .i64 ay] t)) (some ⟨n, 0, none⟩) c (small_len (by simp)) (Row.new' encP_len _ _ _ _ _ hn rfl)
  rw [show allGood [⟨ax, ay⟩] = r by simp [allGood, hr]] at this
  exact this
end Go.Proofs.Ytcdbekmcobghbaa

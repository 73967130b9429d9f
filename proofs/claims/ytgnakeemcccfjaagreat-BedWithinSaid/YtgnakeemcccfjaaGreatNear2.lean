/- Contracts of Inside and Near, and of the reference's Near. -/
import Derived.Test.YtgnakeemcccfjaaGreatNear
namespace Go.Proofs.YtgnakeemcccfjaaGreat
open Go Go.RowKit Go.IntWalk

theorem inRange1_c (ax ay : Int) (r : Bool) (hr : good ⟨ax, ay⟩ = r) (w : World) (c n : Nat) (t : TypeId) (hn : n = w.heap.size) :
    Calls Tryz.prog 73 #[.slice (some ⟨n, 0, none⟩) 1 c] (w.alloc (.cells #[.int .i64 ax, .int .i64 ay] t))
      fun e w' => e = .returned (.bool r) ∧ Ext (w.alloc (.cells #[.int .i64 ax, .int .i64 ay] t)) w' := by
  have := inRange_c [⟨ax, ay⟩] (w.alloc (.cells #[.int .i64 ax, .int .i64 ay] t)) (some ⟨n, 0, none⟩) c (small_len (by simp)) (Row.new' encP_len _ _ _ _ _ hn rfl)
  rw [show allGood [⟨ax, ay⟩] = r by simp [allGood, hr]] at this
  exact this
def insE (l : List Pt) (p : Pt) : Int := if polyE l ≠ 0 then polyE l else if good p then 0 else 2
def insV (l : List Pt) (p : Pt) : Int := if insE l p = 0 then placeG l p else 0
set_option maxHeartbeats 1000000 in
theorem ginside_c (l : List Pt) (px py : Int) (w : World) (A : Option Addr) (c : Nat) (hl : l.length ≤ 1000) (hA : Row 2 encP w A l) :
    Calls Tryz.prog 32 #[.slice A l.length c, .agg #[.int .i64 px, .int .i64 py]] w
      fun e w' => e = .returned (.tuple #[.int .i64 (insV l ⟨px, py⟩), .int .i64 (insE l ⟨px, py⟩)]) ∧ Ext w w' := by
  have HC := Lib.hid (fun w' (hw : Ext w w') => checkPolygon_c l w' A c hl (hA.ext hw))
  have HP := Lib.hid (fun w' (hw : Ext w w') => gplace_c l px py w' A c hl (hA.ext hw))
  by_cases h1 : polyE l = 0
  · rw [h1] at HC
    cases hg : good ⟨px, py⟩
    · have e1 : insE l ⟨px, py⟩ = 2 := by unfold insE; rw [if_neg (by rw [h1]; simp), hg]; rfl
      have e2 : insV l ⟨px, py⟩ = 0 := by unfold insV; rw [e1]; rfl
      rw [e1, e2]
      have HG := Lib.hid hg
      clear hg h1 e1 e2
      go_enter Tryz.func32, Tryz.ntmps32
      go_wp2_with (first | (go_at_call 29; with_reducible refine Calls.mono (HC.out _ (by (repeat (first | with_reducible exact Ext.rfl' _ | with_reducible assumption | with_reducible refine Ext.al ?_ _ | with_reducible refine Ext.dr ?_ | with_reducible refine Ext.st ?_ (by simp) _ | with_reducible refine Ext.tr ?_ (by assumption))))) ?_; rintro e w1 ⟨rfl, hb⟩; have hc := hb.ccell; have hf := hb.frz; have hs := hb.sz; (try simp at hs); (try have hs0 := hs w.heap.size (by omega)); (try have hs1 := hs (w.heap.size + 1) (by omega)); (try have hs2 := hs (w.heap.size + 1 + 1) (by omega)); (try have hs3 := hs (w.heap.size + 1 + 1 + 1) (by omega))) | (go_at_call 73; refine Calls.mono (inRange1_c _ _ _ HG.out _ _ _ _ ?_) ?_; (focus simp); rintro e w1 ⟨rfl, hb⟩; have hc := hb.ccell; have hf := hb.frz; have hs := hb.sz; (try simp at hs); (try have hs0 := hs w.heap.size (by omega)); (try have hs1 := hs (w.heap.size + 1) (by omega)); (try have hs2 := hs (w.heap.size + 1 + 1) (by omega)); (try have hs3 := hs (w.heap.size + 1 + 1 + 1) (by omega))))
      go_ret2
      exact ⟨rfl, by (repeat (first | with_reducible exact Ext.rfl' _ | with_reducible assumption | with_reducible refine Ext.al ?_ _ | with_reducible refine Ext.dr ?_ | with_reducible refine Ext.st ?_ (by simp) _ | with_reducible refine Ext.tr ?_ (by assumption)))⟩
    · have e1 : insE l ⟨px, py⟩ = 0 := by unfold insE; rw [if_neg (by rw [h1]; simp), hg]; rfl
      have e2 : insV l ⟨px, py⟩ = placeG l ⟨px, py⟩ := by unfold insV; rw [e1]; rfl
      rw [e1, e2]
      have HG := Lib.hid hg
      clear hg h1 e1 e2
      generalize placeG l ⟨px, py⟩ = r at *
      go_enter Tryz.func32, Tryz.ntmps32
      go_wp2_with (first | (go_at_call 29; with_reducible refine Calls.mono (HC.out _ (by (repeat (first | with_reducible exact Ext.rfl' _ | with_reducible assumption | with_reducible refine Ext.al ?_ _ | with_reducible refine Ext.dr ?_ | with_reducible refine Ext.st ?_ (by simp) _ | with_reducible refine Ext.tr ?_ (by assumption))))) ?_; rintro e w1 ⟨rfl, hb⟩; have hc := hb.ccell; have hf := hb.frz; have hs := hb.sz; (try simp at hs); (try have hs0 := hs w.heap.size (by omega)); (try have hs1 := hs (w.heap.size + 1) (by omega)); (try have hs2 := hs (w.heap.size + 1 + 1) (by omega)); (try have hs3 := hs (w.heap.size + 1 + 1 + 1) (by omega))) | (go_at_call 73; refine Calls.mono (inRange1_c _ _ _ HG.out _ _ _ _ ?_) ?_; (focus simp); rintro e w1 ⟨rfl, hb⟩; have hc := hb.ccell; have hf := hb.frz; have hs := hb.sz; (try simp at hs); (try have hs0 := hs w.heap.size (by omega)); (try have hs1 := hs (w.heap.size + 1) (by omega)); (try have hs2 := hs (w.heap.size + 1 + 1) (by omega)); (try have hs3 := hs (w.heap.size + 1 + 1 + 1) (by omega))) | (go_at_call 74; with_reducible refine Calls.mono (HP.out _ (by (repeat (first | with_reducible exact Ext.rfl' _ | with_reducible assumption | with_reducible refine Ext.al ?_ _ | with_reducible refine Ext.dr ?_ | with_reducible refine Ext.st ?_ (by simp) _ | with_reducible refine Ext.tr ?_ (by assumption))))) ?_; rintro e w1 ⟨rfl, hb⟩; have hc := hb.ccell; have hf := hb.frz; have hs := hb.sz; (try simp at hs); (try have hs0 := hs w.heap.size (by omega)); (try have hs1 := hs (w.heap.size + 1) (by omega)); (try have hs2 := hs (w.heap.size + 1 + 1) (by omega)); (try have hs3 := hs (w.heap.size + 1 + 1 + 1) (by omega))))
      go_ret2
      exact ⟨rfl, by (repeat (first | with_reducible exact Ext.rfl' _ | with_reducible assumption | with_reducible refine Ext.al ?_ _ | with_reducible refine Ext.dr ?_ | with_reducible refine Ext.st ?_ (by simp) _ | with_reducible refine Ext.tr ?_ (by assumption)))⟩
  · have e1 : insE l ⟨px, py⟩ = polyE l := by unfold insE; rw [if_pos h1]
    have e2 : insV l ⟨px, py⟩ = 0 := by unfold insV; rw [e1, if_neg h1]
    rw [e1, e2]
    clear e1 e2
    generalize polyE l = r at HC h1 ⊢
    have h' : (r == 0) = false := by simp [h1]
    go_enter Tryz.func32, Tryz.ntmps32
    go_wp2_with (first | (go_at_call 29; with_reducible refine Calls.mono (HC.out _ (by (repeat (first | with_reducible exact Ext.rfl' _ | with_reducible assumption | with_reducible refine Ext.al ?_ _ | with_reducible refine Ext.dr ?_ | with_reducible refine Ext.st ?_ (by simp) _ | with_reducible refine Ext.tr ?_ (by assumption))))) ?_; rintro e w1 ⟨rfl, hb⟩; have hc := hb.ccell; have hf := hb.frz; have hs := hb.sz; (try simp at hs); (try have hs0 := hs w.heap.size (by omega)); (try have hs1 := hs (w.heap.size + 1) (by omega)); (try have hs2 := hs (w.heap.size + 1 + 1) (by omega)); (try have hs3 := hs (w.heap.size + 1 + 1 + 1) (by omega))))
    go_ret2
    exact ⟨rfl, by (repeat (first | with_reducible exact Ext.rfl' _ | with_reducible assumption | with_reducible refine Ext.al ?_ _ | with_reducible refine Ext.dr ?_ | with_reducible refine Ext.st ?_ (by simp) _ | with_reducible refine Ext.tr ?_ (by assumption)))⟩

def sideNear (l : List Pt) (p : Pt) (d : Int) (i : Nat) : Bool := nearG (cor l i) (cor l (i + 1)) p d
def nearE (l : List Pt) (p : Pt) (d : Int) : Int := if polyE l ≠ 0 then polyE l else if good p && (decide (0 ≤ d) && decide (d ≤ 1000000)) then 0 else 2
def nearL (l : List Pt) (p : Pt) (d : Int) : Bool := decide (0 ≤ placeG l p) || anyN (sideNear l p d) l.length
def nearV (l : List Pt) (p : Pt) (d : Int) : Bool := if nearE l p d = 0 then nearL l p d else false
theorem span_ne {a b : Pt} (ha : good a = true) (hb : good b = true) (hne : a ≠ b) : spanG a b ≠ 0 := by have := spanG_pos ha hb hne; omega

end Go.Proofs.YtgnakeemcccfjaaGreat

/- Contracts of pick and belongs. -/
import Derived.Test.YtcdbekmcobghbaaPts2
namespace Go.Proofs.Ytcdbekmcobghbaa
open Go Go.RowKit Go.IntWalk

def inL (l : List Pt) (n : Int) : Bool := decide (0 ≤ n) && decide (n < l.length)
theorem inL_nat {l : List Pt} {n : Int} (h : inL l n = true) : ∃ k : Nat, ∃ _ : k < l.length, n = k := by
  simp [inL] at h
  exact ⟨n.toNat, by omega, by omega⟩
theorem inL_cast {l : List Pt} {k : Nat} (h : k < l.length) : inL l k = true := by simp [inL]; omega
theorem inL_not {l : List Pt} {n : Int} (h : inL l n = false) : n < 0 ∨ (0 ≤ n ∧ (l.length : Int) ≤ n) := by
  simp [inL] at h; omega

theorem index3 (a b c : Int) (w : World) : (Instr.index 119 (.agg #[.int .i64 a, .int .i64 b, .int .i64 c]) (.int .i64 0)).run Try.prog w = .ok (.int .i64 a) w ∧
    (Instr.index 119 (.agg #[.int .i64 a, .int .i64 b, .int .i64 c]) (.int .i64 1)).run Try.prog w = .ok (.int .i64 b) w ∧
    (Instr.index 119 (.agg #[.int .i64 a, .int .i64 b, .int .i64 c]) (.int .i64 2)).run Try.prog w = .ok (.int .i64 c) w := ⟨by kernel_rfl, by kernel_rfl, by kernel_rfl⟩
/-- Six cells of block b: three points. -/
def Six (w : World) (b : Nat) (p q r : Pt) : Prop :=
  w.cell? ⟨b, 0, none⟩ = some (.int .i64 p.x) ∧ w.cell? ⟨b, 1, none⟩ = some (.int .i64 p.y) ∧ w.cell? ⟨b, 2, none⟩ = some (.int .i64 q.x) ∧ w.cell? ⟨b, 3, none⟩ = some (.int .i64 q.y) ∧ w.cell? ⟨b, 4, none⟩ = some (.int .i64 r.x) ∧ w.cell? ⟨b, 5, none⟩ = some (.int .i64 r.y)
def NoFreeze (w : World) (b : Nat) : Prop := ∀ j, w.frozen? ⟨b, j, none⟩ = false
/-- The world of pick's loop: what was there, a blank result, the corners picked so far. -/
structure PickW (w wr : World) (p q r : Pt) : Prop where
  ext : Ext w wr
  sz : w.heap.size + 2 < wr.heap.size
  out : Six wr (w.heap.size + 1) ⟨0, 0⟩ ⟨0, 0⟩ ⟨0, 0⟩
  got : Six wr (w.heap.size + 2) p q r
  f1 : NoFreeze wr (w.heap.size + 1)
  f2 : NoFreeze wr (w.heap.size + 2)
def PickRel (l : List Pt) (a b c : Int) (w wr : World) (i : Value) : Prop :=
  (i = .int .i64 0 ∧ PickW w wr ⟨0, 0⟩ ⟨0, 0⟩ ⟨0, 0⟩) ∨
  (∃ k0, ∃ h0 : k0 < l.length, a = (k0 : Nat) ∧ i = .int .i64 1 ∧ PickW w wr l[k0] ⟨0, 0⟩ ⟨0, 0⟩) ∨
  (∃ k0, ∃ h0 : k0 < l.length, ∃ k1, ∃ h1 : k1 < l.length, a = (k0 : Nat) ∧ b = (k1 : Nat) ∧ i = .int .i64 2 ∧ PickW w wr l[k0] l[k1] ⟨0, 0⟩) ∨
  (∃ k0, ∃ h0 : k0 < l.length, ∃ k1, ∃ h1 : k1 < l.length, ∃ k2, ∃ h2 : k2 < l.length, a = (k0 : Nat) ∧ b = (k1 : Nat) ∧ c = (k2 : Nat) ∧ i = .int .i64 3 ∧ PickW w wr l[k0] l[k1] l[k2])
/-- What pick returns. -/
def PickOut (l : List Pt) (a b c : Int) (w : World) (e : Ending) (w' : World) : Prop :=
  Ext w w' ∧ ((∃ k0, ∃ h0 : k0 < l.length, ∃ k1, ∃ h1 : k1 < l.length, ∃ k2, ∃ h2 : k2 < l.length, a = (k0 : Nat) ∧ b = (k1 : Nat) ∧ c = (k2 : Nat) ∧
      e = .returned (.tuple #[.agg #[.int .i64 l[k0].x, .int .i64 l[k0].y, .int .i64 l[k1].x, .int .i64 l[k1].y, .int .i64 l[k2].x, .int .i64 l[k2].y], .bool true])) ∨
    ((inL l a && (inL l b && inL l c)) = false ∧ e = .returned (.tuple #[.agg #[.int .i64 0, .int .i64 0, .int .i64 0, .int .i64 0, .int .i64 0, .int .i64 0], .bool false])))

set_option maxHeartbeats 4000000 in
set_option maxRecDepth 100000 in
theorem pick_raw (l : List Pt) (a b c : Int) (w : World) (A : Option Addr) (cp : Nat) (_hl : l.length ≤ maxLen) (hA : Row 2 encP w A l) :
    Calls Try.prog 103 #[.slice A l.length cp, .agg #[.int .i64 a, .int .i64 b, .int .i64 c]] w (PickOut l a b c w) := by
  have i0 := fun w => (index3 a b c w).1
  have i1 := fun w => (index3 a b c w).2.1
  have i2 := fun w => (index3 a b c w).2.2
  go_enter Try.func103, Try.ntmps103
  go_wp2
  go_loopw [7, 8, 16] (fun _ _ i wr => PickRel l a b c w wr i) (fun _ _ i _ => (3 - intOf i).toNat)
  case atStart =>
    refine .inl ⟨rfl, ?_, ?_, ?_, ?_, ?_, ?_⟩
    · (repeat (first | with_reducible exact Ext.rfl' _ | with_reducible assumption | with_reducible refine Ext.al ?_ _ | with_reducible refine Ext.dr ?_ | with_reducible refine Ext.st ?_ (by simp) _ | with_reducible refine Ext.tr ?_ (by assumption)))
    · simp
    · refine ⟨?_, ?_, ?_, ?_, ?_, ?_⟩ <;> simp [World.cell?_alloc_past, go_sem]
    · refine ⟨?_, ?_, ?_, ?_, ?_, ?_⟩ <;> simp [go_sem]
    · intro j; simp [go_sem]
    · intro j; simp [go_sem]
  case round =>
    rcases hrel with ⟨rfl, hP⟩ | ⟨k0, h0, rfl, rfl, hP⟩ | ⟨k0, h0, k1, h1, rfl, rfl, rfl, hP⟩ | ⟨k0, h0, k1, h1, k2, h2, rfl, rfl, rfl, rfl, hP⟩
    all_goals
      obtain ⟨hE, hz, ⟨o0, o1, o2, o3, o4, o5⟩, ⟨g0, g1, g2, g3, g4, g5⟩, f1, f2⟩ := hP
      have hz1 : w.heap.size + 1 < wr.heap.size := by omega
      simp only [NoFreeze] at f1 f2
    · cases hin : inL l a
      · rcases inL_not hin with hn | ⟨hn, hn2⟩
        all_goals
          go_wp2
        all_goals
          refine bodyPost_ret (v := .tuple #[.agg #[.int .i64 0, .int .i64 0, .int .i64 0, .int .i64 0, .int .i64 0, .int .i64 0], .bool false]) (by simp [results, Try.results103, go_sem, o0, o1, o2, o3, o4, o5]) rfl ⟨?_, .inr ⟨by simp [hin], rfl⟩⟩
          exact Ext.st (Ext.st (Ext.st (Ext.st (Ext.st (Ext.st hE (by simp) _) (by simp) _) (by simp) _) (by simp) _) (by simp) _) (by simp) _
      · obtain ⟨k, hk, rfl⟩ := inL_nat hin
        obtain ⟨bb, off, rfl, hb0, hcell⟩ := hA.p2 hk
        have c := hcell _ hE
        clear hcell
        have hzb := hE.sz _ hb0
        have hne : bb ≠ w.heap.size + 2 := by omega
        clear hin
        go_wp2
        refine ⟨.inr (.inl ⟨k, hk, rfl, rfl, ?_⟩), by simp [intOf]⟩
        refine ⟨Ext.st (Ext.st hE (by simp; omega) _) (by simp; omega) _, by simpa using hz, ⟨?_, ?_, ?_, ?_, ?_, ?_⟩, ⟨?_, ?_, ?_, ?_, ?_, ?_⟩, ?_, ?_⟩
        all_goals first | (simp [go_sem, o0, o1, o2, o3, o4, o5, g0, g1, g2, g3, g4, g5]; done) | (intro j; simp [go_sem, f1, f2]; done)
    · cases hin : inL l b
      · rcases inL_not hin with hn | ⟨hn, hn2⟩
        all_goals
          go_wp2
        all_goals
          refine bodyPost_ret (v := .tuple #[.agg #[.int .i64 0, .int .i64 0, .int .i64 0, .int .i64 0, .int .i64 0, .int .i64 0], .bool false]) (by simp [results, Try.results103, go_sem, o0, o1, o2, o3, o4, o5]) rfl ⟨?_, .inr ⟨by simp [hin], rfl⟩⟩
          exact Ext.st (Ext.st (Ext.st (Ext.st (Ext.st (Ext.st hE (by simp) _) (by simp) _) (by simp) _) (by simp) _) (by simp) _) (by simp) _
      · obtain ⟨k, hk, rfl⟩ := inL_nat hin
        obtain ⟨bb, off, rfl, hb0, hcell⟩ := hA.p2 hk
        have c := hcell _ hE
        clear hcell
        have hzb := hE.sz _ hb0
        have hne : bb ≠ w.heap.size + 2 := by omega
        clear hin
        go_wp2
        refine ⟨.inr (.inr (.inl ⟨k0, h0, k, hk, rfl, rfl, rfl, ?_⟩)), by simp [intOf]⟩
        refine ⟨Ext.st (Ext.st hE (by simp; omega) _) (by simp; omega) _, by simpa using hz, ⟨?_, ?_, ?_, ?_, ?_, ?_⟩, ⟨?_, ?_, ?_, ?_, ?_, ?_⟩, ?_, ?_⟩
        all_goals first | (simp [go_sem, o0, o1, o2, o3, o4, o5, g0, g1, g2, g3, g4, g5]; done) | (intro j; simp [go_sem, f1, f2]; done)
    · cases hin : inL l c
      · rcases inL_not hin with hn | ⟨hn, hn2⟩
        all_goals
          go_wp2
        all_goals
          refine bodyPost_ret (v := .tuple #[.agg #[.int .i64 0, .int .i64 0, .int .i64 0, .int .i64 0, .int .i64 0, .int .i64 0], .bool false]) (by simp [results, Try.results103, go_sem, o0, o1, o2, o3, o4, o5]) rfl ⟨?_, .inr ⟨by simp [hin], rfl⟩⟩
          exact Ext.st (Ext.st (Ext.st (Ext.st (Ext.st (Ext.st hE (by simp) _) (by simp) _) (by simp) _) (by simp) _) (by simp) _) (by simp) _
      · obtain ⟨k, hk, rfl⟩ := inL_nat hin
        obtain ⟨bb, off, rfl, hb0, hcell⟩ := hA.p2 hk
        have c := hcell _ hE
        clear hcell
        have hzb := hE.sz _ hb0
        have hne : bb ≠ w.heap.size + 2 := by omega
        clear hin
        go_wp2
        refine ⟨.inr (.inr (.inr ⟨k0, h0, k1, h1, k, hk, rfl, rfl, rfl, rfl, ?_⟩)), by simp [intOf]⟩
        refine ⟨Ext.st (Ext.st hE (by simp; omega) _) (by simp; omega) _, by simpa using hz, ⟨?_, ?_, ?_, ?_, ?_, ?_⟩, ⟨?_, ?_, ?_, ?_, ?_, ?_⟩, ?_, ?_⟩
        all_goals first | (simp [go_sem, o0, o1, o2, o3, o4, o5, g0, g1, g2, g3, g4, g5]; done) | (intro j; simp [go_sem, f1, f2]; done)
    · go_wp2
      refine bodyPost_ret (v := .tuple #[.agg #[.int .i64 l[k0].x, .int .i64 l[k0].y, .int .i64 l[k1].x, .int .i64 l[k1].y, .int .i64 l[k2].x, .int .i64 l[k2].y], .bool true]) (by simp [results, Try.results103, go_sem, o0, o1, o2, o3, o4, o5]) rfl ⟨?_, .inl ⟨k0, h0, k1, h1, k2, h2, rfl, rfl, rfl, rfl⟩⟩
      exact Ext.st (Ext.st (Ext.st (Ext.st (Ext.st (Ext.st hE (by simp) _) (by simp) _) (by simp) _) (by simp) _) (by simp) _) (by simp) _
end Go.Proofs.Ytcdbekmcobghbaa

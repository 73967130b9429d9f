/- The contract of CheckPolygon: what is wrong is a table of functions. -/
import Derived.Test.YtgnakeemcccfjaaGreatFold
namespace Go.Proofs.YtgnakeemcccfjaaGreat
open Go Go.RowKit Go.IntWalk

@[go_sem] theorem store_fn {P : Program} {w : World} {a : Addr} {m : Mode} (fn : Fn) (first captured : Array Value) : (store a (.func fn first captured) m).run P w = stored P w a (.func fn first captured) m := run_store P w a _ m rfl
/-- The table in block g. -/
def Table (w : World) (g : Nat) : Prop :=
  (w.cell? ⟨g, 0, none⟩ = some (.int .i64 10) ∧ w.cell? ⟨g, 1, none⟩ = some (.func (.func 99) #[] #[])) ∧ (w.cell? ⟨g, 2, none⟩ = some (.int .i64 8) ∧ w.cell? ⟨g, 3, none⟩ = some (.func (.func 100) #[] #[])) ∧
  (w.cell? ⟨g, 4, none⟩ = some (.int .i64 2) ∧ w.cell? ⟨g, 5, none⟩ = some (.func (.func 101) #[] #[])) ∧ (w.cell? ⟨g, 6, none⟩ = some (.int .i64 3) ∧ w.cell? ⟨g, 7, none⟩ = some (.func (.func 102) #[] #[]))
theorem faults_c (w : World) :
    Calls Tryz.prog 72 #[] w
      fun e w' => ∃ g, e = .returned (.slice (some ⟨g, 0, none⟩) 4 4) ∧ Ext w w' ∧ g < w'.heap.size ∧ Table w' g := by
  go_enter Tryz.func72, Tryz.ntmps72
  go_wp2
  go_ret
  refine ⟨_, rfl, by (repeat (first | with_reducible exact Ext.rfl' _ | with_reducible assumption | with_reducible refine Ext.al ?_ _ | with_reducible refine Ext.dr ?_ | with_reducible refine Ext.st ?_ (by simp) _ | with_reducible refine Ext.tr ?_ (by assumption))), by simp, ?_⟩
  refine ⟨⟨?_, ?_⟩, ⟨?_, ?_⟩, ⟨?_, ?_⟩, ⟨?_, ?_⟩⟩ <;> simp [World.cell?_alloc_new, go_sem]
theorem fault1_c (l : List Pt) (r : Bool) (hr : decide (l.length < 3) = r) (w : World) (A : Option Addr) (c : Nat) :
    Calls Tryz.prog 99 #[.slice A l.length c] w
      fun e w' => e = .returned (.bool r) ∧ Ext w w' := by
  have h : decide ((l.length : Int) < 3) = r := by rw [← hr, decide_eq_decide]; omega
  go_enter Tryz.func99, Tryz.ntmps99
  go_wp2
  go_ret
  exact ⟨rfl, by (repeat (first | with_reducible exact Ext.rfl' _ | with_reducible assumption | with_reducible refine Ext.al ?_ _ | with_reducible refine Ext.dr ?_ | with_reducible refine Ext.st ?_ (by simp) _ | with_reducible refine Ext.tr ?_ (by assumption)))⟩
theorem fault2_c (l : List Pt) (r : Bool) (hr : decide (40 < l.length) = r) (w : World) (A : Option Addr) (c : Nat) :
    Calls Tryz.prog 100 #[.slice A l.length c] w
      fun e w' => e = .returned (.bool r) ∧ Ext w w' := by
  have h : decide (40 < (l.length : Int)) = r := by rw [← hr, decide_eq_decide]; omega
  go_enter Tryz.func100, Tryz.ntmps100
  go_wp2
  go_ret
  exact ⟨rfl, by (repeat (first | with_reducible exact Ext.rfl' _ | with_reducible assumption | with_reducible refine Ext.al ?_ _ | with_reducible refine Ext.dr ?_ | with_reducible refine Ext.st ?_ (by simp) _ | with_reducible refine Ext.tr ?_ (by assumption)))⟩
theorem fault3_c (l : List Pt) (r : Bool) (hr : (!allGood l) = r) (w : World) (A : Option Addr) (c : Nat) (hl : l.length ≤ 1000) (hA : Row 2 encP w A l) :
    Calls Tryz.prog 101 #[.slice A l.length c] w
      fun e w' => e = .returned (.bool r) ∧ Ext w w' := by
  have HI := Lib.hid (fun w' (hw : Ext w w') => inRange_c l w' A c (small_len hl) (hA.ext hw))
  subst hr
  generalize allGood l = r at *
  go_enter Tryz.func101, Tryz.ntmps101
  go_wp2_with (first | (go_at_call 73; with_reducible refine Calls.mono (HI.out _ (by (repeat (first | with_reducible exact Ext.rfl' _ | with_reducible assumption | with_reducible refine Ext.al ?_ _ | with_reducible refine Ext.dr ?_ | with_reducible refine Ext.st ?_ (by simp) _ | with_reducible refine Ext.tr ?_ (by assumption))))) ?_; rintro e w1 ⟨rfl, hb⟩; have hc := hb.ccell; have hf := hb.frz; have hs := hb.sz; (try simp at hs); (try have hs0 := hs w.heap.size (by omega)); (try have hs1 := hs (w.heap.size + 1) (by omega)); (try have hs2 := hs (w.heap.size + 1 + 1) (by omega)); (try have hs3 := hs (w.heap.size + 1 + 1 + 1) (by omega))))
  go_ret
  exact ⟨rfl, by (repeat (first | with_reducible exact Ext.rfl' _ | with_reducible assumption | with_reducible refine Ext.al ?_ _ | with_reducible refine Ext.dr ?_ | with_reducible refine Ext.st ?_ (by simp) _ | with_reducible refine Ext.tr ?_ (by assumption)))⟩

/-- What is wrong with a polygon. -/
def polyE (l : List Pt) : Int := if l.length < 3 then 10 else if 40 < l.length then 8 else if allGood l = false then 2 else if sidesG meetG betweenG l then 3 else 0
def PolyRel (l : List Pt) (i : Value) : Prop :=
  i = .int .i64 0 ∨ (i = .int .i64 1 ∧ Hid (¬ l.length < 3)) ∨ (i = .int .i64 2 ∧ Hid (¬ l.length < 3) ∧ Hid (¬ 40 < l.length)) ∨ (i = .int .i64 3 ∧ Hid (¬ l.length < 3) ∧ Hid (¬ 40 < l.length) ∧ Hid (allGood l = true)) ∨
  (i = .int .i64 4 ∧ Hid (¬ l.length < 3) ∧ Hid (¬ 40 < l.length) ∧ Hid (allGood l = true) ∧ Hid (sidesG meetG betweenG l = false))
set_option maxHeartbeats 2000000 in
theorem checkPolygon_c (l : List Pt) (w : World) (A : Option Addr) (c : Nat) (hl : l.length ≤ 1000) (hA : Row 2 encP w A l) :
    Calls Tryz.prog 29 #[.slice A l.length c] w
      fun e w' => e = .returned (.int .i64 (polyE l)) ∧ Ext w w' := by
  have HF1 := Lib.hid (fun r hr w' => fault1_c l r hr w' A c)
  have HF2 := Lib.hid (fun r hr w' => fault2_c l r hr w' A c)
  have HF3 := Lib.hid (fun r hr w' (hw : Ext w w') => fault3_c l r hr w' A c hl (hA.ext hw))
  have HF4 := Lib.hid (fun w' (hw : Ext w w') => sidesClash_c l w' A c hl (hA.ext hw))
  clear hA
  obtain ⟨E, hE0⟩ : ∃ E, polyE l = E := ⟨_, rfl⟩
  rw [hE0]
  unfold polyE at hE0
  have HT := Lib.hid hE0
  clear hE0
  go_enter Tryz.func29, Tryz.ntmps29
  go_wp2_with (first | (go_at_call 72; refine Calls.mono (faults_c _) ?_; rintro e w1 ⟨g, rfl, hb, hg, hT⟩))
  have HTab := Lib.hid hT
  clear hT
  go_loopw [4, 7] (fun _ i wr => Ext w1 wr ∧ PolyRel l i) (fun _ i _ => (4 - intOf i).toNat)
  case atStart => exact ⟨Ext.rfl' _, .inl rfl⟩
  case round =>
    obtain ⟨hr, hrel⟩ := hrel
    obtain ⟨⟨q0, q1⟩, ⟨q2, q3⟩, ⟨q4, q5⟩, q6, q7⟩ := HTab.out
    have p0 := (hr.ccell _ 0 hg).trans q0
    have p1 := (hr.ccell _ 1 hg).trans q1
    have p2 := (hr.ccell _ 2 hg).trans q2
    have p3 := (hr.ccell _ 3 hg).trans q3
    have p4 := (hr.ccell _ 4 hg).trans q4
    have p5 := (hr.ccell _ 5 hg).trans q5
    have p6 := (hr.ccell _ 6 hg).trans q6
    have p7 := (hr.ccell _ 7 hg).trans q7
    have hgr := hr.sz _ hg
    clear q0 q1 q2 q3 q4 q5 q6 q7
    rcases hrel with rfl | ⟨rfl, k1⟩ | ⟨rfl, k1, k2⟩ | ⟨rfl, k1, k2, k3⟩ | ⟨rfl, k1, k2, k3, k4⟩
    · clear p2 p3 p4 p5 p6 p7
      cases ht : decide (l.length < 3)
      all_goals
        have HC := Lib.hid (fun w' => HF1.out _ ht w')
        have H0 := Lib.hid ht
        clear ht
        go_wp2_with (first | (go_at_call 99; with_reducible refine Calls.mono (HC.out _) ?_; rintro e w1 ⟨rfl, hb⟩; have hc := hb.ccell; have hf := hb.frz; have hs := hb.sz; (try simp at hs); (try have hs0 := hs w.heap.size (by omega)); (try have hs1 := hs (w.heap.size + 1) (by omega)); (try have hs2 := hs (w.heap.size + 1 + 1) (by omega)); (try have hs3 := hs (w.heap.size + 1 + 1 + 1) (by omega))))
      · exact ⟨⟨by (repeat (first | with_reducible exact Ext.rfl' _ | with_reducible assumption | with_reducible refine Ext.al ?_ _ | with_reducible refine Ext.dr ?_ | with_reducible refine Ext.st ?_ (by simp) _ | with_reducible refine Ext.tr ?_ (by assumption))), .inr (.inl ⟨rfl, of_decide_eq_false H0.out⟩)⟩, by simp [intOf]⟩
      · go_ret
        refine ⟨ret_int ?_, by (repeat (first | with_reducible exact Ext.rfl' _ | with_reducible assumption | with_reducible refine Ext.al ?_ _ | with_reducible refine Ext.dr ?_ | with_reducible refine Ext.st ?_ (by simp) _ | with_reducible refine Ext.tr ?_ (by assumption)))⟩
        rw [← HT.out, if_pos (of_decide_eq_true H0.out)]
    · clear p0 p1 p4 p5 p6 p7
      cases ht : decide (40 < l.length)
      all_goals
        have HC := Lib.hid (fun w' => HF2.out _ ht w')
        have H0 := Lib.hid ht
        clear ht
        go_wp2_with (first | (go_at_call 100; with_reducible refine Calls.mono (HC.out _) ?_; rintro e w1 ⟨rfl, hb⟩; have hc := hb.ccell; have hf := hb.frz; have hs := hb.sz; (try simp at hs); (try have hs0 := hs w.heap.size (by omega)); (try have hs1 := hs (w.heap.size + 1) (by omega)); (try have hs2 := hs (w.heap.size + 1 + 1) (by omega)); (try have hs3 := hs (w.heap.size + 1 + 1 + 1) (by omega))))
      · exact ⟨⟨by (repeat (first | with_reducible exact Ext.rfl' _ | with_reducible assumption | with_reducible refine Ext.al ?_ _ | with_reducible refine Ext.dr ?_ | with_reducible refine Ext.st ?_ (by simp) _ | with_reducible refine Ext.tr ?_ (by assumption))), .inr (.inr (.inl ⟨rfl, k1, of_decide_eq_false H0.out⟩))⟩, by simp [intOf]⟩
      · go_ret
        refine ⟨ret_int ?_, by (repeat (first | with_reducible exact Ext.rfl' _ | with_reducible assumption | with_reducible refine Ext.al ?_ _ | with_reducible refine Ext.dr ?_ | with_reducible refine Ext.st ?_ (by simp) _ | with_reducible refine Ext.tr ?_ (by assumption)))⟩
        rw [← HT.out, if_neg k1.out, if_pos (of_decide_eq_true H0.out)]
    · clear p0 p1 p2 p3 p6 p7
      cases ht : !allGood l
      all_goals
        have HC := Lib.hid (fun w' hw => HF3.out _ ht w' hw)
        have H0 := Lib.hid ht
        clear ht
        go_wp2_with (first | (go_at_call 101; with_reducible refine Calls.mono (HC.out _ (by (repeat (first | with_reducible exact Ext.rfl' _ | with_reducible assumption | with_reducible refine Ext.al ?_ _ | with_reducible refine Ext.dr ?_ | with_reducible refine Ext.st ?_ (by simp) _ | with_reducible refine Ext.tr ?_ (by assumption))))) ?_; rintro e w1 ⟨rfl, hb⟩; have hc := hb.ccell; have hf := hb.frz; have hs := hb.sz; (try simp at hs); (try have hs0 := hs w.heap.size (by omega)); (try have hs1 := hs (w.heap.size + 1) (by omega)); (try have hs2 := hs (w.heap.size + 1 + 1) (by omega)); (try have hs3 := hs (w.heap.size + 1 + 1 + 1) (by omega))))
      · exact ⟨⟨by (repeat (first | with_reducible exact Ext.rfl' _ | with_reducible assumption | with_reducible refine Ext.al ?_ _ | with_reducible refine Ext.dr ?_ | with_reducible refine Ext.st ?_ (by simp) _ | with_reducible refine Ext.tr ?_ (by assumption))), .inr (.inr (.inr (.inl ⟨rfl, k1, k2, (show allGood l = true from by have := H0.out; simpa using this)⟩)))⟩, by simp [intOf]⟩
      · go_ret
        refine ⟨ret_int ?_, by (repeat (first | with_reducible exact Ext.rfl' _ | with_reducible assumption | with_reducible refine Ext.al ?_ _ | with_reducible refine Ext.dr ?_ | with_reducible refine Ext.st ?_ (by simp) _ | with_reducible refine Ext.tr ?_ (by assumption)))⟩
        rw [← HT.out, if_neg k1.out, if_neg k2.out, if_pos (by have := H0.out; simpa using this)]
    · clear p0 p1 p2 p3 p4 p5
      have HC := Lib.hid (fun w' hw => HF4.out w' hw)
      cases ht : sidesG meetG betweenG l
      all_goals
        rw [ht] at HC
        have H0 := Lib.hid ht
        clear ht
        go_wp2_with (first | (go_at_call 102; with_reducible refine Calls.mono (HC.out _ (by (repeat (first | with_reducible exact Ext.rfl' _ | with_reducible assumption | with_reducible refine Ext.al ?_ _ | with_reducible refine Ext.dr ?_ | with_reducible refine Ext.st ?_ (by simp) _ | with_reducible refine Ext.tr ?_ (by assumption))))) ?_; rintro e w1 ⟨rfl, hb⟩; have hc := hb.ccell; have hf := hb.frz; have hs := hb.sz; (try simp at hs); (try have hs0 := hs w.heap.size (by omega)); (try have hs1 := hs (w.heap.size + 1) (by omega)); (try have hs2 := hs (w.heap.size + 1 + 1) (by omega)); (try have hs3 := hs (w.heap.size + 1 + 1 + 1) (by omega))))
      · exact ⟨⟨by (repeat (first | with_reducible exact Ext.rfl' _ | with_reducible assumption | with_reducible refine Ext.al ?_ _ | with_reducible refine Ext.dr ?_ | with_reducible refine Ext.st ?_ (by simp) _ | with_reducible refine Ext.tr ?_ (by assumption))), .inr (.inr (.inr (.inr ⟨rfl, k1, k2, k3, H0.out⟩)))⟩, by simp [intOf]⟩
      · go_ret
        refine ⟨ret_int ?_, by (repeat (first | with_reducible exact Ext.rfl' _ | with_reducible assumption | with_reducible refine Ext.al ?_ _ | with_reducible refine Ext.dr ?_ | with_reducible refine Ext.st ?_ (by simp) _ | with_reducible refine Ext.tr ?_ (by assumption)))⟩
        rw [← HT.out, if_neg k1.out, if_neg k2.out, if_neg (by rw [k3.out]; decide), if_pos H0.out]
    · clear p0 p1 p2 p3 p4 p5 p6 p7
      go_wp2
      go_ret
      refine ⟨ret_int ?_, by (repeat (first | with_reducible exact Ext.rfl' _ | with_reducible assumption | with_reducible refine Ext.al ?_ _ | with_reducible refine Ext.dr ?_ | with_reducible refine Ext.st ?_ (by simp) _ | with_reducible refine Ext.tr ?_ (by assumption)))⟩
      rw [← HT.out, if_neg k1.out, if_neg k2.out, if_neg (by rw [k3.out]; decide), if_neg (by rw [k4.out]; decide)]
end Go.Proofs.YtgnakeemcccfjaaGreat

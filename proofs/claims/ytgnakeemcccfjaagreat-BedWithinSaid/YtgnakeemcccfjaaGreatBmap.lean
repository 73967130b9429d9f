/- Maps from numbers to numbers, and sets of numbers, that a call has made. -/
import Derived.Test.YtgnakeemcccfjaaGreatBown
import Derived.Maps.OwnSet
namespace Go.Proofs.YtgnakeemcccfjaaGreat
open Go Go.RowKit Go.IntWalk
open Go.Maps (Keyed)

abbrev tZ : TypeId := 3
abbrev tB : TypeId := 4
theorem zkeyed : Keyed Tryz.prog tZ := Maps.int_keyed Tryz.underlying3
theorem zeroB (w : World) : (zeroValue 4).run Tryz.prog w = .ok (.bool false) w := by kernel_rfl
theorem zeroI (w : World) : (zeroValue 3).run Tryz.prog w = .ok (.int .i64 0) w := by kernel_rfl
/-- Block b is a set: the numbers x with f x. -/
def SetZ (w : World) (b n : Nat) (f : Int → Bool) : Prop :=
  ∃ D : DataW Unit, w.ownsMap Tryz.prog tZ (plainElem Tryz.prog tB) b n D ∧ ∀ x : Int, (Lit.int .i64 x).wf = true → D.atKey (.int .i64 x) (.lit (.bool false)) = .lit (.bool (f x))
/-- Block b is a map: at x it has f x. -/
def MapI (w : World) (b n : Nat) (f : Int → Option Int) : Prop :=
  ∃ D : DataW Unit, w.ownsMap Tryz.prog tZ (plainElem Tryz.prog tZ) b n D ∧ ∀ x : Int, (Lit.int .i64 x).wf = true → Maps.has D (.int .i64 x) = (f x).isSome ∧ D.atKey (.int .i64 x) (.lit (.int .i64 0)) = .lit (.int .i64 ((f x).getD 0))
theorem grown_of_ext {w w' : World} (h : Ext w w') : w.grownBy w' none := ⟨h.os, h.tape, h.output, h.size, fun k hk _ => h.block k hk⟩
theorem SetZ.ext {w w' : World} {b n : Nat} {f : Int → Bool} (h : SetZ w b n f) (hw : Ext w w') : SetZ w' b n f := by
  obtain ⟨D, h1, h2⟩ := h
  exact ⟨D, h1.kept (grown_of_ext hw) (by simp), h2⟩
theorem SetZ.lt {w : World} {b n : Nat} {f : Int → Bool} (h : SetZ w b n f) : b < w.heap.size := by obtain ⟨D, h1, _⟩ := h; exact h1.lt
theorem SetZ.kept {w w' : World} {b n : Nat} {f : Int → Bool} {row : Option Nat} (h : SetZ w b n f) (hg : w.grownBy w' row) (hne : some b ≠ row) : SetZ w' b n f := by
  obtain ⟨D, h1, h2⟩ := h
  exact ⟨D, h1.kept hg hne, h2⟩
theorem MapI.ext {w w' : World} {b n : Nat} {f : Int → Option Int} (h : MapI w b n f) (hw : Ext w w') : MapI w' b n f := by
  obtain ⟨D, h1, h2⟩ := h
  exact ⟨D, h1.kept (grown_of_ext hw) (by simp), h2⟩
theorem MapI.lt {w : World} {b n : Nat} {f : Int → Option Int} (h : MapI w b n f) : b < w.heap.size := by obtain ⟨D, h1, _⟩ := h; exact h1.lt
theorem MapI.kept {w w' : World} {b n : Nat} {f : Int → Option Int} {row : Option Nat} (h : MapI w b n f) (hg : w.grownBy w' row) (hne : some b ≠ row) : MapI w' b n f := by
  obtain ⟨D, h1, h2⟩ := h
  exact ⟨D, h1.kept hg hne, h2⟩
theorem SetZ.made (w : World) : SetZ (w.alloc (.map #[] 0)) w.heap.size 0 (fun _ => false) := ⟨.map [], World.ownsMap_made _ _ _ _, fun _ _ => rfl⟩
theorem MapI.made (w : World) : MapI (w.alloc (.map #[] 0)) w.heap.size 0 (fun _ => none) := ⟨.map [], World.ownsMap_made _ _ _ _, fun _ _ => ⟨rfl, rfl⟩⟩
theorem plainB_inv {v : Value} {z : DataW Unit × List MemPlace} (h : plainElem Tryz.prog tB v = some z) : ∃ x, v = .bool x ∧ z = (.lit (.bool x), []) := by
  unfold plainElem at h
  rw [show Tryz.prog.underlying tB = some .bool from Tryz.underlying4] at h
  cases v <;> simp at h
  exact ⟨_, rfl, h.symm⟩
theorem SetZ.look {w : World} {b n : Nat} {f : Int → Bool} (h : SetZ w b n f) (x : Int) (hx : (Lit.int .i64 x).wf = true) : (Instr.lookup 128 (.map (some b)) (.int .i64 x) false).run Tryz.prog w = .ok (.bool (f x)) w := by
  obtain ⟨D, h1, h2⟩ := h
  obtain ⟨v, ps, hrun, hv⟩ := h1.lookup (t := 128) (e := tB) zkeyed Tryz.underlying128 (zeroB w) (plainElem_bool Tryz.underlying4 false) (Maps.keyOf_int_mk Tryz.underlying3 hx)
  obtain ⟨y, rfl, hz⟩ := plainB_inv hv
  rw [h2 x hx] at hz
  simp only [Prod.mk.injEq, DataW.lit.injEq, Lit.bool.injEq] at hz
  rw [hrun, hz.1]
theorem MapI.look {w : World} {b n : Nat} {f : Int → Option Int} (h : MapI w b n f) (x : Int) (hx : (Lit.int .i64 x).wf = true) : (Instr.lookup 96 (.map (some b)) (.int .i64 x) false).run Tryz.prog w = .ok (.int .i64 ((f x).getD 0)) w := by
  obtain ⟨D, h1, h2⟩ := h
  obtain ⟨c, hrun, hat, _⟩ := h1.lookup_int (t := 96) zkeyed Tryz.underlying96 Tryz.underlying3 (zeroI w) (Maps.keyOf_int_mk Tryz.underlying3 hx)
  rw [(h2 x hx).2] at hat
  simp only [DataW.lit.injEq, Lit.int.injEq, true_and] at hat
  rw [hrun, hat]
theorem MapI.look_ok {w : World} {b n : Nat} {f : Int → Option Int} (h : MapI w b n f) (x : Int) (hx : (Lit.int .i64 x).wf = true) : (Instr.lookup 96 (.map (some b)) (.int .i64 x) true).run Tryz.prog w = .ok (.tuple #[.int .i64 ((f x).getD 0), .bool (f x).isSome]) w := by
  obtain ⟨D, h1, h2⟩ := h
  obtain ⟨v, ps, hrun, hv⟩ := h1.look_ok (t := 96) zkeyed Tryz.underlying96 (zeroI w) (plainElem_int Tryz.underlying3 (by decide)) (Maps.keyOf_int_mk Tryz.underlying3 hx)
  obtain ⟨c, rfl, hz, _⟩ := plainElem_int_inv Tryz.underlying3 hv
  rw [(h2 x hx).2] at hz
  simp only [Prod.mk.injEq, DataW.lit.injEq, Lit.int.injEq, true_and] at hz
  rw [hrun, (h2 x hx).1, hz.1]
theorem lit_ne {x y : Int} (h : y ≠ x) : (Lit.int .i64 y) ≠ (Lit.int .i64 x) := fun e => h (by injection e)
theorem wpList_setPut {w : World} {ops : Array Oper} {rest : List Oper} {o : Oper} {a : Act} {Q : Exit → Act → World → Prop}
    (hg : o.guard = none) (m x v : Operand) (hop : o.op = Op.mapUpdate 128 m x v) (b n : Nat) (f : Int → Bool) (hm : a.eval m = .map (some b)) (hown : SetZ w b n f) (hn : n < maxLen) (k : Int) (hx : a.eval x = .int .i64 k) (hv : a.eval v = .bool true) (hk : (Lit.int .i64 k).wf = true)
    (hK : ∀ w', SetZ w' b (n + 1) (fun y => decide (y = k) || f y) → w.grownBy w' (some b) → wpList Tryz.prog ops Q rest (a.put o.dst undef) w') : wpList Tryz.prog ops Q (o :: rest) a w := by
  obtain ⟨D, h1, h2⟩ := hown
  refine wpList_mapUpdate_own _ hg _ _ _ 128 hop tZ tB zkeyed Tryz.underlying128 _ b n D hm h1 hn _ _ (.int .i64 k) hx hv (Maps.keyOf_int_mk Tryz.underlying3 hk) (.lit (.bool true)) [] (plainElem_bool Tryz.underlying4 true) ?_
  intro w1 h3 h4
  refine hK w1 ⟨_, h3, fun y hy => ?_⟩ h4
  by_cases hyk : y = k
  · subst hyk
    rw [Maps.atKey_put_same h1.isMap (by simp [WideAt.IsKeyLit])]
    simp
  · rw [Maps.atKey_put_other (lit_ne hyk), h2 y hy]
    simp [hyk]
theorem wpList_mapPut {w : World} {ops : Array Oper} {rest : List Oper} {o : Oper} {a : Act} {Q : Exit → Act → World → Prop}
    (hg : o.guard = none) (m x v : Operand) (hop : o.op = Op.mapUpdate 96 m x v) (b n : Nat) (f : Int → Option Int) (hm : a.eval m = .map (some b)) (hown : MapI w b n f) (hn : n < maxLen) (k u : Int) (hx : a.eval x = .int .i64 k) (hv : a.eval v = .int .i64 u) (hk : (Lit.int .i64 k).wf = true) (hu : (Lit.int .i64 u).wf = true)
    (hK : ∀ w', MapI w' b (n + 1) (fun y => if y = k then some u else f y) → w.grownBy w' (some b) → wpList Tryz.prog ops Q rest (a.put o.dst undef) w') : wpList Tryz.prog ops Q (o :: rest) a w := by
  obtain ⟨D, h1, h2⟩ := hown
  refine wpList_mapUpdate_own _ hg _ _ _ 96 hop tZ tZ zkeyed Tryz.underlying96 _ b n D hm h1 hn _ _ (.int .i64 k) hx hv (Maps.keyOf_int_mk Tryz.underlying3 hk) (.lit (.int .i64 u)) [] (plainElem_int Tryz.underlying3 hu) ?_
  intro w1 h3 h4
  refine hK w1 ⟨_, h3, fun y hy => ?_⟩ h4
  by_cases hyk : y = k
  · subst hyk
    rw [Maps.atKey_put_same h1.isMap (by simp [WideAt.IsKeyLit]), Maps.has_put_same h1.isMap (by simp [WideAt.IsKeyLit])]
    simp
  · rw [Maps.atKey_put_other (lit_ne hyk), Maps.has_put_other (lit_ne hyk)]
    simp only [if_neg hyk]
    exact h2 y hy
end Go.Proofs.YtgnakeemcccfjaaGreat

/- Sets of texts that a call has made. -/
import Derived.Test.YtgbkjioajmnjbaaGreatBown
import Derived.Test.YtgbkjioajmnjbaaGreatSlp
import Derived.Maps.OwnSet
namespace Go.Proofs.YtgbkjioajmnjbaaGreat
open Go Go.RowKit Go.IntWalk
open Go.Maps (Keyed)

theorem skeyed : Keyed Tryz.prog 9 := Maps.string_keyed Tryz.underlying9
theorem zeroSB (w : World) : (zeroValue 4).run Tryz.prog w = .ok (.bool false) w := by kernel_rfl
/-- Block b is a set of texts: those x with f x. -/
def SetS (w : World) (b n : Nat) (f : ByteArray → Bool) : Prop :=
  ∃ D : DataW Unit, w.ownsMap Tryz.prog 9 (plainElem Tryz.prog 4) b n D ∧ ∀ x : ByteArray, D.atKey (.string x.data.toList) (.lit (.bool false)) = .lit (.bool (f x))
theorem grown_of_extS {w w' : World} (h : Ext w w') : w.grownBy w' none := ⟨h.os, h.tape, h.output, h.size, fun k hk _ => h.block k hk⟩
theorem SetS.ext {w w' : World} {b n : Nat} {f : ByteArray → Bool} (h : SetS w b n f) (hw : Ext w w') : SetS w' b n f := by
  obtain ⟨D, h1, h2⟩ := h
  exact ⟨D, h1.kept (grown_of_extS hw) (by simp), h2⟩
theorem SetS.lt {w : World} {b n : Nat} {f : ByteArray → Bool} (h : SetS w b n f) : b < w.heap.size := by obtain ⟨D, h1, _⟩ := h; exact h1.lt
theorem SetS.made (w : World) : SetS (w.alloc (.map #[] 0)) w.heap.size 0 (fun _ => false) := ⟨.map [], World.ownsMap_made _ _ _ _, fun _ => rfl⟩
theorem plainSB_inv {v : Value} {z : DataW Unit × List MemPlace} (h : plainElem Tryz.prog 4 v = some z) : ∃ x, v = .bool x ∧ z = (.lit (.bool x), []) := by
  unfold plainElem at h
  rw [show Tryz.prog.underlying 4 = some .bool from Tryz.underlying4] at h
  cases v <;> simp at h
  exact ⟨_, rfl, h.symm⟩
theorem SetS.look {w : World} {b n : Nat} {f : ByteArray → Bool} (h : SetS w b n f) (x : ByteArray) (hx : x.size ≤ maxLen) : (Instr.lookup 121 (.map (some b)) (.string x) false).run Tryz.prog w = .ok (.bool (f x)) w := by
  obtain ⟨D, h1, h2⟩ := h
  obtain ⟨v, ps, hrun, hv⟩ := h1.lookup (t := 121) (e := 4) skeyed Tryz.underlying121 (zeroSB w) (plainElem_bool Tryz.underlying4 false) (WideMaps.keyOf_string_mk Tryz.underlying9 hx)
  obtain ⟨y, rfl, hz⟩ := plainSB_inv hv
  rw [h2 x] at hz
  simp only [Prod.mk.injEq, DataW.lit.injEq, Lit.bool.injEq] at hz
  rw [hrun, hz.1]
theorem litS_ne {x y : ByteArray} (h : y ≠ x) : (Lit.string y.data.toList) ≠ (Lit.string x.data.toList) := fun e => h (WideShapes.bytes_inj (by injection e))
theorem wpList_setPutS {w : World} {ops : Array Oper} {rest : List Oper} {o : Oper} {a : Act} {Q : Exit → Act → World → Prop}
    (hg : o.guard = none) (m x v : Operand) (hop : o.op = Op.mapUpdate 121 m x v) (b n : Nat) (f : ByteArray → Bool) (hm : a.eval m = .map (some b)) (hown : SetS w b n f) (hn : n < maxLen) (k : ByteArray) (hx : a.eval x = .string k) (hv : a.eval v = .bool true) (hk : k.size ≤ maxLen)
    (hK : ∀ w', SetS w' b (n + 1) (fun y => sameS y k || f y) → w.grownBy w' (some b) → wpList Tryz.prog ops Q rest (a.put o.dst undef) w') : wpList Tryz.prog ops Q (o :: rest) a w := by
  obtain ⟨D, h1, h2⟩ := hown
  refine wpList_mapUpdate_own _ hg _ _ _ 121 hop 9 4 skeyed Tryz.underlying121 _ b n D hm h1 hn _ _ (.string k.data.toList) hx hv (WideMaps.keyOf_string_mk Tryz.underlying9 hk) (.lit (.bool true)) [] (plainElem_bool Tryz.underlying4 true) ?_
  intro w1 h3 h4
  refine hK w1 ⟨_, h3, fun y => ?_⟩ h4
  by_cases hyk : y = k
  · subst hyk
    rw [Maps.atKey_put_same h1.isMap (by simp [WideAt.IsKeyLit])]
    show DataW.lit (Lit.bool true) = DataW.lit (Lit.bool (sameS y y || f y))
    rw [sameS_self]
    rfl
  · rw [Maps.atKey_put_other (litS_ne hyk), h2 y]
    show DataW.lit (Lit.bool (f y)) = DataW.lit (Lit.bool (sameS y k || f y))
    rw [Bool.eq_false_iff.2 (fun e => hyk ((sameS_iff y k).1 e))]
    rfl
end Go.Proofs.YtgbkjioajmnjbaaGreat

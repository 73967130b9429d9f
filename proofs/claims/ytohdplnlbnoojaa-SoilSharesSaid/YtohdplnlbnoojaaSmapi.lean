/- Maps from texts to numbers that a call has made. -/
import Derived.Test.YtohdplnlbnoojaaSmap
namespace Go.Proofs.Ytohdplnlbnoojaa
open Go Go.RowKit Go.IntWalk
open Go.Maps (Keyed)

theorem szeroI (w : World) : (zeroValue 3).run Try.prog w = .ok (.int .i64 0) w := by kernel_rfl
/-- Block b is a map: at x it has f x. -/
def MapS (w : World) (b n : Nat) (f : ByteArray → Int) : Prop :=
  ∃ D : DataW Unit, w.ownsMap Try.prog 9 (plainElem Try.prog 3) b n D ∧ ∀ x : ByteArray, D.atKey (.string x.data.toList) (.lit (.int .i64 0)) = .lit (.int .i64 (f x))
theorem MapS.ext {w w' : World} {b n : Nat} {f : ByteArray → Int} (h : MapS w b n f) (hw : Ext w w') : MapS w' b n f := by
  obtain ⟨D, h1, h2⟩ := h
  exact ⟨D, h1.kept (grown_of_extS hw) (by simp), h2⟩
theorem MapS.lt {w : World} {b n : Nat} {f : ByteArray → Int} (h : MapS w b n f) : b < w.heap.size := by obtain ⟨D, h1, _⟩ := h; exact h1.lt
theorem MapS.kept {w w' : World} {b n : Nat} {f : ByteArray → Int} {row : Option Nat} (h : MapS w b n f) (hg : w.grownBy w' row) (hne : some b ≠ row) : MapS w' b n f := by
  obtain ⟨D, h1, h2⟩ := h
  exact ⟨D, h1.kept hg hne, h2⟩
theorem MapS.congr {w : World} {b n : Nat} {f f' : ByteArray → Int} (h : MapS w b n f) (hf : ∀ x, f x = f' x) : MapS w b n f' := by
  obtain ⟨D, h1, h2⟩ := h
  exact ⟨D, h1, fun x => by rw [← hf x]; exact h2 x⟩
theorem MapS.made (w : World) : MapS (w.alloc (.map #[] 0)) w.heap.size 0 (fun _ => 0) := ⟨.map [], World.ownsMap_made _ _ _ _, fun _ => rfl⟩
theorem MapS.look {w : World} {b n : Nat} {f : ByteArray → Int} (h : MapS w b n f) (x : ByteArray) (hx : x.size ≤ maxLen) : (Instr.lookup 122 (.map (some b)) (.string x) false).run Try.prog w = .ok (.int .i64 (f x)) w := by
  obtain ⟨D, h1, h2⟩ := h
  obtain ⟨c, hrun, hat, _⟩ := h1.lookup_int (t := 122) skeyed Try.underlying122 Try.underlying3 (szeroI w) (WideMaps.keyOf_string_mk Try.underlying9 hx)
  rw [h2 x] at hat
  simp only [DataW.lit.injEq, Lit.int.injEq, true_and] at hat
  rw [hrun, hat]
theorem wpList_mapPutS {w : World} {ops : Array Oper} {rest : List Oper} {o : Oper} {a : Act} {Q : Exit → Act → World → Prop}
    (hg : o.guard = none) (m x v : Operand) (hop : o.op = Op.mapUpdate 122 m x v) (b n : Nat) (f : ByteArray → Int) (hm : a.eval m = .map (some b)) (hown : MapS w b n f) (hn : n < maxLen) (k : ByteArray) (u : Int) (hx : a.eval x = .string k) (hv : a.eval v = .int .i64 u) (hk : k.size ≤ maxLen) (hu : (Lit.int .i64 u).wf = true)
    (hK : ∀ w', MapS w' b (n + 1) (fun y => if sameS k y = true then u else f y) → w.grownBy w' (some b) → wpList Try.prog ops Q rest (a.put o.dst undef) w') : wpList Try.prog ops Q (o :: rest) a w := by
  obtain ⟨D, h1, h2⟩ := hown
  refine wpList_mapUpdate_own _ hg _ _ _ 122 hop 9 3 skeyed Try.underlying122 _ b n D hm h1 hn _ _ (.string k.data.toList) hx hv (WideMaps.keyOf_string_mk Try.underlying9 hk) (.lit (.int .i64 u)) [] (plainElem_int Try.underlying3 hu) ?_
  intro w1 h3 h4
  refine hK w1 ⟨_, h3, fun y => ?_⟩ h4
  by_cases hyk : y = k
  · subst hyk
    rw [Maps.atKey_put_same h1.isMap (by simp [WideAt.IsKeyLit])]
    show DataW.lit (Lit.int .i64 u) = DataW.lit (Lit.int .i64 (if sameS y y = true then u else f y))
    rw [if_pos (sameS_self y)]
  · rw [Maps.atKey_put_other (litS_ne hyk), h2 y]
    show DataW.lit (Lit.int .i64 (f y)) = DataW.lit (Lit.int .i64 (if sameS k y = true then u else f y))
    rw [if_neg (fun e => hyk ((sameS_iff k y).1 e).symm)]
end Go.Proofs.Ytohdplnlbnoojaa

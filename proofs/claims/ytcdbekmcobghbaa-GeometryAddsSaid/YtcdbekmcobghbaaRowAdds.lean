/- GeometryAdds: the cross products with a fourth point add up; turning all points by a quarter changes nothing. It holds for every input; there is no condition. -/
import Derived.Test.YtcdbekmcobghbaaRow
import Derived.Test.YtcdbekmcobghbaaLawAdds
import Derived.Test.YtcdbekmcobghbaaAddsBad
import Derived.Test.YtcdbekmcobghbaaFactsAdds
namespace Go.Proofs.Ytcdbekmcobghbaa
open Go Go.ChangeShapes Go.WideShapes Go.ChangeAt Go.RowKit Go.Joins

theorem adds_walk (ax ay bx by_ cx cy dx dy : Int) (w : World) :
    Calls Try.prog 16 #[.agg #[.int .i64 ax, .int .i64 ay, .int .i64 bx, .int .i64 by_, .int .i64 cx, .int .i64 cy, .int .i64 dx, .int .i64 dy]] w
      fun e w' => e = .returned (.bool true) ∧ Ext w w' := by
  cases ga : good ⟨ax, ay⟩
  · exact adds_bad0 _ _ _ _ _ _ _ _ _ ga
  cases gb : good ⟨bx, by_⟩
  · exact adds_bad1 _ _ _ _ _ _ _ _ _ ga gb
  cases gc : good ⟨cx, cy⟩
  · exact adds_bad2 _ _ _ _ _ _ _ _ _ ga gb gc
  cases gd : good ⟨dx, dy⟩
  · exact adds_bad3 _ _ _ _ _ _ _ _ _ ga gb gc gd
  exact adds_good _ _ _ _ _ _ _ _ _ ga gb gc gd

theorem okWide_array {P : Program} {w : World} {r : Reach} {base : Nat} {t e : TypeId} {n : Nat} {v : Value} (ht : P.underlying t = some (.array n e)) (h : Value.okWide P w r base t v) : ∃ cs, v = .agg cs ∧ cs.size = P.cellsOf t := by
  simp only [Value.okWide, ht] at h
  obtain ⟨cs, h1, h2, _⟩ := h
  exact ⟨cs, h1, h2⟩
theorem array8 {α : Type} {cs : Array α} (h : cs.size = 8) : ∃ c0 c1 c2 c3 c4 c5 c6 c7, cs = #[c0, c1, c2, c3, c4, c5, c6, c7] := by
  obtain ⟨l⟩ := cs
  match l, h with
  | [c0, c1, c2, c3, c4, c5, c6, c7], _ => exact ⟨c0, c1, c2, c3, c4, c5, c6, c7, rfl⟩
theorem cells4 : Try.prog.cellsOf 32 = 8 := by kernel_rfl

/-- A point's two cells, read: two whole numbers. -/
theorem point_ints {H : Type} {enc : TypeId × Value → H} {w : World} {base : Nat} {spare : Nat → Bool} {held : Bool} {fuel : Nat} {c0 c1 : Value} {x : DataW H × List MemPlace}
    (h : DataW.trod enc Try.prog w base spare held fuel 23 [c0, c1] = some x) : ∃ a b, c0 = .int .i64 a ∧ c1 = .int .i64 b := by
  obtain ⟨y0, y1, n, _, _, h0, h1⟩ := trod_struct2 Try.underlying23 h
  simp only [cells1] at h0 h1
  obtain ⟨a0, e0, _, _⟩ := DataW.trod_int Try.underlying3 h0
  obtain ⟨a1, e1, _, _⟩ := DataW.trod_int Try.underlying3 h1
  simp at e0 e1
  exact ⟨_, _, e0, e1⟩

set_option maxRecDepth 100000 in
theorem four_ints {H : Type} {enc : TypeId × Value → H} {w : World} {base b0 : Nat} {r : Reach} {spare : Nat → Bool} {held : Bool} {v : Value} {d : DataW H} {p : List MemPlace}
    (hv : Value.okWide Try.prog w r b0 32 v) (h : DataW.Trod enc Try.prog w base spare held 32 v d p) :
    ∃ a0 a1 a2 a3 a4 a5 a6 a7, v = .agg #[.int .i64 a0, .int .i64 a1, .int .i64 a2, .int .i64 a3, .int .i64 a4, .int .i64 a5, .int .i64 a6, .int .i64 a7] := by
  obtain ⟨cs, rfl, hsz⟩ := okWide_array Try.underlying32 hv
  obtain ⟨c0, c1, c2, c3, c4, c5, c6, c7, rfl⟩ := array8 (hsz.trans cells4)
  obtain ⟨fuel, hf⟩ := h
  obtain ⟨xs, m, _, _, _, hn, hx⟩ := DataW.trod_array Try.underlying32 hf
  have get : ∀ i : Nat, i < 4 → ∃ x, xs[i]? = some x := fun i hi => ⟨xs[i]'(by omega), List.getElem?_eq_getElem _⟩
  simp only [cellsP, Value.cells] at hx
  obtain ⟨x0, g0⟩ := get 0 (by omega)
  obtain ⟨x1, g1⟩ := get 1 (by omega)
  obtain ⟨x2, g2⟩ := get 2 (by omega)
  obtain ⟨x3, g3⟩ := get 3 (by omega)
  obtain ⟨a0, a1, rfl, rfl⟩ := point_ints (by have := hx 0 (by omega); rw [g0] at this; simpa using this)
  obtain ⟨a2, a3, rfl, rfl⟩ := point_ints (by have := hx 1 (by omega); rw [g1] at this; simpa using this)
  obtain ⟨a4, a5, rfl, rfl⟩ := point_ints (by have := hx 2 (by omega); rw [g2] at this; simpa using this)
  obtain ⟨a6, a7, rfl, rfl⟩ := point_ints (by have := hx 3 (by omega); rw [g3] at this; simpa using this)
  exact ⟨_, _, _, _, _, _, _, _, rfl⟩

set_option maxRecDepth 100000 in
theorem adds_lifted (os : Os) (started : os.Started) (H : Type) (enc : TypeId × Value → H) :
    ReturnsInHanded {} Try.checked os 16 .any (Rows.geometryAddsSpec.pre6 enc Try.prog Try.f16 Rows.geometryAddsRow.domain false) (Rows.geometryAddsSpec.post enc Try.prog Try.f16 false true false false) := by
  refine returnsInHanded_of_change (C := Try.checked) ownK started (by kernel_rfl) Try.func16
    (ChangeSpec.witness6 (enc := enc) (C := Try.checked) false ⟨#[], #[.agg #[.int .i64 0, .int .i64 0, .int .i64 0, .int .i64 0, .int .i64 0, .int .i64 0, .int .i64 0, .int .i64 0]], []⟩ 8 (by kernel_rfl) (by kernel_rfl) (by kernel_rfl) (by kernel_rfl)) ?_
  intro W base args ds gs before hval0 hW _ _
  have hval : ∀ (j : Nat) t v, Try.f16.params[j]? = some t → args[j]? = some v → Value.okWide Try.prog W .any base t v := hval0
  have hW' := hW
  have hlt : ∀ x ∈ before, x.block < W.heap.size := fun x hx => hW.lt x hx
  obtain ⟨p, q, hA0, hV, rfl, _, _⟩ := hW
  obtain ⟨rfl, rfl⟩ := trodVars_none hV
  rw [List.append_nil] at hlt
  have hA : DataW.TrodAll enc Try.prog W 0 (fun _ => true) true Try.f16.params.toList args.toList ds p := hA0
  rw [Try.params16] at hA hval
  have hA1 := hA
  obtain ⟨v0, d0, rfl, rfl, h0⟩ := trodAll_one hA
  obtain ⟨a0, a1, a2, a3, a4, a5, a6, a7, rfl⟩ := four_ints (hval 0 32 v0 rfl rfl) h0
  refine (adds_walk a0 a1 a2 a3 a4 a5 a6 a7 W).mono fun e W' ⟨he, hb⟩ => ?_
  subst he
  refine ⟨_, rfl, _, _, _, [], p, [], hW', trodAll_cons_mk (shut_bool Try.underlying4 _) trodAll_mk0, Below.trodAll (by kernel_rfl) hb (by intro t ht; simp at ht; subst ht; exact ⟨by kernel_rfl, by decide +kernel⟩) hA1 hlt, rfl, hb.frame _, fun h => by cases h⟩

theorem adds_holds : Rows.GeometryAddsSaid :=
  OpenClaim.holds_of_wide 16 Try.f16 rfl rfl rfl rfl rfl rfl rfl ⟨rfl, rfl, rfl, rfl, rfl⟩ rfl rfl rfl rfl rfl pa_name Try.func16 adds_joined
    (of_decide_eq_true (by kernel_rfl)) (by unfold Func.isWrapper; rw [if_neg (of_decide_eq_false (by kernel_rfl))]; exact ⟨rfl, rfl⟩)
    (fun os started H enc _ => adds_lifted os started H enc)

#print axioms adds_holds
end Go.Proofs.Ytcdbekmcobghbaa

/- GeometryPolygons: whether corners are a polygon, and its area, are as specified; the area does not depend on the first corner and the direction. It holds for every input; there is no condition. -/
import Derived.Test.YtcdbekmcobghbaaRow
import Derived.Test.YtcdbekmcobghbaaOpen
import Derived.Test.YtcdbekmcobghbaaLawPoly
import Derived.Test.YtcdbekmcobghbaaFactsPolygons
namespace Go.Proofs.Ytcdbekmcobghbaa
open Go Go.ChangeShapes Go.WideShapes Go.ChangeAt Go.RowKit Go.Joins

set_option maxRecDepth 100000 in
theorem polygons_lifted (os : Os) (started : os.Started) (H : Type) (enc : TypeId × Value → H) :
    ReturnsInHanded {} Try.checked os 7 .any (Rows.geometryPolygonsSpec.pre6 enc Try.prog Try.f7 Rows.geometryPolygonsRow.domain false) (Rows.geometryPolygonsSpec.post enc Try.prog Try.f7 false true false false) := by
  refine returnsInHanded_of_change (C := Try.checked) ownK started (by kernel_rfl) Try.func7
    (ChangeSpec.witness6 (enc := enc) (C := Try.checked) false ⟨#[], #[.slice none 0 0, .int .u8 0], []⟩ 8 (by kernel_rfl) (by kernel_rfl) (by kernel_rfl) (by kernel_rfl)) ?_
  intro W base args ds gs before hval0 hW _ _
  have hval : ∀ (j : Nat) t v, Try.f7.params[j]? = some t → args[j]? = some v → Value.okWide Try.prog W .any base t v := hval0
  have hW' := hW
  have hlt : ∀ x ∈ before, x.block < W.heap.size := fun x hx => hW.lt x hx
  obtain ⟨p, q, hA0, hV, rfl, _, _⟩ := hW
  obtain ⟨rfl, rfl⟩ := trodVars_none hV
  rw [List.append_nil] at hlt
  have hA : DataW.TrodAll enc Try.prog W 0 (fun _ => true) true Try.f7.params.toList args.toList ds p := hA0
  rw [Try.params7] at hA hval
  have hA1 := hA
  obtain ⟨v0, v1, d0, d1, p0, p1, rfl, rfl, rfl, h0, h1⟩ := trodAll_two hA
  obtain ⟨l, A, cA, rfl, hlA, hcA, hRA⟩ := open_points (hval 0 37 v0 rfl rfl) h0
  obtain ⟨n1, rfl⟩ := okWide_int Try.underlying5 (hval 1 5 v1 rfl rfl)
  obtain ⟨fuel1, hf1⟩ := id h1
  obtain ⟨a1, e1, _, hw1⟩ := DataW.trod_int Try.underlying5 hf1
  have hn1 : a1 = n1 := by simp [Value.cells] at e1; exact e1.symm
  subst hn1
  have hb0 : IntKind.u8.min ≤ a1 ∧ a1 ≤ IntKind.u8.max := by simpa [Lit.wf] using hw1
  have hb1 : 0 ≤ a1 ∧ a1 < 256 := by
    rw [show IntKind.u8.min = 0 from rfl, show IntKind.u8.max = 255 from rfl] at hb0
    omega
  obtain ⟨t1, rfl⟩ : ∃ t1 : Nat, a1 = t1 := ⟨a1.toNat, by omega⟩
  refine (poly_walk l t1 W A cA (by omega) (by omega) hRA).mono fun e W' ⟨he, hb⟩ => ?_
  subst he
  refine ⟨_, rfl, _, _, _, [], p0 ++ p1, [], hW', trodAll_cons_mk (shut_bool Try.underlying4 _) trodAll_mk0, Below.trodAll (by kernel_rfl) hb (by intro t ht; simp at ht; rcases ht with rfl | rfl <;> exact ⟨by kernel_rfl, by decide +kernel⟩) hA1 hlt, rfl, hb.frame _, fun h => by cases h⟩

theorem polygons_holds : Rows.GeometryPolygonsSaid :=
  OpenClaim.holds_of_wide 7 Try.f7 rfl rfl rfl rfl rfl rfl rfl ⟨rfl, rfl, rfl, rfl, rfl⟩ rfl rfl rfl rfl rfl pg_name Try.func7 polygons_joined
    (of_decide_eq_true (by kernel_rfl)) (by unfold Func.isWrapper; rw [if_neg (of_decide_eq_false (by kernel_rfl))]; exact ⟨rfl, rfl⟩)
    (fun os started H enc _ => polygons_lifted os started H enc)

#print axioms polygons_holds
end Go.Proofs.Ytcdbekmcobghbaa

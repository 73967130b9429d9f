/- GeometryTouches: whether a polygon and a rectangle have a point in common is as specified. It holds for every input; there is no condition. -/
import Derived.Test.YtcdbekmcobghbaaRow
import Derived.Test.YtcdbekmcobghbaaOpen
import Derived.Test.YtcdbekmcobghbaaLawTouch
import Derived.Test.YtcdbekmcobghbaaFactsTouches
namespace Go.Proofs.Ytcdbekmcobghbaa
open Go Go.ChangeShapes Go.WideShapes Go.ChangeAt Go.RowKit Go.Joins

set_option maxRecDepth 100000 in
theorem touches_lifted (os : Os) (started : os.Started) (H : Type) (enc : TypeId × Value → H) :
    ReturnsInHanded {} Try.checked os 9 .any (Rows.geometryTouchesSpec.pre6 enc Try.prog Try.f9 Rows.geometryTouchesRow.domain false) (Rows.geometryTouchesSpec.post enc Try.prog Try.f9 false true false false) := by
  refine returnsInHanded_of_change (C := Try.checked) ownK started (by kernel_rfl) Try.func9
    (ChangeSpec.witness6 (enc := enc) (C := Try.checked) false ⟨#[], #[.slice none 0 0, .agg #[.int .i64 0, .int .i64 0], .agg #[.int .i64 0, .int .i64 0]], []⟩ 8 (by kernel_rfl) (by kernel_rfl) (by kernel_rfl) (by kernel_rfl)) ?_
  intro W base args ds gs before hval0 hW _ _
  have hval : ∀ (j : Nat) t v, Try.f9.params[j]? = some t → args[j]? = some v → Value.okWide Try.prog W .any base t v := hval0
  have hW' := hW
  have hlt : ∀ x ∈ before, x.block < W.heap.size := fun x hx => hW.lt x hx
  obtain ⟨p, q, hA0, hV, rfl, _, _⟩ := hW
  obtain ⟨rfl, rfl⟩ := trodVars_none hV
  rw [List.append_nil] at hlt
  have hA : DataW.TrodAll enc Try.prog W 0 (fun _ => true) true Try.f9.params.toList args.toList ds p := hA0
  rw [Try.params9] at hA hval
  have hA1 := hA
  obtain ⟨v0, v1, v2, d0, d1, d2, p0, p1, p2, rfl, rfl, rfl, h0, h1, h2⟩ := trodAll_three hA
  obtain ⟨l, A, cA, rfl, hlA, hcA, hRA⟩ := open_points (hval 0 37 v0 rfl rfl) h0
  obtain ⟨c4, c5, y4, y5, m'', rfl, _, _, hy4, hy5⟩ := open_agg2 Try.underlying23 (by kernel_rfl) cellsP (hval 1 23 v1 rfl rfl) h1
  obtain ⟨a4, e4, _, _⟩ := DataW.trod_int Try.underlying3 hy4
  obtain ⟨a5, e5, _, _⟩ := DataW.trod_int Try.underlying3 hy5
  obtain ⟨c6, c7, y6, y7, m3, rfl, _, _, hy6, hy7⟩ := open_agg2 Try.underlying23 (by kernel_rfl) cellsP (hval 2 23 v2 rfl rfl) h2
  obtain ⟨a6, e6, _, _⟩ := DataW.trod_int Try.underlying3 hy6
  obtain ⟨a7, e7, _, _⟩ := DataW.trod_int Try.underlying3 hy7
  simp at e4 e5 e6 e7
  subst e4 e5 e6 e7
  refine (tou_walk l a4 a5 a6 a7 W A cA (by omega) hRA).mono fun e W' ⟨he, hb⟩ => ?_
  subst he
  refine ⟨_, rfl, _, _, _, [], p0 ++ p1 ++ p2, [], hW', trodAll_cons_mk (shut_bool Try.underlying4 _) trodAll_mk0, Below.trodAll (by kernel_rfl) hb (by intro t ht; simp at ht; rcases ht with rfl | rfl | rfl <;> exact ⟨by kernel_rfl, by decide +kernel⟩) hA1 hlt, rfl, hb.frame _, fun h => by cases h⟩

theorem touches_holds : Rows.GeometryTouchesSaid :=
  OpenClaim.holds_of_wide 9 Try.f9 rfl rfl rfl rfl rfl rfl rfl ⟨rfl, rfl, rfl, rfl, rfl⟩ rfl rfl rfl rfl rfl ptc_name Try.func9 touches_joined
    (of_decide_eq_true (by kernel_rfl)) (by unfold Func.isWrapper; rw [if_neg (of_decide_eq_false (by kernel_rfl))]; exact ⟨rfl, rfl⟩)
    (fun os started H enc _ => touches_lifted os started H enc)

#print axioms touches_holds
end Go.Proofs.Ytcdbekmcobghbaa

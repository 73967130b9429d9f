/- GeometryLocates: the triangle to which a point belongs is as specified, for any triangles. It holds for every input; there is no condition. -/
import Derived.Test.YtcdbekmcobghbaaRow
import Derived.Test.YtcdbekmcobghbaaOpen
import Derived.Test.YtcdbekmcobghbaaLawLoc
import Derived.Test.YtcdbekmcobghbaaFactsLocates
namespace Go.Proofs.Ytcdbekmcobghbaa
open Go Go.ChangeShapes Go.WideShapes Go.ChangeAt Go.RowKit Go.Joins

set_option maxRecDepth 100000 in
theorem locates_lifted (os : Os) (started : os.Started) (H : Type) (enc : TypeId × Value → H) :
    ReturnsInHanded {} Try.checked os 14 .any (Rows.geometryLocatesSpec.pre6 enc Try.prog Try.f14 Rows.geometryLocatesRow.domain false) (Rows.geometryLocatesSpec.post enc Try.prog Try.f14 false true false false) := by
  refine returnsInHanded_of_change (C := Try.checked) ownK started (by kernel_rfl) Try.func14
    (ChangeSpec.witness6 (enc := enc) (C := Try.checked) false ⟨#[], #[.slice none 0 0, .slice none 0 0, .agg #[.int .i64 0, .int .i64 0]], []⟩ 8 (by kernel_rfl) (by kernel_rfl) (by kernel_rfl) (by kernel_rfl)) ?_
  intro W base args ds gs before hval0 hW _ _
  have hval : ∀ (j : Nat) t v, Try.f14.params[j]? = some t → args[j]? = some v → Value.okWide Try.prog W .any base t v := hval0
  have hW' := hW
  have hlt : ∀ x ∈ before, x.block < W.heap.size := fun x hx => hW.lt x hx
  obtain ⟨p, q, hA0, hV, rfl, _, _⟩ := hW
  obtain ⟨rfl, rfl⟩ := trodVars_none hV
  rw [List.append_nil] at hlt
  have hA : DataW.TrodAll enc Try.prog W 0 (fun _ => true) true Try.f14.params.toList args.toList ds p := hA0
  rw [Try.params14] at hA hval
  have hA1 := hA
  obtain ⟨v0, v1, v2, d0, d1, d2, p0, p1, p2, rfl, rfl, rfl, h0, h1, h2⟩ := trodAll_three hA
  obtain ⟨l, A, cA, rfl, hlA, hcA, hRA⟩ := open_points (hval 0 37 v0 rfl rfl) h0
  obtain ⟨ts, B, cB, rfl, hlB, hcB, hRB⟩ := open_tris (hval 1 54 v1 rfl rfl) h1
  obtain ⟨c4, c5, y4, y5, m'', rfl, _, _, hy4, hy5⟩ := open_agg2 Try.underlying23 (by kernel_rfl) cellsP (hval 2 23 v2 rfl rfl) h2
  obtain ⟨a4, e4, _, _⟩ := DataW.trod_int Try.underlying3 hy4
  obtain ⟨a5, e5, _, _⟩ := DataW.trod_int Try.underlying3 hy5
  simp at e4 e5
  subst e4 e5
  refine (locs_walk l ts a4 a5 W A B cA cB (by omega) (by omega) hRA hRB).mono fun e W' ⟨he, hb⟩ => ?_
  subst he
  refine ⟨_, rfl, _, _, _, [], p0 ++ p1 ++ p2, [], hW', trodAll_cons_mk (shut_bool Try.underlying4 _) trodAll_mk0, Below.trodAll (by kernel_rfl) hb (by intro t ht; simp at ht; rcases ht with rfl | rfl | rfl <;> exact ⟨by kernel_rfl, by decide +kernel⟩) hA1 hlt, rfl, hb.frame _, fun h => by cases h⟩

theorem locates_holds : Rows.GeometryLocatesSaid :=
  OpenClaim.holds_of_wide 14 Try.f14 rfl rfl rfl rfl rfl rfl rfl ⟨rfl, rfl, rfl, rfl, rfl⟩ rfl rfl rfl rfl rfl pq_name Try.func14 locates_joined
    (of_decide_eq_true (by kernel_rfl)) (by unfold Func.isWrapper; rw [if_neg (of_decide_eq_false (by kernel_rfl))]; exact ⟨rfl, rfl⟩)
    (fun os started H enc _ => locates_lifted os started H enc)

#print axioms locates_holds
end Go.Proofs.Ytcdbekmcobghbaa

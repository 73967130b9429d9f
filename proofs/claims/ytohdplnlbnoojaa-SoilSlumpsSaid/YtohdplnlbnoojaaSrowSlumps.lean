/- SoilSlumps: the beds to which a bed slumps and heaps, and the volumes between, are as specified. It holds for every input; there is no condition. -/
import Derived.Test.YtohdplnlbnoojaaSrowg
import Derived.Test.YtohdplnlbnoojaaSlawsu
import Derived.Test.YtohdplnlbnoojaaSfactsSlumps
namespace Go.Proofs.Ytohdplnlbnoojaa
open Go Go.ChangeShapes Go.WideShapes Go.ChangeAt Go.RowKit Go.Joins

set_option maxRecDepth 100000 in
theorem sslumps_lifted (os : Os) (started : os.Started) (H : Type) (enc : TypeId × Value → H) :
    ReturnsInHanded {} Try.checked os 8 .any (Rows.soilSlumpsSpec.pre6 enc Try.prog Try.f8 Rows.soilSlumpsRow.domain false) (Rows.soilSlumpsSpec.post enc Try.prog Try.f8 false true false false) := by
  refine returnsInHanded_of_change (C := Try.checked) ownK started (by kernel_rfl) Try.func8
    (ChangeSpec.witness6 (enc := enc) (C := Try.checked) false ⟨#[], #[.agg #[.slice none 0 0, .slice none 0 0], .agg #[.int .i64 0, .int .i64 0, .int .i64 0, .int .i64 0, .int .i64 0, .slice none 0 0]], []⟩ 8 (by kernel_rfl) (by kernel_rfl) (by kernel_rfl) (by kernel_rfl)) ?_
  intro W base args ds gs before hval0 hW _ _
  have hval : ∀ (j : Nat) t v, Try.f8.params[j]? = some t → args[j]? = some v → Value.okWide Try.prog W .any base t v := hval0
  have hW' := hW
  have hlt : ∀ x ∈ before, x.block < W.heap.size := fun x hx => hW.lt x hx
  obtain ⟨p, q, hA0, hV, rfl, _, _⟩ := hW
  obtain ⟨rfl, rfl⟩ := trodVars_none hV
  rw [List.append_nil] at hlt
  have hA : DataW.TrodAll enc Try.prog W 0 (fun _ => true) true Try.f8.params.toList args.toList ds p := hA0
  rw [Try.params8] at hA hval
  have hA1 := hA
  obtain ⟨v0, v1, d0, d1, p0, p1, rfl, rfl, rfl, h0, h1⟩ := trodAll_two hA
  obtain ⟨so0, bo0, AS0, AB0, cS0, cB0, rfl, hG0⟩ := open_ground (hval 0 25 v0 rfl rfl) h0
  obtain ⟨g1, A1, c1, rfl, hl1, hc1, hR1⟩ := open_grid (hval 1 57 v1 rfl rfl) h1
  refine (su_walk so0 bo0 g1 W AS0 AB0 cS0 cB0 hG0 A1 c1 (Nat.le_trans hl1 hc1) hR1).mono fun e W' ⟨he, hb⟩ => ?_
  subst he
  refine ⟨_, rfl, _, _, _, [], _, [], hW', trodAll_cons_mk (shut_bool Try.underlying4 _) trodAll_mk0, Below.trodAll (by kernel_rfl) hb (by intro t ht; simp at ht; rcases ht with rfl | rfl <;> exact ⟨by kernel_rfl, by decide +kernel⟩) hA1 hlt, rfl, hb.frame _, fun h => by cases h⟩

theorem sslumps_holds : Rows.SoilSlumpsSaid :=
  OpenClaim.holds_of_wide 8 Try.f8 rfl rfl rfl rfl rfl rfl rfl ⟨rfl, rfl, rfl, rfl, rfl⟩ rfl rfl rfl rfl rfl ssu_name Try.func8 ssu_joined
    (of_decide_eq_true (by kernel_rfl)) (by unfold Func.isWrapper; rw [if_neg (of_decide_eq_false (by kernel_rfl))]; exact ⟨rfl, rfl⟩)
    (fun os started H enc _ => sslumps_lifted os started H enc)

#print axioms sslumps_holds
end Go.Proofs.Ytohdplnlbnoojaa

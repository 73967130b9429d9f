/- Closed facts of one function of the program. -/
import Derived.Test.YtcdbekmcobghbaaFacts
namespace Go.Proofs.Ytcdbekmcobghbaa
open Go
theorem pf_inPlace : Try.prog.inPlace 3 = [] := by kernel_rfl
theorem pf_unf : Try.prog.unfollowed 3 = true := by kernel_rfl
theorem pf_rec : Try.prog.recurses 3 = true := by kernel_rfl
theorem pf_vars : Try.prog.varsNamed 3 = [] := by kernel_rfl
theorem pf_name : Try.prog.funcNamed Rows.geometryPointsRow.func = some 3 := by kernel_rfl
theorem points_joined : joinedFacts Try.prog 3 Try.f3 Rows.geometryPointsSpec Rows.geometryPointsRow = true := by
  unfold joinedFacts
  rw [pk_laid, pk_maps, pk_stops, pk_knobs, pk_heard, pk_may, pk_lifts, pk_plain, pf_inPlace, pf_unf, pf_rec, pf_vars]
  kernel_rfl
end Go.Proofs.Ytcdbekmcobghbaa

/- Closed facts of one function of the program. -/
import Derived.Test.YtcdbekmcobghbaaFacts
namespace Go.Proofs.Ytcdbekmcobghbaa
open Go
theorem pp_inPlace : Try.prog.inPlace 18 = [] := by kernel_rfl
theorem pp_unf : Try.prog.unfollowed 18 = true := by kernel_rfl
theorem pp_rec : Try.prog.recurses 18 = true := by kernel_rfl
theorem pp_vars : Try.prog.varsNamed 18 = [] := by kernel_rfl
theorem pp_name : Try.prog.funcNamed Rows.geometryPlanesRow.func = some 18 := by kernel_rfl
theorem planes_joined : joinedFacts Try.prog 18 Try.f18 Rows.geometryPlanesSpec Rows.geometryPlanesRow = true := by
  unfold joinedFacts
  rw [pk_laid, pk_maps, pk_stops, pk_knobs, pk_heard, pk_may, pk_lifts, pk_plain, pp_inPlace, pp_unf, pp_rec, pp_vars]
  kernel_rfl
end Go.Proofs.Ytcdbekmcobghbaa

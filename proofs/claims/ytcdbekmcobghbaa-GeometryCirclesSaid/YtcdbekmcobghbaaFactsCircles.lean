/- Closed facts of one function of the program. -/
import Derived.Test.YtcdbekmcobghbaaFacts
namespace Go.Proofs.Ytcdbekmcobghbaa
open Go
theorem pc_inPlace : Try.prog.inPlace 6 = [] := by kernel_rfl
theorem pc_unf : Try.prog.unfollowed 6 = true := by kernel_rfl
theorem pc_rec : Try.prog.recurses 6 = true := by kernel_rfl
theorem pc_vars : Try.prog.varsNamed 6 = [] := by kernel_rfl
theorem pc_name : Try.prog.funcNamed Rows.geometryCirclesRow.func = some 6 := by kernel_rfl
theorem circles_joined : joinedFacts Try.prog 6 Try.f6 Rows.geometryCirclesSpec Rows.geometryCirclesRow = true := by
  unfold joinedFacts
  rw [pk_laid, pk_maps, pk_stops, pk_knobs, pk_heard, pk_may, pk_lifts, pk_plain, pc_inPlace, pc_unf, pc_rec, pc_vars]
  kernel_rfl
end Go.Proofs.Ytcdbekmcobghbaa

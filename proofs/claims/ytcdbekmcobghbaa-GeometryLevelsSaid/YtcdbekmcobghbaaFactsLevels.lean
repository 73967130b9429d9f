/- Closed facts of one function of the program. -/
import Derived.Test.YtcdbekmcobghbaaFacts
namespace Go.Proofs.Ytcdbekmcobghbaa
open Go
theorem pl_inPlace : Try.prog.inPlace 15 = [] := by kernel_rfl
theorem pl_unf : Try.prog.unfollowed 15 = true := by kernel_rfl
theorem pl_rec : Try.prog.recurses 15 = true := by kernel_rfl
theorem pl_vars : Try.prog.varsNamed 15 = [] := by kernel_rfl
theorem pl_name : Try.prog.funcNamed Rows.geometryLevelsRow.func = some 15 := by kernel_rfl
theorem levels_joined : joinedFacts Try.prog 15 Try.f15 Rows.geometryLevelsSpec Rows.geometryLevelsRow = true := by
  unfold joinedFacts
  rw [pk_laid, pk_maps, pk_stops, pk_knobs, pk_heard, pk_may, pk_lifts, pk_plain, pl_inPlace, pl_unf, pl_rec, pl_vars]
  kernel_rfl
end Go.Proofs.Ytcdbekmcobghbaa

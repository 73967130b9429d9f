/- Closed facts of one function of the program. -/
import Derived.Test.YtcdbekmcobghbaaFacts
namespace Go.Proofs.Ytcdbekmcobghbaa
open Go
theorem pi_inPlace : Try.prog.inPlace 8 = [] := by kernel_rfl
theorem pi_unf : Try.prog.unfollowed 8 = true := by kernel_rfl
theorem pi_rec : Try.prog.recurses 8 = true := by kernel_rfl
theorem pi_vars : Try.prog.varsNamed 8 = [] := by kernel_rfl
theorem pi_name : Try.prog.funcNamed Rows.geometryInsideRow.func = some 8 := by kernel_rfl
theorem inside_joined : joinedFacts Try.prog 8 Try.f8 Rows.geometryInsideSpec Rows.geometryInsideRow = true := by
  unfold joinedFacts
  rw [pk_laid, pk_maps, pk_stops, pk_knobs, pk_heard, pk_may, pk_lifts, pk_plain, pi_inPlace, pi_unf, pi_rec, pi_vars]
  kernel_rfl
end Go.Proofs.Ytcdbekmcobghbaa

/- Closed facts of one function of the program. -/
import Derived.Test.YtcdbekmcobghbaaFacts
namespace Go.Proofs.Ytcdbekmcobghbaa
open Go
theorem ps_inPlace : Try.prog.inPlace 5 = [] := by kernel_rfl
theorem ps_unf : Try.prog.unfollowed 5 = true := by kernel_rfl
theorem ps_rec : Try.prog.recurses 5 = true := by kernel_rfl
theorem ps_vars : Try.prog.varsNamed 5 = [] := by kernel_rfl
theorem ps_name : Try.prog.funcNamed Rows.geometrySegmentsRow.func = some 5 := by kernel_rfl
theorem segments_joined : joinedFacts Try.prog 5 Try.f5 Rows.geometrySegmentsSpec Rows.geometrySegmentsRow = true := by
  unfold joinedFacts
  rw [pk_laid, pk_maps, pk_stops, pk_knobs, pk_heard, pk_may, pk_lifts, pk_plain, ps_inPlace, ps_unf, ps_rec, ps_vars]
  kernel_rfl
end Go.Proofs.Ytcdbekmcobghbaa

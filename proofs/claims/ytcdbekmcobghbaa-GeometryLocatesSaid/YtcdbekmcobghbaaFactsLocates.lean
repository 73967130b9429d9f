/- Closed facts of one function of the program. -/
import Derived.Test.YtcdbekmcobghbaaFacts
namespace Go.Proofs.Ytcdbekmcobghbaa
open Go
theorem pq_inPlace : Try.prog.inPlace 14 = [] := by kernel_rfl
theorem pq_unf : Try.prog.unfollowed 14 = true := by kernel_rfl
theorem pq_rec : Try.prog.recurses 14 = true := by kernel_rfl
theorem pq_vars : Try.prog.varsNamed 14 = [] := by kernel_rfl
theorem pq_name : Try.prog.funcNamed Rows.geometryLocatesRow.func = some 14 := by kernel_rfl
theorem locates_joined : joinedFacts Try.prog 14 Try.f14 Rows.geometryLocatesSpec Rows.geometryLocatesRow = true := by
  unfold joinedFacts
  rw [pk_laid, pk_maps, pk_stops, pk_knobs, pk_heard, pk_may, pk_lifts, pk_plain, pq_inPlace, pq_unf, pq_rec, pq_vars]
  kernel_rfl
end Go.Proofs.Ytcdbekmcobghbaa

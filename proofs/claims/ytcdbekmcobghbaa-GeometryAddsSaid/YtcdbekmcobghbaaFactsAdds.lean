/- Closed facts of one function of the program. -/
import Derived.Test.YtcdbekmcobghbaaFacts
namespace Go.Proofs.Ytcdbekmcobghbaa
open Go
theorem pa_inPlace : Try.prog.inPlace 16 = [] := by kernel_rfl
theorem pa_unf : Try.prog.unfollowed 16 = true := by kernel_rfl
theorem pa_rec : Try.prog.recurses 16 = true := by kernel_rfl
theorem pa_vars : Try.prog.varsNamed 16 = [] := by kernel_rfl
theorem pa_name : Try.prog.funcNamed Rows.geometryAddsRow.func = some 16 := by kernel_rfl
theorem adds_joined : joinedFacts Try.prog 16 Try.f16 Rows.geometryAddsSpec Rows.geometryAddsRow = true := by
  unfold joinedFacts
  rw [pk_laid, pk_maps, pk_stops, pk_knobs, pk_heard, pk_may, pk_lifts, pk_plain, pa_inPlace, pa_unf, pa_rec, pa_vars]
  kernel_rfl
end Go.Proofs.Ytcdbekmcobghbaa

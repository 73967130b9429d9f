/- Closed facts of one function of the program. -/
import Derived.Test.YtcdbekmcobghbaaFacts
namespace Go.Proofs.Ytcdbekmcobghbaa
open Go
theorem ptc_inPlace : Try.prog.inPlace 9 = [] := by kernel_rfl
theorem ptc_unf : Try.prog.unfollowed 9 = true := by kernel_rfl
theorem ptc_rec : Try.prog.recurses 9 = true := by kernel_rfl
theorem ptc_vars : Try.prog.varsNamed 9 = [] := by kernel_rfl
theorem ptc_name : Try.prog.funcNamed Rows.geometryTouchesRow.func = some 9 := by kernel_rfl
theorem touches_joined : joinedFacts Try.prog 9 Try.f9 Rows.geometryTouchesSpec Rows.geometryTouchesRow = true := by
  unfold joinedFacts
  rw [pk_laid, pk_maps, pk_stops, pk_knobs, pk_heard, pk_may, pk_lifts, pk_plain, ptc_inPlace, ptc_unf, ptc_rec, ptc_vars]
  kernel_rfl
end Go.Proofs.Ytcdbekmcobghbaa

/- Closed facts of one function of the program. -/
import Derived.Test.YtcdbekmcobghbaaFacts
namespace Go.Proofs.Ytcdbekmcobghbaa
open Go
theorem pg_inPlace : Try.prog.inPlace 7 = [] := by kernel_rfl
theorem pg_unf : Try.prog.unfollowed 7 = true := by kernel_rfl
theorem pg_rec : Try.prog.recurses 7 = true := by kernel_rfl
theorem pg_vars : Try.prog.varsNamed 7 = [] := by kernel_rfl
theorem pg_name : Try.prog.funcNamed Rows.geometryPolygonsRow.func = some 7 := by kernel_rfl
theorem polygons_joined : joinedFacts Try.prog 7 Try.f7 Rows.geometryPolygonsSpec Rows.geometryPolygonsRow = true := by
  unfold joinedFacts
  rw [pk_laid, pk_maps, pk_stops, pk_knobs, pk_heard, pk_may, pk_lifts, pk_plain, pg_inPlace, pg_unf, pg_rec, pg_vars]
  kernel_rfl
end Go.Proofs.Ytcdbekmcobghbaa

/- Closed facts of one function of the program. -/
import Derived.Test.YtcdbekmcobghbaaFacts
namespace Go.Proofs.Ytcdbekmcobghbaa
open Go
theorem po_inPlace : Try.prog.inPlace 4 = [] := by kernel_rfl
theorem po_unf : Try.prog.unfollowed 4 = true := by kernel_rfl
theorem po_rec : Try.prog.recurses 4 = true := by kernel_rfl
theorem po_vars : Try.prog.varsNamed 4 = [] := by kernel_rfl
theorem po_name : Try.prog.funcNamed Rows.geometryOffsetsRow.func = some 4 := by kernel_rfl
theorem offsets_joined : joinedFacts Try.prog 4 Try.f4 Rows.geometryOffsetsSpec Rows.geometryOffsetsRow = true := by
  unfold joinedFacts
  rw [pk_laid, pk_maps, pk_stops, pk_knobs, pk_heard, pk_may, pk_lifts, pk_plain, po_inPlace, po_unf, po_rec, po_vars]
  kernel_rfl
end Go.Proofs.Ytcdbekmcobghbaa

/- Closed facts of one function of the program. -/
import Derived.Test.YtohdplnlbnoojaaSfacts
namespace Go.Proofs.Ytohdplnlbnoojaa
open Go
theorem spl_inPlace : Try.prog.inPlace 4 = [] := by kernel_rfl
theorem spl_unf : Try.prog.unfollowed 4 = true := by kernel_rfl
theorem spl_rec : Try.prog.recurses 4 = true := by kernel_rfl
theorem spl_vars : Try.prog.varsNamed 4 = [] := by kernel_rfl
theorem spl_name : Try.prog.funcNamed Rows.soilPlacesRow.func = some 4 := by kernel_rfl
theorem spl_joined : joinedFacts Try.prog 4 Try.f4 Rows.soilPlacesSpec Rows.soilPlacesRow = true := by
  unfold joinedFacts
  rw [pk_laid, pk_maps, pk_stops, pk_knobs, pk_heard, pk_may, pk_lifts, pk_plain, spl_inPlace, spl_unf, spl_rec, spl_vars]
  kernel_rfl
end Go.Proofs.Ytohdplnlbnoojaa

/- Closed facts of one function of the program. -/
import Derived.Test.YtohdplnlbnoojaaSfacts
namespace Go.Proofs.Ytohdplnlbnoojaa
open Go
theorem sca_inPlace : Try.prog.inPlace 12 = [] := by kernel_rfl
theorem sca_unf : Try.prog.unfollowed 12 = true := by kernel_rfl
theorem sca_rec : Try.prog.recurses 12 = true := by kernel_rfl
theorem sca_vars : Try.prog.varsNamed 12 = [] := by kernel_rfl
theorem sca_name : Try.prog.funcNamed Rows.soilCarriesRow.func = some 12 := by kernel_rfl
theorem sca_joined : joinedFacts Try.prog 12 Try.f12 Rows.soilCarriesSpec Rows.soilCarriesRow = true := by
  unfold joinedFacts
  rw [pk_laid, pk_maps, pk_stops, pk_knobs, pk_heard, pk_may, pk_lifts, pk_plain, sca_inPlace, sca_unf, sca_rec, sca_vars]
  kernel_rfl
end Go.Proofs.Ytohdplnlbnoojaa

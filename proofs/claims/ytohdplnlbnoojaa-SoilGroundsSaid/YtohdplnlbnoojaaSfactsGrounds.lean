/- Closed facts of one function of the program. -/
import Derived.Test.YtohdplnlbnoojaaSfacts
namespace Go.Proofs.Ytohdplnlbnoojaa
open Go
theorem sgr_inPlace : Try.prog.inPlace 3 = [] := by kernel_rfl
theorem sgr_unf : Try.prog.unfollowed 3 = true := by kernel_rfl
theorem sgr_rec : Try.prog.recurses 3 = true := by kernel_rfl
theorem sgr_vars : Try.prog.varsNamed 3 = [] := by kernel_rfl
theorem sgr_name : Try.prog.funcNamed Rows.soilGroundsRow.func = some 3 := by kernel_rfl
theorem sgr_joined : joinedFacts Try.prog 3 Try.f3 Rows.soilGroundsSpec Rows.soilGroundsRow = true := by
  unfold joinedFacts
  rw [pk_laid, pk_maps, pk_stops, pk_knobs, pk_heard, pk_may, pk_lifts, pk_plain, sgr_inPlace, sgr_unf, sgr_rec, sgr_vars]
  kernel_rfl
end Go.Proofs.Ytohdplnlbnoojaa

/- Closed facts of one function of the program. -/
import Derived.Test.YtohdplnlbnoojaaSfacts
namespace Go.Proofs.Ytohdplnlbnoojaa
open Go
theorem stu_inPlace : Try.prog.inPlace 10 = [] := by kernel_rfl
theorem stu_unf : Try.prog.unfollowed 10 = true := by kernel_rfl
theorem stu_rec : Try.prog.recurses 10 = true := by kernel_rfl
theorem stu_vars : Try.prog.varsNamed 10 = [] := by kernel_rfl
theorem stu_name : Try.prog.funcNamed Rows.soilTurnedRow.func = some 10 := by kernel_rfl
theorem stu_joined : joinedFacts Try.prog 10 Try.f10 Rows.soilTurnedSpec Rows.soilTurnedRow = true := by
  unfold joinedFacts
  rw [pk_laid, pk_maps, pk_stops, pk_knobs, pk_heard, pk_may, pk_lifts, pk_plain, stu_inPlace, stu_unf, stu_rec, stu_vars]
  kernel_rfl
end Go.Proofs.Ytohdplnlbnoojaa

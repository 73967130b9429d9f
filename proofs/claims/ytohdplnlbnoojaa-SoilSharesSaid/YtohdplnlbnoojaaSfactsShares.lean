/- Closed facts of one function of the program. -/
import Derived.Test.YtohdplnlbnoojaaSfacts
namespace Go.Proofs.Ytohdplnlbnoojaa
open Go
theorem ssh_inPlace : Try.prog.inPlace 6 = [] := by kernel_rfl
theorem ssh_unf : Try.prog.unfollowed 6 = true := by kernel_rfl
theorem ssh_rec : Try.prog.recurses 6 = true := by kernel_rfl
theorem ssh_vars : Try.prog.varsNamed 6 = [] := by kernel_rfl
theorem ssh_name : Try.prog.funcNamed Rows.soilSharesRow.func = some 6 := by kernel_rfl
theorem ssh_joined : joinedFacts Try.prog 6 Try.f6 Rows.soilSharesSpec Rows.soilSharesRow = true := by
  unfold joinedFacts
  rw [pk_laid, pk_maps, pk_stops, pk_knobs, pk_heard, pk_may, pk_lifts, pk_plain, ssh_inPlace, ssh_unf, ssh_rec, ssh_vars]
  kernel_rfl
end Go.Proofs.Ytohdplnlbnoojaa

/- Closed facts of one function of the program. -/
import Derived.Test.YtohdplnlbnoojaaSfacts
namespace Go.Proofs.Ytohdplnlbnoojaa
open Go
theorem sco_inPlace : Try.prog.inPlace 5 = [] := by kernel_rfl
theorem sco_unf : Try.prog.unfollowed 5 = true := by kernel_rfl
theorem sco_rec : Try.prog.recurses 5 = true := by kernel_rfl
theorem sco_vars : Try.prog.varsNamed 5 = [] := by kernel_rfl
theorem sco_name : Try.prog.funcNamed Rows.soilColumnsRow.func = some 5 := by kernel_rfl
theorem sco_joined : joinedFacts Try.prog 5 Try.f5 Rows.soilColumnsSpec Rows.soilColumnsRow = true := by
  unfold joinedFacts
  rw [pk_laid, pk_maps, pk_stops, pk_knobs, pk_heard, pk_may, pk_lifts, pk_plain, sco_inPlace, sco_unf, sco_rec, sco_vars]
  kernel_rfl
end Go.Proofs.Ytohdplnlbnoojaa

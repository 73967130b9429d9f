/- Closed facts of one function of the program. -/
import Derived.Test.YtohdplnlbnoojaaSfacts
namespace Go.Proofs.Ytohdplnlbnoojaa
open Go
theorem sst_inPlace : Try.prog.inPlace 9 = [] := by kernel_rfl
theorem sst_unf : Try.prog.unfollowed 9 = true := by kernel_rfl
theorem sst_rec : Try.prog.recurses 9 = true := by kernel_rfl
theorem sst_vars : Try.prog.varsNamed 9 = [] := by kernel_rfl
theorem sst_name : Try.prog.funcNamed Rows.soilStableRow.func = some 9 := by kernel_rfl
theorem sst_joined : joinedFacts Try.prog 9 Try.f9 Rows.soilStableSpec Rows.soilStableRow = true := by
  unfold joinedFacts
  rw [pk_laid, pk_maps, pk_stops, pk_knobs, pk_heard, pk_may, pk_lifts, pk_plain, sst_inPlace, sst_unf, sst_rec, sst_vars]
  kernel_rfl
end Go.Proofs.Ytohdplnlbnoojaa

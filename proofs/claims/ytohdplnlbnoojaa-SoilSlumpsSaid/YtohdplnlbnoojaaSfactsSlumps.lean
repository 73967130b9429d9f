/- Closed facts of one function of the program. -/
import Derived.Test.YtohdplnlbnoojaaSfacts
namespace Go.Proofs.Ytohdplnlbnoojaa
open Go
theorem ssu_inPlace : Try.prog.inPlace 8 = [] := by kernel_rfl
theorem ssu_unf : Try.prog.unfollowed 8 = true := by kernel_rfl
theorem ssu_rec : Try.prog.recurses 8 = true := by kernel_rfl
theorem ssu_vars : Try.prog.varsNamed 8 = [] := by kernel_rfl
theorem ssu_name : Try.prog.funcNamed Rows.soilSlumpsRow.func = some 8 := by kernel_rfl
theorem ssu_joined : joinedFacts Try.prog 8 Try.f8 Rows.soilSlumpsSpec Rows.soilSlumpsRow = true := by
  unfold joinedFacts
  rw [pk_laid, pk_maps, pk_stops, pk_knobs, pk_heard, pk_may, pk_lifts, pk_plain, ssu_inPlace, ssu_unf, ssu_rec, ssu_vars]
  kernel_rfl
end Go.Proofs.Ytohdplnlbnoojaa

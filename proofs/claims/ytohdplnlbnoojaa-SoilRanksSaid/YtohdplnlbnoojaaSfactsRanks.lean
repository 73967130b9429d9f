/- Closed facts of one function of the program. -/
import Derived.Test.YtohdplnlbnoojaaSfacts
namespace Go.Proofs.Ytohdplnlbnoojaa
open Go
theorem sra_inPlace : Try.prog.inPlace 13 = [] := by kernel_rfl
theorem sra_unf : Try.prog.unfollowed 13 = true := by kernel_rfl
theorem sra_rec : Try.prog.recurses 13 = true := by kernel_rfl
theorem sra_vars : Try.prog.varsNamed 13 = [] := by kernel_rfl
theorem sra_name : Try.prog.funcNamed Rows.soilRanksRow.func = some 13 := by kernel_rfl
theorem sra_joined : joinedFacts Try.prog 13 Try.f13 Rows.soilRanksSpec Rows.soilRanksRow = true := by
  unfold joinedFacts
  rw [pk_laid, pk_maps, pk_stops, pk_knobs, pk_heard, pk_may, pk_lifts, pk_plain, sra_inPlace, sra_unf, sra_rec, sra_vars]
  kernel_rfl
end Go.Proofs.Ytohdplnlbnoojaa

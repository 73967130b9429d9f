/- Closed facts of one function of the program. -/
import Derived.Test.YtohdplnlbnoojaaSfacts
namespace Go.Proofs.Ytohdplnlbnoojaa
open Go
theorem sam_inPlace : Try.prog.inPlace 11 = [] := by kernel_rfl
theorem sam_unf : Try.prog.unfollowed 11 = true := by kernel_rfl
theorem sam_rec : Try.prog.recurses 11 = true := by kernel_rfl
theorem sam_vars : Try.prog.varsNamed 11 = [] := by kernel_rfl
theorem sam_name : Try.prog.funcNamed Rows.soilAmountsRow.func = some 11 := by kernel_rfl
theorem sam_joined : joinedFacts Try.prog 11 Try.f11 Rows.soilAmountsSpec Rows.soilAmountsRow = true := by
  unfold joinedFacts
  rw [pk_laid, pk_maps, pk_stops, pk_knobs, pk_heard, pk_may, pk_lifts, pk_plain, sam_inPlace, sam_unf, sam_rec, sam_vars]
  kernel_rfl
end Go.Proofs.Ytohdplnlbnoojaa

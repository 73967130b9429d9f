/- Closed facts of one function of the program. -/
import Derived.Test.YtohdplnlbnoojaaSfacts
namespace Go.Proofs.Ytohdplnlbnoojaa
open Go
theorem ssl_inPlace : Try.prog.inPlace 7 = [] := by kernel_rfl
theorem ssl_unf : Try.prog.unfollowed 7 = true := by kernel_rfl
theorem ssl_rec : Try.prog.recurses 7 = true := by kernel_rfl
theorem ssl_vars : Try.prog.varsNamed 7 = [] := by kernel_rfl
theorem ssl_name : Try.prog.funcNamed Rows.soilSlopesRow.func = some 7 := by kernel_rfl
theorem ssl_joined : joinedFacts Try.prog 7 Try.f7 Rows.soilSlopesSpec Rows.soilSlopesRow = true := by
  unfold joinedFacts
  rw [pk_laid, pk_maps, pk_stops, pk_knobs, pk_heard, pk_may, pk_lifts, pk_plain, ssl_inPlace, ssl_unf, ssl_rec, ssl_vars]
  kernel_rfl
end Go.Proofs.Ytohdplnlbnoojaa

/- Closed facts of one function of the program. -/
import Derived.Test.YtblmljcgjibfgaaTfacts
namespace Go.Proofs.Ytblmljcgjibfgaa
open Go
theorem tsi_inPlace : Try.prog.inPlace 12 = [] := by kernel_rfl
theorem tsi_unf : Try.prog.unfollowed 12 = true := by kernel_rfl
theorem tsi_rec : Try.prog.recurses 12 = true := by kernel_rfl
theorem tsi_vars : Try.prog.varsNamed 12 = [] := by kernel_rfl
theorem tsi_name : Try.prog.funcNamed Rows.tideSimpleRow.func = some 12 := by kernel_rfl
theorem tsimple_joined : joinedFacts Try.prog 12 Try.f12 Rows.tideSimpleSpec Rows.tideSimpleRow = true := by
  unfold joinedFacts
  rw [pk_laid, pk_maps, pk_stops, pk_knobs, pk_heard, pk_may, pk_lifts, pk_plain, tsi_inPlace, tsi_unf, tsi_rec, tsi_vars]
  kernel_rfl
end Go.Proofs.Ytblmljcgjibfgaa

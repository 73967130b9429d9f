/- Closed facts of one function of the program. -/
import Derived.Test.YtblmljcgjibfgaaTfacts
namespace Go.Proofs.Ytblmljcgjibfgaa
open Go
theorem twi_inPlace : Try.prog.inPlace 7 = [] := by kernel_rfl
theorem twi_unf : Try.prog.unfollowed 7 = true := by kernel_rfl
theorem twi_rec : Try.prog.recurses 7 = true := by kernel_rfl
theorem twi_vars : Try.prog.varsNamed 7 = [] := by kernel_rfl
theorem twi_name : Try.prog.funcNamed Rows.tideWindowsRow.func = some 7 := by kernel_rfl
theorem twindows_joined : joinedFacts Try.prog 7 Try.f7 Rows.tideWindowsSpec Rows.tideWindowsRow = true := by
  unfold joinedFacts
  rw [pk_laid, pk_maps, pk_stops, pk_knobs, pk_heard, pk_may, pk_lifts, pk_plain, twi_inPlace, twi_unf, twi_rec, twi_vars]
  kernel_rfl
end Go.Proofs.Ytblmljcgjibfgaa

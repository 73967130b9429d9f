/- Closed facts of one function of the program. -/
import Derived.Test.YtblmljcgjibfgaaTfacts
namespace Go.Proofs.Ytblmljcgjibfgaa
open Go
theorem tsh_inPlace : Try.prog.inPlace 10 = [] := by kernel_rfl
theorem tsh_unf : Try.prog.unfollowed 10 = true := by kernel_rfl
theorem tsh_rec : Try.prog.recurses 10 = true := by kernel_rfl
theorem tsh_vars : Try.prog.varsNamed 10 = [] := by kernel_rfl
theorem tsh_name : Try.prog.funcNamed Rows.tideShiftsRow.func = some 10 := by kernel_rfl
theorem tshifts_joined : joinedFacts Try.prog 10 Try.f10 Rows.tideShiftsSpec Rows.tideShiftsRow = true := by
  unfold joinedFacts
  rw [pk_laid, pk_maps, pk_stops, pk_knobs, pk_heard, pk_may, pk_lifts, pk_plain, tsh_inPlace, tsh_unf, tsh_rec, tsh_vars]
  kernel_rfl
end Go.Proofs.Ytblmljcgjibfgaa

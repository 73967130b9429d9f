/- Closed facts of one function of the program. -/
import Derived.Test.YtblmljcgjibfgaaTfacts
namespace Go.Proofs.Ytblmljcgjibfgaa
open Go
theorem tse_inPlace : Try.prog.inPlace 14 = [] := by kernel_rfl
theorem tse_unf : Try.prog.unfollowed 14 = true := by kernel_rfl
theorem tse_rec : Try.prog.recurses 14 = true := by kernel_rfl
theorem tse_vars : Try.prog.varsNamed 14 = [] := by kernel_rfl
theorem tse_name : Try.prog.funcNamed Rows.tideSeenRow.func = some 14 := by kernel_rfl
theorem tseen_joined : joinedFacts Try.prog 14 Try.f14 Rows.tideSeenSpec Rows.tideSeenRow = true := by
  unfold joinedFacts
  rw [pk_laid, pk_maps, pk_stops, pk_knobs, pk_heard, pk_may, pk_lifts, pk_plain, tse_inPlace, tse_unf, tse_rec, tse_vars]
  kernel_rfl
end Go.Proofs.Ytblmljcgjibfgaa

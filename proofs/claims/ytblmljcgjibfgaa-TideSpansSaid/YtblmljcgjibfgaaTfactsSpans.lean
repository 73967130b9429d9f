/- Closed facts of one function of the program. -/
import Derived.Test.YtblmljcgjibfgaaTfacts
namespace Go.Proofs.Ytblmljcgjibfgaa
open Go
theorem tsp_inPlace : Try.prog.inPlace 6 = [] := by kernel_rfl
theorem tsp_unf : Try.prog.unfollowed 6 = true := by kernel_rfl
theorem tsp_rec : Try.prog.recurses 6 = true := by kernel_rfl
theorem tsp_vars : Try.prog.varsNamed 6 = [] := by kernel_rfl
theorem tsp_name : Try.prog.funcNamed Rows.tideSpansRow.func = some 6 := by kernel_rfl
theorem tspans_joined : joinedFacts Try.prog 6 Try.f6 Rows.tideSpansSpec Rows.tideSpansRow = true := by
  unfold joinedFacts
  rw [pk_laid, pk_maps, pk_stops, pk_knobs, pk_heard, pk_may, pk_lifts, pk_plain, tsp_inPlace, tsp_unf, tsp_rec, tsp_vars]
  kernel_rfl
end Go.Proofs.Ytblmljcgjibfgaa

/- Closed facts of one function of the program. -/
import Derived.Test.YtblmljcgjibfgaaTfacts
namespace Go.Proofs.Ytblmljcgjibfgaa
open Go
theorem tne_inPlace : Try.prog.inPlace 8 = [] := by kernel_rfl
theorem tne_unf : Try.prog.unfollowed 8 = true := by kernel_rfl
theorem tne_rec : Try.prog.recurses 8 = true := by kernel_rfl
theorem tne_vars : Try.prog.varsNamed 8 = [] := by kernel_rfl
theorem tne_name : Try.prog.funcNamed Rows.tideNestedRow.func = some 8 := by kernel_rfl
theorem tnested_joined : joinedFacts Try.prog 8 Try.f8 Rows.tideNestedSpec Rows.tideNestedRow = true := by
  unfold joinedFacts
  rw [pk_laid, pk_maps, pk_stops, pk_knobs, pk_heard, pk_may, pk_lifts, pk_plain, tne_inPlace, tne_unf, tne_rec, tne_vars]
  kernel_rfl
end Go.Proofs.Ytblmljcgjibfgaa

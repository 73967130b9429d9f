/- Closed facts of one function of the program. -/
import Derived.Test.YtblmljcgjibfgaaTfacts
namespace Go.Proofs.Ytblmljcgjibfgaa
open Go
theorem tp_inPlace : Try.prog.inPlace 4 = [] := by kernel_rfl
theorem tp_unf : Try.prog.unfollowed 4 = true := by kernel_rfl
theorem tp_rec : Try.prog.recurses 4 = true := by kernel_rfl
theorem tp_vars : Try.prog.varsNamed 4 = [] := by kernel_rfl
theorem tp_name : Try.prog.funcNamed Rows.tidePlacesRow.func = some 4 := by kernel_rfl
theorem tplaces_joined : joinedFacts Try.prog 4 Try.f4 Rows.tidePlacesSpec Rows.tidePlacesRow = true := by
  unfold joinedFacts
  rw [pk_laid, pk_maps, pk_stops, pk_knobs, pk_heard, pk_may, pk_lifts, pk_plain, tp_inPlace, tp_unf, tp_rec, tp_vars]
  kernel_rfl
end Go.Proofs.Ytblmljcgjibfgaa

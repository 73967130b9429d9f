/- Closed facts of one function of the program. -/
import Derived.Test.YtblmljcgjibfgaaTfacts
namespace Go.Proofs.Ytblmljcgjibfgaa
open Go
theorem tl_inPlace : Try.prog.inPlace 3 = [] := by kernel_rfl
theorem tl_unf : Try.prog.unfollowed 3 = true := by kernel_rfl
theorem tl_rec : Try.prog.recurses 3 = true := by kernel_rfl
theorem tl_vars : Try.prog.varsNamed 3 = [] := by kernel_rfl
theorem tl_name : Try.prog.funcNamed Rows.tideLevelsRow.func = some 3 := by kernel_rfl
theorem tlevels_joined : joinedFacts Try.prog 3 Try.f3 Rows.tideLevelsSpec Rows.tideLevelsRow = true := by
  unfold joinedFacts
  rw [pk_laid, pk_maps, pk_stops, pk_knobs, pk_heard, pk_may, pk_lifts, pk_plain, tl_inPlace, tl_unf, tl_rec, tl_vars]
  kernel_rfl
end Go.Proofs.Ytblmljcgjibfgaa

/- Closed facts of one function of the program. -/
import Derived.Test.YtgnakeemcccfjaaBfacts
namespace Go.Proofs.Ytgnakeemcccfjaa
open Go
theorem bpl_inPlace : Try.prog.inPlace 4 = [] := by kernel_rfl
theorem bpl_unf : Try.prog.unfollowed 4 = true := by kernel_rfl
theorem bpl_rec : Try.prog.recurses 4 = true := by kernel_rfl
theorem bpl_vars : Try.prog.varsNamed 4 = [] := by kernel_rfl
theorem bpl_name : Try.prog.funcNamed Rows.bedPlacesRow.func = some 4 := by kernel_rfl
theorem bpl_joined : joinedFacts Try.prog 4 Try.f4 Rows.bedPlacesSpec Rows.bedPlacesRow = true := by
  unfold joinedFacts
  rw [pk_laid, pk_maps, pk_stops, pk_knobs, pk_heard, pk_may, pk_lifts, pk_plain, bpl_inPlace, bpl_unf, bpl_rec, bpl_vars]
  kernel_rfl
end Go.Proofs.Ytgnakeemcccfjaa

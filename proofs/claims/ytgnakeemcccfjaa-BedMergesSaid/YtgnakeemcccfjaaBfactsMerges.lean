/- Closed facts of one function of the program. -/
import Derived.Test.YtgnakeemcccfjaaBfacts
namespace Go.Proofs.Ytgnakeemcccfjaa
open Go
theorem bme_inPlace : Try.prog.inPlace 6 = [] := by kernel_rfl
theorem bme_unf : Try.prog.unfollowed 6 = true := by kernel_rfl
theorem bme_rec : Try.prog.recurses 6 = true := by kernel_rfl
theorem bme_vars : Try.prog.varsNamed 6 = [] := by kernel_rfl
theorem bme_name : Try.prog.funcNamed Rows.bedMergesRow.func = some 6 := by kernel_rfl
theorem bme_joined : joinedFacts Try.prog 6 Try.f6 Rows.bedMergesSpec Rows.bedMergesRow = true := by
  unfold joinedFacts
  rw [pk_laid, pk_maps, pk_stops, pk_knobs, pk_heard, pk_may, pk_lifts, pk_plain, bme_inPlace, bme_unf, bme_rec, bme_vars]
  kernel_rfl
end Go.Proofs.Ytgnakeemcccfjaa

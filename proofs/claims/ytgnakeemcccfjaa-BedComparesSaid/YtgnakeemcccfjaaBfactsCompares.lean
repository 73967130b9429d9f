/- Closed facts of one function of the program. -/
import Derived.Test.YtgnakeemcccfjaaBfacts
namespace Go.Proofs.Ytgnakeemcccfjaa
open Go
theorem bco_inPlace : Try.prog.inPlace 7 = [] := by kernel_rfl
theorem bco_unf : Try.prog.unfollowed 7 = true := by kernel_rfl
theorem bco_rec : Try.prog.recurses 7 = true := by kernel_rfl
theorem bco_vars : Try.prog.varsNamed 7 = [] := by kernel_rfl
theorem bco_name : Try.prog.funcNamed Rows.bedComparesRow.func = some 7 := by kernel_rfl
theorem bco_joined : joinedFacts Try.prog 7 Try.f7 Rows.bedComparesSpec Rows.bedComparesRow = true := by
  unfold joinedFacts
  rw [pk_laid, pk_maps, pk_stops, pk_knobs, pk_heard, pk_may, pk_lifts, pk_plain, bco_inPlace, bco_unf, bco_rec, bco_vars]
  kernel_rfl
end Go.Proofs.Ytgnakeemcccfjaa

/- Closed facts of one function of the program. -/
import Derived.Test.YtgnakeemcccfjaaBfacts
namespace Go.Proofs.Ytgnakeemcccfjaa
open Go
theorem bro_inPlace : Try.prog.inPlace 12 = [] := by kernel_rfl
theorem bro_unf : Try.prog.unfollowed 12 = true := by kernel_rfl
theorem bro_rec : Try.prog.recurses 12 = true := by kernel_rfl
theorem bro_vars : Try.prog.varsNamed 12 = [] := by kernel_rfl
theorem bro_name : Try.prog.funcNamed Rows.bedRoutesRow.func = some 12 := by kernel_rfl
theorem bro_joined : joinedFacts Try.prog 12 Try.f12 Rows.bedRoutesSpec Rows.bedRoutesRow = true := by
  unfold joinedFacts
  rw [pk_laid, pk_maps, pk_stops, pk_knobs, pk_heard, pk_may, pk_lifts, pk_plain, bro_inPlace, bro_unf, bro_rec, bro_vars]
  kernel_rfl
end Go.Proofs.Ytgnakeemcccfjaa

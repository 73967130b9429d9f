/- Closed facts of one function of the program. -/
import Derived.Test.YtgnakeemcccfjaaBfacts
namespace Go.Proofs.Ytgnakeemcccfjaa
open Go
theorem bad_inPlace : Try.prog.inPlace 9 = [] := by kernel_rfl
theorem bad_unf : Try.prog.unfollowed 9 = true := by kernel_rfl
theorem bad_rec : Try.prog.recurses 9 = true := by kernel_rfl
theorem bad_vars : Try.prog.varsNamed 9 = [] := by kernel_rfl
theorem bad_name : Try.prog.funcNamed Rows.bedAddsRow.func = some 9 := by kernel_rfl
theorem bad_joined : joinedFacts Try.prog 9 Try.f9 Rows.bedAddsSpec Rows.bedAddsRow = true := by
  unfold joinedFacts
  rw [pk_laid, pk_maps, pk_stops, pk_knobs, pk_heard, pk_may, pk_lifts, pk_plain, bad_inPlace, bad_unf, bad_rec, bad_vars]
  kernel_rfl
end Go.Proofs.Ytgnakeemcccfjaa

/- Closed facts of one function of the program. -/
import Derived.Test.YtgnakeemcccfjaaBfacts
namespace Go.Proofs.Ytgnakeemcccfjaa
open Go
theorem bch_inPlace : Try.prog.inPlace 3 = [] := by kernel_rfl
theorem bch_unf : Try.prog.unfollowed 3 = true := by kernel_rfl
theorem bch_rec : Try.prog.recurses 3 = true := by kernel_rfl
theorem bch_vars : Try.prog.varsNamed 3 = [] := by kernel_rfl
theorem bch_name : Try.prog.funcNamed Rows.bedChecksRow.func = some 3 := by kernel_rfl
theorem bch_joined : joinedFacts Try.prog 3 Try.f3 Rows.bedChecksSpec Rows.bedChecksRow = true := by
  unfold joinedFacts
  rw [pk_laid, pk_maps, pk_stops, pk_knobs, pk_heard, pk_may, pk_lifts, pk_plain, bch_inPlace, bch_unf, bch_rec, bch_vars]
  kernel_rfl
end Go.Proofs.Ytgnakeemcccfjaa

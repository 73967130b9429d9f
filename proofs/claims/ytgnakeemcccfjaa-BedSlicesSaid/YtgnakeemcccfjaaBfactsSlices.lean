/- Closed facts of one function of the program. -/
import Derived.Test.YtgnakeemcccfjaaBfacts
namespace Go.Proofs.Ytgnakeemcccfjaa
open Go
theorem bsl_inPlace : Try.prog.inPlace 8 = [] := by kernel_rfl
theorem bsl_unf : Try.prog.unfollowed 8 = true := by kernel_rfl
theorem bsl_rec : Try.prog.recurses 8 = true := by kernel_rfl
theorem bsl_vars : Try.prog.varsNamed 8 = [] := by kernel_rfl
theorem bsl_name : Try.prog.funcNamed Rows.bedSlicesRow.func = some 8 := by kernel_rfl
theorem bsl_joined : joinedFacts Try.prog 8 Try.f8 Rows.bedSlicesSpec Rows.bedSlicesRow = true := by
  unfold joinedFacts
  rw [pk_laid, pk_maps, pk_stops, pk_knobs, pk_heard, pk_may, pk_lifts, pk_plain, bsl_inPlace, bsl_unf, bsl_rec, bsl_vars]
  kernel_rfl
end Go.Proofs.Ytgnakeemcccfjaa

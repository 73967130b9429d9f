/- Closed facts of one function of the program. -/
import Derived.Test.YtgnakeemcccfjaaBfacts
namespace Go.Proofs.Ytgnakeemcccfjaa
open Go
theorem bab_inPlace : Try.prog.inPlace 10 = [] := by kernel_rfl
theorem bab_unf : Try.prog.unfollowed 10 = true := by kernel_rfl
theorem bab_rec : Try.prog.recurses 10 = true := by kernel_rfl
theorem bab_vars : Try.prog.varsNamed 10 = [] := by kernel_rfl
theorem bab_name : Try.prog.funcNamed Rows.bedAboveRow.func = some 10 := by kernel_rfl
theorem bab_joined : joinedFacts Try.prog 10 Try.f10 Rows.bedAboveSpec Rows.bedAboveRow = true := by
  unfold joinedFacts
  rw [pk_laid, pk_maps, pk_stops, pk_knobs, pk_heard, pk_may, pk_lifts, pk_plain, bab_inPlace, bab_unf, bab_rec, bab_vars]
  kernel_rfl
end Go.Proofs.Ytgnakeemcccfjaa

/- Closed facts of one function of the program. -/
import Derived.Test.YtgnakeemcccfjaaBfacts
namespace Go.Proofs.Ytgnakeemcccfjaa
open Go
theorem bmm_inPlace : Try.prog.inPlace 15 = [] := by kernel_rfl
theorem bmm_unf : Try.prog.unfollowed 15 = true := by kernel_rfl
theorem bmm_rec : Try.prog.recurses 15 = true := by kernel_rfl
theorem bmm_vars : Try.prog.varsNamed 15 = [] := by kernel_rfl
theorem bmm_name : Try.prog.funcNamed Rows.bedMemoryRow.func = some 15 := by kernel_rfl
theorem bmm_joined : joinedFacts Try.prog 15 Try.f15 Rows.bedMemorySpec Rows.bedMemoryRow = true := by
  unfold joinedFacts
  rw [pk_laid, pk_maps, pk_stops, pk_knobs, pk_heard, pk_may, pk_lifts, pk_plain, bmm_inPlace, bmm_unf, bmm_rec, bmm_vars]
  kernel_rfl
end Go.Proofs.Ytgnakeemcccfjaa

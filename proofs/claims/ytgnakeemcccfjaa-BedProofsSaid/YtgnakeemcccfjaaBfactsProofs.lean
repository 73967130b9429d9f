/- Closed facts of one function of the program. -/
import Derived.Test.YtgnakeemcccfjaaBfacts
namespace Go.Proofs.Ytgnakeemcccfjaa
open Go
theorem bpr_inPlace : Try.prog.inPlace 13 = [] := by kernel_rfl
theorem bpr_unf : Try.prog.unfollowed 13 = true := by kernel_rfl
theorem bpr_rec : Try.prog.recurses 13 = true := by kernel_rfl
theorem bpr_vars : Try.prog.varsNamed 13 = [] := by kernel_rfl
theorem bpr_name : Try.prog.funcNamed Rows.bedProofsRow.func = some 13 := by kernel_rfl
theorem bpr_joined : joinedFacts Try.prog 13 Try.f13 Rows.bedProofsSpec Rows.bedProofsRow = true := by
  unfold joinedFacts
  rw [pk_laid, pk_maps, pk_stops, pk_knobs, pk_heard, pk_may, pk_lifts, pk_plain, bpr_inPlace, bpr_unf, bpr_rec, bpr_vars]
  kernel_rfl
end Go.Proofs.Ytgnakeemcccfjaa

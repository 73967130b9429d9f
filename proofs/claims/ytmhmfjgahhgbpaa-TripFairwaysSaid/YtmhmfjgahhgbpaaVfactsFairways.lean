/- Closed facts of one function of the program. -/
import Derived.Test.YtmhmfjgahhgbpaaVfacts
namespace Go.Proofs.Ytmhmfjgahhgbpaa
open Go
theorem tfa_inPlace : Try.prog.inPlace 4 = [] := by kernel_rfl
theorem tfa_unf : Try.prog.unfollowed 4 = true := by kernel_rfl
theorem tfa_rec : Try.prog.recurses 4 = true := by kernel_rfl
theorem tfa_vars : Try.prog.varsNamed 4 = [] := by kernel_rfl
theorem tfa_name : Try.prog.funcNamed Rows.tripFairwaysRow.func = some 4 := by kernel_rfl
theorem tfa_joined : joinedFacts Try.prog 4 Try.f4 Rows.tripFairwaysSpec Rows.tripFairwaysRow = true := by
  unfold joinedFacts
  rw [pk_laid, pk_maps, pk_stops, pk_knobs, pk_heard, pk_may, pk_lifts, pk_plain, tfa_inPlace, tfa_unf, tfa_rec, tfa_vars]
  kernel_rfl
end Go.Proofs.Ytmhmfjgahhgbpaa

/- Closed facts of one function of the program. -/
import Derived.Test.YtmhmfjgahhgbpaaVfacts
namespace Go.Proofs.Ytmhmfjgahhgbpaa
open Go
theorem tho_inPlace : Try.prog.inPlace 3 = [] := by kernel_rfl
theorem tho_unf : Try.prog.unfollowed 3 = true := by kernel_rfl
theorem tho_rec : Try.prog.recurses 3 = true := by kernel_rfl
theorem tho_vars : Try.prog.varsNamed 3 = [] := by kernel_rfl
theorem tho_name : Try.prog.funcNamed Rows.tripHoppersRow.func = some 3 := by kernel_rfl
theorem tho_joined : joinedFacts Try.prog 3 Try.f3 Rows.tripHoppersSpec Rows.tripHoppersRow = true := by
  unfold joinedFacts
  rw [pk_laid, pk_maps, pk_stops, pk_knobs, pk_heard, pk_may, pk_lifts, pk_plain, tho_inPlace, tho_unf, tho_rec, tho_vars]
  kernel_rfl
end Go.Proofs.Ytmhmfjgahhgbpaa

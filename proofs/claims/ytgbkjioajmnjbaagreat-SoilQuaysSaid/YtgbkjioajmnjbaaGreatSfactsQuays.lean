/- Closed facts of one function of the program. -/
import Derived.Test.YtgbkjioajmnjbaaGreatSfacts
namespace Go.Proofs.YtgbkjioajmnjbaaGreat
open Go
theorem squ_inPlace : Tryz.prog.inPlace 3 = [] := by kernel_rfl
theorem squ_unf : Tryz.prog.unfollowed 3 = true := by kernel_rfl
theorem squ_rec : Tryz.prog.recurses 3 = true := by kernel_rfl
theorem squ_vars : Tryz.prog.varsNamed 3 = [] := by kernel_rfl
theorem squ_name : Tryz.prog.funcNamed Rows.soilQuaysRow.func = some 3 := by kernel_rfl
theorem squ_joined : joinedFacts Tryz.prog 3 Tryz.f3 Rows.soilQuaysSpec Rows.soilQuaysRow = true := by
  unfold joinedFacts
  rw [pk_laid, pk_maps, pk_stops, pk_knobs, pk_heard, pk_may, pk_lifts, pk_plain, squ_inPlace, squ_unf, squ_rec, squ_vars]
  kernel_rfl
end Go.Proofs.YtgbkjioajmnjbaaGreat

/- Closed facts of one function of the program. -/
import Derived.Test.YtdbabihjnhnnfaaGreatSfacts
namespace Go.Proofs.YtdbabihjnhnnfaaGreat
open Go
theorem spr_inPlace : Tryz.prog.inPlace 3 = [] := by kernel_rfl
theorem spr_unf : Tryz.prog.unfollowed 3 = true := by kernel_rfl
theorem spr_rec : Tryz.prog.recurses 3 = true := by kernel_rfl
theorem spr_vars : Tryz.prog.varsNamed 3 = [] := by kernel_rfl
theorem spr_name : Tryz.prog.funcNamed Rows.soilProvesRow.func = some 3 := by kernel_rfl
theorem spr_joined : joinedFacts Tryz.prog 3 Tryz.f3 Rows.soilProvesSpec Rows.soilProvesRow = true := by
  unfold joinedFacts
  rw [pk_laid, pk_maps, pk_stops, pk_knobs, pk_heard, pk_may, pk_lifts, pk_plain, spr_inPlace, spr_unf, spr_rec, spr_vars]
  kernel_rfl
end Go.Proofs.YtdbabihjnhnnfaaGreat

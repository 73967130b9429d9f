/- Closed facts of one function of the program. -/
import Derived.Test.YtblmljcgjibfgaaTfacts
namespace Go.Proofs.Ytblmljcgjibfgaa
open Go
theorem tb_inPlace : Try.prog.inPlace 5 = [] := by kernel_rfl
theorem tb_unf : Try.prog.unfollowed 5 = true := by kernel_rfl
theorem tb_rec : Try.prog.recurses 5 = true := by kernel_rfl
theorem tb_vars : Try.prog.varsNamed 5 = [] := by kernel_rfl
theorem tb_name : Try.prog.funcNamed Rows.tideBetweenRow.func = some 5 := by kernel_rfl
theorem tbetween_joined : joinedFacts Try.prog 5 Try.f5 Rows.tideBetweenSpec Rows.tideBetweenRow = true := by
  unfold joinedFacts
  rw [pk_laid, pk_maps, pk_stops, pk_knobs, pk_heard, pk_may, pk_lifts, pk_plain, tb_inPlace, tb_unf, tb_rec, tb_vars]
  kernel_rfl
end Go.Proofs.Ytblmljcgjibfgaa

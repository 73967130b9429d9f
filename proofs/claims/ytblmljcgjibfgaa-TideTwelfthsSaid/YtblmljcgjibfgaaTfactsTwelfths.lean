/- Closed facts of one function of the program. -/
import Derived.Test.YtblmljcgjibfgaaTfacts
namespace Go.Proofs.Ytblmljcgjibfgaa
open Go
theorem ttw_inPlace : Try.prog.inPlace 13 = [] := by kernel_rfl
theorem ttw_unf : Try.prog.unfollowed 13 = true := by kernel_rfl
theorem ttw_rec : Try.prog.recurses 13 = true := by kernel_rfl
theorem ttw_vars : Try.prog.varsNamed 13 = [] := by kernel_rfl
theorem ttw_name : Try.prog.funcNamed Rows.tideTwelfthsRow.func = some 13 := by kernel_rfl
theorem ttwelfths_joined : joinedFacts Try.prog 13 Try.f13 Rows.tideTwelfthsSpec Rows.tideTwelfthsRow = true := by
  unfold joinedFacts
  rw [pk_laid, pk_maps, pk_stops, pk_knobs, pk_heard, pk_may, pk_lifts, pk_plain, ttw_inPlace, ttw_unf, ttw_rec, ttw_vars]
  kernel_rfl
end Go.Proofs.Ytblmljcgjibfgaa

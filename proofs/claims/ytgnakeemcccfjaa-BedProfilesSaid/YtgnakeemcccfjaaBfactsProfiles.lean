/- Closed facts of one function of the program. -/
import Derived.Test.YtgnakeemcccfjaaBfacts
namespace Go.Proofs.Ytgnakeemcccfjaa
open Go
theorem bpf_inPlace : Try.prog.inPlace 5 = [] := by kernel_rfl
theorem bpf_unf : Try.prog.unfollowed 5 = true := by kernel_rfl
theorem bpf_rec : Try.prog.recurses 5 = true := by kernel_rfl
theorem bpf_vars : Try.prog.varsNamed 5 = [] := by kernel_rfl
theorem bpf_name : Try.prog.funcNamed Rows.bedProfilesRow.func = some 5 := by kernel_rfl
theorem bpf_joined : joinedFacts Try.prog 5 Try.f5 Rows.bedProfilesSpec Rows.bedProfilesRow = true := by
  unfold joinedFacts
  rw [pk_laid, pk_maps, pk_stops, pk_knobs, pk_heard, pk_may, pk_lifts, pk_plain, bpf_inPlace, bpf_unf, bpf_rec, bpf_vars]
  kernel_rfl
end Go.Proofs.Ytgnakeemcccfjaa

/- Closed facts of the program, each asked once. -/
import Derived.Test.YtgnakeemcccfjaaGreatRows
import Derived.JoinedOf
import Derived.KernelRfl
namespace Go.Proofs.YtgnakeemcccfjaaGreat
open Go
theorem pk_laid : laidOutB Tryz.prog = true := by kernel_rfl
theorem pk_maps : mapsRowed Tryz.prog = true := by kernel_rfl
theorem pk_stops : Tryz.prog.stops = [] := by kernel_rfl
theorem pk_knobs : Tryz.prog.stopKnobs = [] := by kernel_rfl
theorem pk_heard : Tryz.prog.stopsHeard = true := by kernel_rfl
theorem pk_may : Tryz.prog.mayEnter = true := by kernel_rfl
theorem pk_lifts : Tryz.prog.liftsFinal = Rows.bedWithinRow.lifted := by kernel_rfl
theorem pk_plain : Tryz.prog.plainKeys = Rows.bedWithinRow.plainKeys := by kernel_rfl
theorem bwi_inPlace : Tryz.prog.inPlace 3 = [] := by kernel_rfl
theorem bwi_unf : Tryz.prog.unfollowed 3 = true := by kernel_rfl
theorem bwi_rec : Tryz.prog.recurses 3 = true := by kernel_rfl
theorem bwi_vars : Tryz.prog.varsNamed 3 = [] := by kernel_rfl
theorem bwi_name : Tryz.prog.funcNamed Rows.bedWithinRow.func = some 3 := by kernel_rfl
theorem bwi_joined : joinedFacts Tryz.prog 3 Tryz.f3 Rows.bedWithinSpec Rows.bedWithinRow = true := by
  unfold joinedFacts
  rw [pk_laid, pk_maps, pk_stops, pk_knobs, pk_heard, pk_may, pk_lifts, pk_plain, bwi_inPlace, bwi_unf, bwi_rec, bwi_vars]
  kernel_rfl

end Go.Proofs.YtgnakeemcccfjaaGreat

/- Closed facts of the program, each asked once. -/
import Derived.Test.YtgbkjioajmnjbaaGreatRows
import Derived.JoinedOf
import Derived.KernelRfl
namespace Go.Proofs.YtgbkjioajmnjbaaGreat
open Go
theorem pk_laid : laidOutB Tryz.prog = true := by kernel_rfl
theorem pk_maps : mapsRowed Tryz.prog = true := by kernel_rfl
theorem pk_stops : Tryz.prog.stops = [] := by kernel_rfl
theorem pk_knobs : Tryz.prog.stopKnobs = [] := by kernel_rfl
theorem pk_heard : Tryz.prog.stopsHeard = true := by kernel_rfl
theorem pk_may : Tryz.prog.mayEnter = true := by kernel_rfl
theorem pk_lifts : Tryz.prog.liftsFinal = Rows.soilQuaysRow.lifted := by kernel_rfl
theorem pk_plain : Tryz.prog.plainKeys = Rows.soilQuaysRow.plainKeys := by kernel_rfl
end Go.Proofs.YtgbkjioajmnjbaaGreat

/- Closed facts of the program, each asked once. -/
import Derived.Test.YtmhmfjgahhgbpaaRows
import Derived.JoinedOf
import Derived.KernelRfl
namespace Go.Proofs.Ytmhmfjgahhgbpaa
open Go
theorem pk_laid : laidOutB Try.prog = true := by kernel_rfl
theorem pk_maps : mapsRowed Try.prog = true := by kernel_rfl
theorem pk_stops : Try.prog.stops = [] := by kernel_rfl
theorem pk_knobs : Try.prog.stopKnobs = [] := by kernel_rfl
theorem pk_heard : Try.prog.stopsHeard = true := by kernel_rfl
theorem pk_may : Try.prog.mayEnter = true := by kernel_rfl
theorem pk_lifts : Try.prog.liftsFinal = Rows.tripHoppersRow.lifted := by kernel_rfl
theorem pk_plain : Try.prog.plainKeys = Rows.tripHoppersRow.plainKeys := by kernel_rfl
end Go.Proofs.Ytmhmfjgahhgbpaa

/-
  No cell of these rows narrows 'for every input' (looked for: loops, veiled, ifaces, maps, wideKeys, modest, calm, conditions, laid).
  DERIVED. THE GIVEN ROWS OF THIS SEAT. 3 by the template 'for every input the law returns true; each argument reads behind the call as it read before'; 0 by the template 'total and deterministic' (their statements: YtmhmfjgahhgbpaaTotals.lean).
  GIVEN WITH THE SEED: the statements are not yours to turn. If you find one false, say at which input.
  Laid BY PROGRAM, IN A SANDBOX (cutbox-rows.mjs): the forced cells as the released guide's own fill.sh prints them over the translation 2f451e4a68774354… (all of the seat's roots in one cut). By AI agents, Wed Nov 11 2026. No macro, syntax, notation, axiom, sorry.
-/
import Derived.Test.YtmhmfjgahhgbpaaChecked
import GoSem.Claim
import GoSem.ClaimJoined
import GoSem.ClaimMapViews
import Derived.JoinedTies
import Derived.KernelRfl
namespace Go.Proofs.Ytmhmfjgahhgbpaa
/- THE CELL 'sum', in the pinned program and in every row, IS THE sha256 OF THE DUMP (.gsa) THAT YtmhmfjgahhgbpaaProg.lean LOADS. Nothing in Lean hashes anything: it is a label: what it is worth is what the hold of that sum in a sandbox is worth. -/
noncomputable def Try.pinned : Pinned := { name := "ytmhmfjgahhgbpaa", sum := "2f451e4a68774354b81222c90b84837c5e23a7d3b6720900a828f4c42a0551b9", checked := Try.checked }
namespace Rows
def none {H : Type} : Left H := { results := [], args := [] }

/-- 'dragheadlaw08.TripHoppers': WHATEVER THE INPUT: true; the input reads as it did. -/
def tripHoppersSpec : ChangeSpec := { name := "tripHoppers", fn := fun _ => fun
  | [d1, d2, d3] => { results := [.lit (.bool true)], args := [d1, d2, d3] }
  | _ => none }
def tripHoppersRow : OpenClaim := { program := "ytmhmfjgahhgbpaa", sum := "2f451e4a68774354b81222c90b84837c5e23a7d3b6720900a828f4c42a0551b9", func := "draghead/dragheadlaw08.TripHoppers", spec := "tripHoppers", unfollowed := true, recurses := true, apart := false }
def TripHoppersSaid : Prop := tripHoppersRow.holds Try.pinned (OpenSpec.ofChange tripHoppersSpec)

/-- ITS FALSE NEIGHBOUR: 'it returns false'. Refute it at one input. -/
def tripHoppersWrong : ChangeSpec := { name := "tripHoppers", fn := fun _ => fun
  | [d1, d2, d3] => { results := [.lit (.bool false)], args := [d1, d2, d3] }
  | _ => none }
def TripHoppersWrongFalsely : Prop := tripHoppersRow.holds Try.pinned (OpenSpec.ofChange tripHoppersWrong)

/-- 'dragheadlaw08.TripFairways': WHATEVER THE INPUT: true; the input reads as it did. -/
def tripFairwaysSpec : ChangeSpec := { name := "tripFairways", fn := fun _ => fun
  | [d1, d2] => { results := [.lit (.bool true)], args := [d1, d2] }
  | _ => none }
def tripFairwaysRow : OpenClaim := { program := "ytmhmfjgahhgbpaa", sum := "2f451e4a68774354b81222c90b84837c5e23a7d3b6720900a828f4c42a0551b9", func := "draghead/dragheadlaw08.TripFairways", spec := "tripFairways", unfollowed := true, recurses := true, apart := false }
def TripFairwaysSaid : Prop := tripFairwaysRow.holds Try.pinned (OpenSpec.ofChange tripFairwaysSpec)

/-- ITS FALSE NEIGHBOUR: 'it returns false'. Refute it at one input. -/
def tripFairwaysWrong : ChangeSpec := { name := "tripFairways", fn := fun _ => fun
  | [d1, d2] => { results := [.lit (.bool false)], args := [d1, d2] }
  | _ => none }
def TripFairwaysWrongFalsely : Prop := tripFairwaysRow.holds Try.pinned (OpenSpec.ofChange tripFairwaysWrong)

/-- 'dragheadlaw08.TripOpens': WHATEVER THE INPUT: true; the input reads as it did. -/
def tripOpensSpec : ChangeSpec := { name := "tripOpens", fn := fun _ => fun
  | [d1, d2, d3] => { results := [.lit (.bool true)], args := [d1, d2, d3] }
  | _ => none }
def tripOpensRow : OpenClaim := { program := "ytmhmfjgahhgbpaa", sum := "2f451e4a68774354b81222c90b84837c5e23a7d3b6720900a828f4c42a0551b9", func := "draghead/dragheadlaw08.TripOpens", spec := "tripOpens", unfollowed := true, recurses := true, apart := false }
def TripOpensSaid : Prop := tripOpensRow.holds Try.pinned (OpenSpec.ofChange tripOpensSpec)

/-- ITS FALSE NEIGHBOUR: 'it returns false'. Refute it at one input. -/
def tripOpensWrong : ChangeSpec := { name := "tripOpens", fn := fun _ => fun
  | [d1, d2, d3] => { results := [.lit (.bool false)], args := [d1, d2, d3] }
  | _ => none }
def TripOpensWrongFalsely : Prop := tripOpensRow.holds Try.pinned (OpenSpec.ofChange tripOpensWrong)

/- THE SECOND FORM. 'bulk': how many values and letters a reading holds, each counted each time it is reached (what is shared counts as often as it is met; a slice's spare places count too). A statement '..UptoSaid' is the law's where the arguments, and the package variables that the reading takes, are together of bulk at most 1048576: NARROWER than '..Said'. Prove '..Said' where nothing that the law and all that it calls make is longer than what came in: it says more and counts as full. Else prove '..UptoSaid'. A law counts once. -/
mutual
def uptoBulk {H : Type} : DataW H → Nat
  | .lit (.string bytes) => bytes.length + 1
  | .lit _ => 1
  | .nil => 1
  | .ptr d => uptoBulk d + 1
  | .slice elems spare => uptoBulkAll elems + uptoBulkAll spare + 1
  | .agg parts => uptoBulkAll parts + 1
  | .iface _ d => uptoBulk d + 1
  | .map entries => uptoBulkEntries entries + 1
  | .held _ => 1
def uptoBulkAll {H : Type} : List (DataW H) → Nat
  | [] => 0
  | d :: r => uptoBulk d + uptoBulkAll r
def uptoBulkEntries {H : Type} : List (Lit × DataW H) → Nat
  | [] => 0
  | x :: r => uptoBulkEntry x + uptoBulkEntries r
def uptoBulkEntry {H : Type} : Lit × DataW H → Nat
  | (.string bytes, d) => bytes.length + uptoBulk d + 1
  | (_, d) => uptoBulk d + 1
 end
def uptoSmall : (H : Type) → List (DataW H) → Bool := fun _ ds => decide (uptoBulkAll ds ≤ 1048576)
def OpenSpec.upto (s : _root_.Go.ChangeSpec) : _root_.Go.OpenSpec := { _root_.Go.OpenSpec.ofChange s with cond := some uptoSmall }

/-- 'dragheadlaw08.TripHoppers', WHERE WHAT IT READS IS OF BULK AT MOST 1048576: true; the input reads as it did. -/
def tripHoppersUptoRow : OpenClaim := { program := "ytmhmfjgahhgbpaa", sum := "2f451e4a68774354b81222c90b84837c5e23a7d3b6720900a828f4c42a0551b9", func := "draghead/dragheadlaw08.TripHoppers", spec := "tripHoppers", unfollowed := true, recurses := true, apart := false, narrowed := true }
def TripHoppersUptoSaid : Prop := tripHoppersUptoRow.holds Try.pinned (OpenSpec.upto tripHoppersSpec)

/-- 'dragheadlaw08.TripFairways', WHERE WHAT IT READS IS OF BULK AT MOST 1048576: true; the input reads as it did. -/
def tripFairwaysUptoRow : OpenClaim := { program := "ytmhmfjgahhgbpaa", sum := "2f451e4a68774354b81222c90b84837c5e23a7d3b6720900a828f4c42a0551b9", func := "draghead/dragheadlaw08.TripFairways", spec := "tripFairways", unfollowed := true, recurses := true, apart := false, narrowed := true }
def TripFairwaysUptoSaid : Prop := tripFairwaysUptoRow.holds Try.pinned (OpenSpec.upto tripFairwaysSpec)

/-- 'dragheadlaw08.TripOpens', WHERE WHAT IT READS IS OF BULK AT MOST 1048576: true; the input reads as it did. -/
def tripOpensUptoRow : OpenClaim := { program := "ytmhmfjgahhgbpaa", sum := "2f451e4a68774354b81222c90b84837c5e23a7d3b6720900a828f4c42a0551b9", func := "draghead/dragheadlaw08.TripOpens", spec := "tripOpens", unfollowed := true, recurses := true, apart := false, narrowed := true }
def TripOpensUptoSaid : Prop := tripOpensUptoRow.holds Try.pinned (OpenSpec.upto tripOpensSpec)

end Rows
end Go.Proofs.Ytmhmfjgahhgbpaa

/- The language's comparison of structs of numbers. -/
import Derived.Test.YtohdplnlbnoojaaTtail
import Derived.Laws.StructEq
import Derived.Shelf.SlicesE.Kit
namespace Go.Proofs.Ytohdplnlbnoojaa
open Go Go.RowKit Go.Op

@[go_sem] theorem guardPt : Try.prog.eqGuardType Try.prog.depth 34 = false := by kernel_rfl
@[go_sem] theorem guardCh : Try.prog.eqGuardType Try.prog.depth 149 = false := by kernel_rfl
@[go_sem] theorem guardFrame : Try.prog.eqGuardType Try.prog.depth 195 = false := by kernel_rfl
theorem eqP_in (d : Nat) (a0 a1 b0 b1 : Int) (w : World) : (Op.equalIn (d + 1 + 1) 34 (.agg #[.int .i64 a0, .int .i64 a1]) (.agg #[.int .i64 b0, .int .i64 b1])).run Try.prog w = .ok (a0 == b0 && a1 == b1) w := by
  have u3 := Try.underlying3
  have a3 := Try.isAgg3
  have z3 := Try.sizeOf3
  have hS : Try.prog.underlying 34 = some (.struct (Try.prog.fieldsOf 34)) := by kernel_rfl
  have hp : Try.prog.stoodInHeld 34 = false := by kernel_rfl
  rw [run_equalIn_agg w (d + 1) 34 _ _ hS hp]
  simp only [Program.fieldsOf, Try.underlying34]
  go_simp
  by_cases h1 : a0 = b0 <;> by_cases h2 : a1 = b1 <;> simp [h1, h2]
theorem eqPt : EqlAt Try.prog 34 (fun x => .agg (encP x).toArray) (fun x y => x.x == y.x && x.y == y.y) := by
  refine ⟨fun x y w => ?_, GuardAt.agg _ (by kernel_rfl)⟩
  simp only [encP]
  rw [run_eql_struct, show (10000 : Nat) = 9998 + 1 + 1 from rfl, eqP_in]
  rfl
@[go_sem high] theorem run_eqPt (ax ay bx by_ : Int) (w : World) : (binOp .eql 34 (.agg #[.int .i64 ax, .int .i64 ay]) (.agg #[.int .i64 bx, .int .i64 by_])).run Try.prog w = .ok (.bool (ax == bx && ay == by_)) w := eqPt.1 ⟨ax, ay⟩ ⟨bx, by_⟩ w
def chB (a0 a1 a2 b0 b1 b2 : Int) : Bool := decide (a0 = b0) && (decide (a1 = b1) && decide (a2 = b2))
@[go_sem high] theorem run_eqCh (a0 a1 a2 b0 b1 b2 : Int) (w : World) : (binOp .eql 149 (.agg #[.int .i64 a0, .int .i64 a1, .int .i64 a2]) (.agg #[.int .i64 b0, .int .i64 b1, .int .i64 b2])).run Try.prog w = .ok (.bool (chB a0 a1 a2 b0 b1 b2)) w := by
  unfold chB
  have u3 := Try.underlying3
  have a3 := Try.isAgg3
  have z3 := Try.sizeOf3
  have hS : Try.prog.underlying 149 = some (.struct (Try.prog.fieldsOf 149)) := by kernel_rfl
  have hp : Try.prog.stoodInHeld 149 = false := by kernel_rfl
  rw [run_eql_struct, show (10000 : Nat) = 9999 + 1 from rfl, run_equalIn_agg w 9999 149 _ _ hS hp]
  simp only [Program.fieldsOf, Try.underlying149]
  go_simp
  by_cases h1 : a0 = b0 <;> by_cases h2 : a1 = b1 <;> by_cases h3 : a2 = b2 <;> simp [h1, h2, h3]
@[go_sem high] theorem run_neCh (a0 a1 a2 b0 b1 b2 : Int) (w : World) : (binOp .neq 149 (.agg #[.int .i64 a0, .int .i64 a1, .int .i64 a2]) (.agg #[.int .i64 b0, .int .i64 b1, .int .i64 b2])).run Try.prog w = .ok (.bool (!(chB a0 a1 a2 b0 b1 b2))) w := by
  unfold chB
  have u3 := Try.underlying3
  have a3 := Try.isAgg3
  have z3 := Try.sizeOf3
  have hS : Try.prog.underlying 149 = some (.struct (Try.prog.fieldsOf 149)) := by kernel_rfl
  have hp : Try.prog.stoodInHeld 149 = false := by kernel_rfl
  rw [run_neq_struct, show (10000 : Nat) = 9999 + 1 from rfl, run_equalIn_agg w 9999 149 _ _ hS hp]
  simp only [Program.fieldsOf, Try.underlying149]
  go_simp
  by_cases h1 : a0 = b0 <;> by_cases h2 : a1 = b1 <;> by_cases h3 : a2 = b2 <;> simp [h1, h2, h3]
def frB (a0 a1 a2 a3 a4 b0 b1 b2 b3 b4 : Int) : Bool := decide (a0 = b0) && (decide (a1 = b1) && (decide (a2 = b2) && (decide (a3 = b3) && decide (a4 = b4))))
@[go_sem high] theorem run_neFrame (a0 a1 a2 a3 a4 b0 b1 b2 b3 b4 : Int) (w : World) : (binOp .neq 195 (.agg #[.int .i64 a0, .int .i64 a1, .int .i64 a2, .int .i64 a3, .int .i64 a4]) (.agg #[.int .i64 b0, .int .i64 b1, .int .i64 b2, .int .i64 b3, .int .i64 b4])).run Try.prog w = .ok (.bool (!frB a0 a1 a2 a3 a4 b0 b1 b2 b3 b4)) w := by
  unfold frB
  have u3 := Try.underlying3
  have i3 := Try.isAgg3
  have z3 := Try.sizeOf3
  have i35 := Try.isAgg34
  have z35 := Try.sizeOf34
  have hS : Try.prog.underlying 195 = some (.struct (Try.prog.fieldsOf 195)) := by kernel_rfl
  have hp : Try.prog.stoodInHeld 195 = false := by kernel_rfl
  have hP := fun w => eqP_in 9997 a0 a1 b0 b1 w
  rw [run_neq_struct, show (10000 : Nat) = 9999 + 1 from rfl, run_equalIn_agg w 9999 195 _ _ hS hp]
  simp only [Program.fieldsOf, Try.underlying195]
  go_simp
  by_cases h1 : a0 = b0 <;> by_cases h2 : a1 = b1 <;> by_cases h3 : a2 = b2 <;> by_cases h4 : a3 = b3 <;> by_cases h5 : a4 = b4 <;> simp [h1, h2, h3, h4, h5]
end Go.Proofs.Ytohdplnlbnoojaa

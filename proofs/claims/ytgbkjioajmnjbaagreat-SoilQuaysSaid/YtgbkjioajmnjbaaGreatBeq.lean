/- The language's comparison of structs of numbers. -/
import Derived.Test.YtgbkjioajmnjbaaGreatTtail
import Derived.Laws.StructEq
import Derived.Shelf.SlicesE.Kit
namespace Go.Proofs.YtgbkjioajmnjbaaGreat
open Go Go.RowKit Go.Op

@[go_sem] theorem guardPt : Tryz.prog.eqGuardType Tryz.prog.depth 23 = false := by kernel_rfl
theorem eqP_in (d : Nat) (a0 a1 b0 b1 : Int) (w : World) : (Op.equalIn (d + 1 + 1) 23 (.agg #[.int .i64 a0, .int .i64 a1]) (.agg #[.int .i64 b0, .int .i64 b1])).run Tryz.prog w = .ok (a0 == b0 && a1 == b1) w := by
  have u3 := Tryz.underlying3
  have a3 := Tryz.isAgg3
  have z3 := Tryz.sizeOf3
  have hS : Tryz.prog.underlying 23 = some (.struct (Tryz.prog.fieldsOf 23)) := by kernel_rfl
  have hp : Tryz.prog.stoodInHeld 23 = false := by kernel_rfl
  rw [run_equalIn_agg w (d + 1) 23 _ _ hS hp]
  simp only [Program.fieldsOf, Tryz.underlying23]
  go_simp
  by_cases h1 : a0 = b0 <;> by_cases h2 : a1 = b1 <;> simp [h1, h2]
theorem eqPt : EqlAt Tryz.prog 23 (fun x => .agg (encP x).toArray) (fun x y => x.x == y.x && x.y == y.y) := by
  refine ⟨fun x y w => ?_, GuardAt.agg _ (by kernel_rfl)⟩
  simp only [encP]
  rw [run_eql_struct, show (10000 : Nat) = 9998 + 1 + 1 from rfl, eqP_in]
  rfl
@[go_sem high] theorem run_eqPt (ax ay bx by_ : Int) (w : World) : (binOp .eql 23 (.agg #[.int .i64 ax, .int .i64 ay]) (.agg #[.int .i64 bx, .int .i64 by_])).run Tryz.prog w = .ok (.bool (ax == bx && ay == by_)) w := eqPt.1 ⟨ax, ay⟩ ⟨bx, by_⟩ w
end Go.Proofs.YtgbkjioajmnjbaaGreat

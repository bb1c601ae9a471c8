/- Arrays of integers, held against each other. -/
import Derived.Test.YtllbdkjbcadeoaaHeap
import Derived.Test.YtllbdkjbcadeoaaChecked
namespace Go.Proofs.Ytllbdkjbcadeoaa
open Go.RowKit

theorem run_eq_int (d : Nat) (t : TypeId) (k : IntKind) (a b : Int) (ht : Try.prog.underlying t = some (.int k)) (w : World) : (Op.equalIn (d + 1) t (.int k a) (.int k b)).run Try.prog w = .ok (a == b) w := by
  simp [Op.equalIn, run_underlying ht]

theorem info_int : (Try.prog.info? 3).map (fun i => (i.zero, i.size, i.bytes)) = some (some (.int .i64 0), 1, 8) := by kernel_rfl

theorem run_part_int (xs : Array Value) (i : Nat) (k : IntKind) (a : Int) (h : xs[i]? = some (.int k a)) (w : World) : (part 3 xs i).run Try.prog w = .ok (.int k a) w := by
  unfold part
  simp [h]
theorem run_eq_arr4 (d : Nat) (a0 a1 a2 a3 b0 b1 b2 b3 : Int) (w : World) :
    (Op.equalIn (d + 2) 34 (.agg #[.int .i64 a0, .int .i64 a1, .int .i64 a2, .int .i64 a3]) (.agg #[.int .i64 b0, .int .i64 b1, .int .i64 b2, .int .i64 b3])).run Try.prog w = .ok (a0 == b0 && (a1 == b1 && (a2 == b2 && a3 == b3))) w := by
  obtain ⟨i0, hi, hz0, hz1, hz2⟩ := info_parts info_int
  have pa := fun i v h w => run_part_int #[.int .i64 a0, .int .i64 a1, .int .i64 a2, .int .i64 a3] i .i64 v h w
  have pb := fun i v h w => run_part_int #[.int .i64 b0, .int .i64 b1, .int .i64 b2, .int .i64 b3] i .i64 v h w
  have e := fun a b w => run_eq_int d 3 .i64 a b Try.underlying3 w
  unfold Op.equalIn
  simp only [Sem.run_bind, run_underlying Try.underlying34]
  simp [sizeOf, typeInfo, hi, hz1, List.range', pa 0 a0 rfl, pa 1 a1 rfl, pa 2 a2 rfl, pa 3 a3 rfl, pb 0 b0 rfl, pb 1 b1 rfl, pb 2 b2 rfl, pb 3 b3 rfl, e]
  by_cases h0 : a0 = b0 <;> by_cases h1 : a1 = b1 <;> by_cases h2 : a2 = b2 <;> by_cases h3 : a3 = b3 <;> simp [h0, h1, h2, h3]

theorem run_eql_arr4 (a0 a1 a2 a3 b0 b1 b2 b3 : Int) (w : World) :
    (binOp .eql 34 (.agg #[.int .i64 a0, .int .i64 a1, .int .i64 a2, .int .i64 a3]) (.agg #[.int .i64 b0, .int .i64 b1, .int .i64 b2, .int .i64 b3])).run Try.prog w = .ok (.bool (a0 == b0 && (a1 == b1 && (a2 == b2 && a3 == b3)))) w := by
  simp only [binOp]
  simp [Op.equal, Op.maxDepth, run_eq_arr4 9998]
theorem run_neq_arr4 (a0 a1 a2 a3 b0 b1 b2 b3 : Int) (w : World) :
    (binOp .neq 34 (.agg #[.int .i64 a0, .int .i64 a1, .int .i64 a2, .int .i64 a3]) (.agg #[.int .i64 b0, .int .i64 b1, .int .i64 b2, .int .i64 b3])).run Try.prog w = .ok (.bool (!(a0 == b0 && (a1 == b1 && (a2 == b2 && a3 == b3))))) w := by
  simp only [binOp]
  simp [Op.equal, Op.maxDepth, run_eq_arr4 9998]
end Go.Proofs.Ytllbdkjbcadeoaa

/- Tickets and runs held against each other. -/
import Derived.Test.YtfbpjobobdidiaaGreatDoorLw16
namespace Go.Proofs.YtfbpjobobdidiaaGreatDoor
open Go.RowKit Go.Maps
set_option linter.unusedVariables false
set_option maxRecDepth 100000
theorem neq_t1 (w : World) : (binOp .neq 54 (.agg #[.int .i64 1, .int .i64 3, .int .i64 4, .int .i64 0, .int .i64 0, .int .i64 0, .bool false, .bool false, .bool false]) (.agg #[.int .i64 1, .int .i64 3, .int .i64 4, .int .i64 0, .int .i64 0, .int .i64 0, .bool false, .bool false, .bool false])).run Tryz.prog w = .ok (.bool false) w := by kernel_rfl
theorem neq_t2 (w : World) : (binOp .neq 54 (.agg #[.int .i64 1, .int .i64 1, .int .i64 4, .int .i64 1, .int .i64 0, .int .i64 1, .bool false, .bool false, .bool false]) (.agg #[.int .i64 1, .int .i64 1, .int .i64 4, .int .i64 1, .int .i64 0, .int .i64 1, .bool false, .bool false, .bool false])).run Tryz.prog w = .ok (.bool false) w := by kernel_rfl
theorem eql_r1 (w : World) : (binOp .eql 43 (.agg #[.int .i64 4, .int .i64 2]) (.agg #[.int .i64 4, .int .i64 2])).run Tryz.prog w = .ok (.bool true) w := by kernel_rfl
end Go.Proofs.YtfbpjobobdidiaaGreatDoor

/- The document's own counts, and its sum of one count. No condition but that the counts fit 64 bits. -/
import Derived.Test.YtofmbipedljdkaaHe18
namespace Go.Proofs.Ytofmbipedljdkaa
open Go.RowKit
set_option linter.unusedVariables false

set_option maxHeartbeats 2000000 in
theorem rcounts_raw (x0 x1 x2 x3 x4 x5 x6 x7 x8 x9 : Int) (w : World) : Calls Try.prog 12 #[.agg #[.int .u64 x0, .int .u64 x1, .int .u64 x2, .int .u64 x3, .int .u64 x4, .int .u64 x5, .int .u64 x6, .int .u64 x7, .int .u64 x8, .int .u64 x9]] w fun e w' => e = .returned (.agg #[.int .u64 x0, .int .u64 x1, .int .u64 x2, .int .u64 x3, .int .u64 x4, .int .u64 x5, .int .u64 x6, .int .u64 x7, .int .u64 x8, .int .u64 x9]) ∧ Only none_ w w' := by
  go_enter Try.func12, Try.ntmps12
  go_wp2_with fail
  exact bodyPost_ret (v := .agg #[.int .u64 x0, .int .u64 x1, .int .u64 x2, .int .u64 x3, .int .u64 x4, .int .u64 x5, .int .u64 x6, .int .u64 x7, .int .u64 x8, .int .u64 x9]) (by simp [results, Try.results12, go_sem]) rfl ⟨rfl, (((Only.refl none_ w).alloc _).alloc _).alloc _⟩
theorem rcounts_any (t : Ta) (w : World) : Calls Try.prog 12 #[t.val] w fun e w' => e = .returned t.val ∧ Only none_ w w' := rcounts_raw _ _ _ _ _ _ _ _ _ _ w

/-- n more of the count of a number -/
def Ta.plus (t : Ta) (k n : Nat) : Ta := ⟨fun i => if i = k then held (t.n i + n) else t.n i⟩
set_option maxHeartbeats 1000000 in
theorem radd_0 (x0 x1 x2 x3 x4 x5 x6 x7 x8 x9 n : Nat) (hx : x0 < 18446744073709551616) (hn : n < 18446744073709551616) (w : World) :
    Calls Try.prog 10 #[.agg #[.int .u64 (x0 : Nat), .int .u64 (x1 : Nat), .int .u64 (x2 : Nat), .int .u64 (x3 : Nat), .int .u64 (x4 : Nat), .int .u64 (x5 : Nat), .int .u64 (x6 : Nat), .int .u64 (x7 : Nat), .int .u64 (x8 : Nat), .int .u64 (x9 : Nat)], .int .i64 0, .int .u64 n] w fun e w' => e = .returned (.tuple #[.agg #[.int .u64 (held (x0 + n) : Nat), .int .u64 (x1 : Nat), .int .u64 (x2 : Nat), .int .u64 (x3 : Nat), .int .u64 (x4 : Nat), .int .u64 (x5 : Nat), .int .u64 (x6 : Nat), .int .u64 (x7 : Nat), .int .u64 (x8 : Nat), .int .u64 (x9 : Nat)], .int .i64 0]) ∧ Only none_ w w' := by
  have A := Lib.hid (fun w => add_ref x0 n hx hn w)
  generalize held (x0 + n) = y at *
  go_enter Try.func10, Try.ntmps10
  go_wp2_with fail
  go_wp2_with fail
  (with_reducible refine (A.out _).mono ?_)
  rintro e w1 ⟨rfl, rfl⟩
  go_wp2_with fail
  exact bodyPost_ret (v := .tuple #[.agg #[.int .u64 (y : Nat), .int .u64 (x1 : Nat), .int .u64 (x2 : Nat), .int .u64 (x3 : Nat), .int .u64 (x4 : Nat), .int .u64 (x5 : Nat), .int .u64 (x6 : Nat), .int .u64 (x7 : Nat), .int .u64 (x8 : Nat), .int .u64 (x9 : Nat)], .int .i64 0]) (by simp [results, Try.results10, go_sem]) rfl ⟨rfl, ((Only.refl none_ w).alloc _).alloc _⟩
set_option maxHeartbeats 1000000 in
theorem radd_1 (x0 x1 x2 x3 x4 x5 x6 x7 x8 x9 n : Nat) (hx : x1 < 18446744073709551616) (hn : n < 18446744073709551616) (w : World) :
    Calls Try.prog 10 #[.agg #[.int .u64 (x0 : Nat), .int .u64 (x1 : Nat), .int .u64 (x2 : Nat), .int .u64 (x3 : Nat), .int .u64 (x4 : Nat), .int .u64 (x5 : Nat), .int .u64 (x6 : Nat), .int .u64 (x7 : Nat), .int .u64 (x8 : Nat), .int .u64 (x9 : Nat)], .int .i64 1, .int .u64 n] w fun e w' => e = .returned (.tuple #[.agg #[.int .u64 (x0 : Nat), .int .u64 (held (x1 + n) : Nat), .int .u64 (x2 : Nat), .int .u64 (x3 : Nat), .int .u64 (x4 : Nat), .int .u64 (x5 : Nat), .int .u64 (x6 : Nat), .int .u64 (x7 : Nat), .int .u64 (x8 : Nat), .int .u64 (x9 : Nat)], .int .i64 0]) ∧ Only none_ w w' := by
  have A := Lib.hid (fun w => add_ref x1 n hx hn w)
  generalize held (x1 + n) = y at *
  go_enter Try.func10, Try.ntmps10
  go_wp2_with fail
  go_wp2_with fail
  (with_reducible refine (A.out _).mono ?_)
  rintro e w1 ⟨rfl, rfl⟩
  go_wp2_with fail
  exact bodyPost_ret (v := .tuple #[.agg #[.int .u64 (x0 : Nat), .int .u64 (y : Nat), .int .u64 (x2 : Nat), .int .u64 (x3 : Nat), .int .u64 (x4 : Nat), .int .u64 (x5 : Nat), .int .u64 (x6 : Nat), .int .u64 (x7 : Nat), .int .u64 (x8 : Nat), .int .u64 (x9 : Nat)], .int .i64 0]) (by simp [results, Try.results10, go_sem]) rfl ⟨rfl, ((Only.refl none_ w).alloc _).alloc _⟩
set_option maxHeartbeats 1000000 in
theorem radd_2 (x0 x1 x2 x3 x4 x5 x6 x7 x8 x9 n : Nat) (hx : x2 < 18446744073709551616) (hn : n < 18446744073709551616) (w : World) :
    Calls Try.prog 10 #[.agg #[.int .u64 (x0 : Nat), .int .u64 (x1 : Nat), .int .u64 (x2 : Nat), .int .u64 (x3 : Nat), .int .u64 (x4 : Nat), .int .u64 (x5 : Nat), .int .u64 (x6 : Nat), .int .u64 (x7 : Nat), .int .u64 (x8 : Nat), .int .u64 (x9 : Nat)], .int .i64 2, .int .u64 n] w fun e w' => e = .returned (.tuple #[.agg #[.int .u64 (x0 : Nat), .int .u64 (x1 : Nat), .int .u64 (held (x2 + n) : Nat), .int .u64 (x3 : Nat), .int .u64 (x4 : Nat), .int .u64 (x5 : Nat), .int .u64 (x6 : Nat), .int .u64 (x7 : Nat), .int .u64 (x8 : Nat), .int .u64 (x9 : Nat)], .int .i64 0]) ∧ Only none_ w w' := by
  have A := Lib.hid (fun w => add_ref x2 n hx hn w)
  generalize held (x2 + n) = y at *
  go_enter Try.func10, Try.ntmps10
  go_wp2_with fail
  go_wp2_with fail
  (with_reducible refine (A.out _).mono ?_)
  rintro e w1 ⟨rfl, rfl⟩
  go_wp2_with fail
  exact bodyPost_ret (v := .tuple #[.agg #[.int .u64 (x0 : Nat), .int .u64 (x1 : Nat), .int .u64 (y : Nat), .int .u64 (x3 : Nat), .int .u64 (x4 : Nat), .int .u64 (x5 : Nat), .int .u64 (x6 : Nat), .int .u64 (x7 : Nat), .int .u64 (x8 : Nat), .int .u64 (x9 : Nat)], .int .i64 0]) (by simp [results, Try.results10, go_sem]) rfl ⟨rfl, ((Only.refl none_ w).alloc _).alloc _⟩
set_option maxHeartbeats 1000000 in
theorem radd_3 (x0 x1 x2 x3 x4 x5 x6 x7 x8 x9 n : Nat) (hx : x3 < 18446744073709551616) (hn : n < 18446744073709551616) (w : World) :
    Calls Try.prog 10 #[.agg #[.int .u64 (x0 : Nat), .int .u64 (x1 : Nat), .int .u64 (x2 : Nat), .int .u64 (x3 : Nat), .int .u64 (x4 : Nat), .int .u64 (x5 : Nat), .int .u64 (x6 : Nat), .int .u64 (x7 : Nat), .int .u64 (x8 : Nat), .int .u64 (x9 : Nat)], .int .i64 3, .int .u64 n] w fun e w' => e = .returned (.tuple #[.agg #[.int .u64 (x0 : Nat), .int .u64 (x1 : Nat), .int .u64 (x2 : Nat), .int .u64 (held (x3 + n) : Nat), .int .u64 (x4 : Nat), .int .u64 (x5 : Nat), .int .u64 (x6 : Nat), .int .u64 (x7 : Nat), .int .u64 (x8 : Nat), .int .u64 (x9 : Nat)], .int .i64 0]) ∧ Only none_ w w' := by
  have A := Lib.hid (fun w => add_ref x3 n hx hn w)
  generalize held (x3 + n) = y at *
  go_enter Try.func10, Try.ntmps10
  go_wp2_with fail
  go_wp2_with fail
  (with_reducible refine (A.out _).mono ?_)
  rintro e w1 ⟨rfl, rfl⟩
  go_wp2_with fail
  exact bodyPost_ret (v := .tuple #[.agg #[.int .u64 (x0 : Nat), .int .u64 (x1 : Nat), .int .u64 (x2 : Nat), .int .u64 (y : Nat), .int .u64 (x4 : Nat), .int .u64 (x5 : Nat), .int .u64 (x6 : Nat), .int .u64 (x7 : Nat), .int .u64 (x8 : Nat), .int .u64 (x9 : Nat)], .int .i64 0]) (by simp [results, Try.results10, go_sem]) rfl ⟨rfl, ((Only.refl none_ w).alloc _).alloc _⟩
set_option maxHeartbeats 1000000 in
theorem radd_4 (x0 x1 x2 x3 x4 x5 x6 x7 x8 x9 n : Nat) (hx : x4 < 18446744073709551616) (hn : n < 18446744073709551616) (w : World) :
    Calls Try.prog 10 #[.agg #[.int .u64 (x0 : Nat), .int .u64 (x1 : Nat), .int .u64 (x2 : Nat), .int .u64 (x3 : Nat), .int .u64 (x4 : Nat), .int .u64 (x5 : Nat), .int .u64 (x6 : Nat), .int .u64 (x7 : Nat), .int .u64 (x8 : Nat), .int .u64 (x9 : Nat)], .int .i64 4, .int .u64 n] w fun e w' => e = .returned (.tuple #[.agg #[.int .u64 (x0 : Nat), .int .u64 (x1 : Nat), .int .u64 (x2 : Nat), .int .u64 (x3 : Nat), .int .u64 (held (x4 + n) : Nat), .int .u64 (x5 : Nat), .int .u64 (x6 : Nat), .int .u64 (x7 : Nat), .int .u64 (x8 : Nat), .int .u64 (x9 : Nat)], .int .i64 0]) ∧ Only none_ w w' := by
  have A := Lib.hid (fun w => add_ref x4 n hx hn w)
  generalize held (x4 + n) = y at *
  go_enter Try.func10, Try.ntmps10
  go_wp2_with fail
  go_wp2_with fail
  (with_reducible refine (A.out _).mono ?_)
  rintro e w1 ⟨rfl, rfl⟩
  go_wp2_with fail
  exact bodyPost_ret (v := .tuple #[.agg #[.int .u64 (x0 : Nat), .int .u64 (x1 : Nat), .int .u64 (x2 : Nat), .int .u64 (x3 : Nat), .int .u64 (y : Nat), .int .u64 (x5 : Nat), .int .u64 (x6 : Nat), .int .u64 (x7 : Nat), .int .u64 (x8 : Nat), .int .u64 (x9 : Nat)], .int .i64 0]) (by simp [results, Try.results10, go_sem]) rfl ⟨rfl, ((Only.refl none_ w).alloc _).alloc _⟩
set_option maxHeartbeats 1000000 in
theorem radd_5 (x0 x1 x2 x3 x4 x5 x6 x7 x8 x9 n : Nat) (hx : x5 < 18446744073709551616) (hn : n < 18446744073709551616) (w : World) :
    Calls Try.prog 10 #[.agg #[.int .u64 (x0 : Nat), .int .u64 (x1 : Nat), .int .u64 (x2 : Nat), .int .u64 (x3 : Nat), .int .u64 (x4 : Nat), .int .u64 (x5 : Nat), .int .u64 (x6 : Nat), .int .u64 (x7 : Nat), .int .u64 (x8 : Nat), .int .u64 (x9 : Nat)], .int .i64 5, .int .u64 n] w fun e w' => e = .returned (.tuple #[.agg #[.int .u64 (x0 : Nat), .int .u64 (x1 : Nat), .int .u64 (x2 : Nat), .int .u64 (x3 : Nat), .int .u64 (x4 : Nat), .int .u64 (held (x5 + n) : Nat), .int .u64 (x6 : Nat), .int .u64 (x7 : Nat), .int .u64 (x8 : Nat), .int .u64 (x9 : Nat)], .int .i64 0]) ∧ Only none_ w w' := by
  have A := Lib.hid (fun w => add_ref x5 n hx hn w)
  generalize held (x5 + n) = y at *
  go_enter Try.func10, Try.ntmps10
  go_wp2_with fail
  go_wp2_with fail
  (with_reducible refine (A.out _).mono ?_)
  rintro e w1 ⟨rfl, rfl⟩
  go_wp2_with fail
  exact bodyPost_ret (v := .tuple #[.agg #[.int .u64 (x0 : Nat), .int .u64 (x1 : Nat), .int .u64 (x2 : Nat), .int .u64 (x3 : Nat), .int .u64 (x4 : Nat), .int .u64 (y : Nat), .int .u64 (x6 : Nat), .int .u64 (x7 : Nat), .int .u64 (x8 : Nat), .int .u64 (x9 : Nat)], .int .i64 0]) (by simp [results, Try.results10, go_sem]) rfl ⟨rfl, ((Only.refl none_ w).alloc _).alloc _⟩
set_option maxHeartbeats 1000000 in
theorem radd_6 (x0 x1 x2 x3 x4 x5 x6 x7 x8 x9 n : Nat) (hx : x6 < 18446744073709551616) (hn : n < 18446744073709551616) (w : World) :
    Calls Try.prog 10 #[.agg #[.int .u64 (x0 : Nat), .int .u64 (x1 : Nat), .int .u64 (x2 : Nat), .int .u64 (x3 : Nat), .int .u64 (x4 : Nat), .int .u64 (x5 : Nat), .int .u64 (x6 : Nat), .int .u64 (x7 : Nat), .int .u64 (x8 : Nat), .int .u64 (x9 : Nat)], .int .i64 6, .int .u64 n] w fun e w' => e = .returned (.tuple #[.agg #[.int .u64 (x0 : Nat), .int .u64 (x1 : Nat), .int .u64 (x2 : Nat), .int .u64 (x3 : Nat), .int .u64 (x4 : Nat), .int .u64 (x5 : Nat), .int .u64 (held (x6 + n) : Nat), .int .u64 (x7 : Nat), .int .u64 (x8 : Nat), .int .u64 (x9 : Nat)], .int .i64 0]) ∧ Only none_ w w' := by
  have A := Lib.hid (fun w => add_ref x6 n hx hn w)
  generalize held (x6 + n) = y at *
  go_enter Try.func10, Try.ntmps10
  go_wp2_with fail
  go_wp2_with fail
  (with_reducible refine (A.out _).mono ?_)
  rintro e w1 ⟨rfl, rfl⟩
  go_wp2_with fail
  exact bodyPost_ret (v := .tuple #[.agg #[.int .u64 (x0 : Nat), .int .u64 (x1 : Nat), .int .u64 (x2 : Nat), .int .u64 (x3 : Nat), .int .u64 (x4 : Nat), .int .u64 (x5 : Nat), .int .u64 (y : Nat), .int .u64 (x7 : Nat), .int .u64 (x8 : Nat), .int .u64 (x9 : Nat)], .int .i64 0]) (by simp [results, Try.results10, go_sem]) rfl ⟨rfl, ((Only.refl none_ w).alloc _).alloc _⟩
set_option maxHeartbeats 1000000 in
theorem radd_7 (x0 x1 x2 x3 x4 x5 x6 x7 x8 x9 n : Nat) (hx : x7 < 18446744073709551616) (hn : n < 18446744073709551616) (w : World) :
    Calls Try.prog 10 #[.agg #[.int .u64 (x0 : Nat), .int .u64 (x1 : Nat), .int .u64 (x2 : Nat), .int .u64 (x3 : Nat), .int .u64 (x4 : Nat), .int .u64 (x5 : Nat), .int .u64 (x6 : Nat), .int .u64 (x7 : Nat), .int .u64 (x8 : Nat), .int .u64 (x9 : Nat)], .int .i64 7, .int .u64 n] w fun e w' => e = .returned (.tuple #[.agg #[.int .u64 (x0 : Nat), .int .u64 (x1 : Nat), .int .u64 (x2 : Nat), .int .u64 (x3 : Nat), .int .u64 (x4 : Nat), .int .u64 (x5 : Nat), .int .u64 (x6 : Nat), .int .u64 (held (x7 + n) : Nat), .int .u64 (x8 : Nat), .int .u64 (x9 : Nat)], .int .i64 0]) ∧ Only none_ w w' := by
  have A := Lib.hid (fun w => add_ref x7 n hx hn w)
  generalize held (x7 + n) = y at *
  go_enter Try.func10, Try.ntmps10
  go_wp2_with fail
  go_wp2_with fail
  (with_reducible refine (A.out _).mono ?_)
  rintro e w1 ⟨rfl, rfl⟩
  go_wp2_with fail
  exact bodyPost_ret (v := .tuple #[.agg #[.int .u64 (x0 : Nat), .int .u64 (x1 : Nat), .int .u64 (x2 : Nat), .int .u64 (x3 : Nat), .int .u64 (x4 : Nat), .int .u64 (x5 : Nat), .int .u64 (x6 : Nat), .int .u64 (y : Nat), .int .u64 (x8 : Nat), .int .u64 (x9 : Nat)], .int .i64 0]) (by simp [results, Try.results10, go_sem]) rfl ⟨rfl, ((Only.refl none_ w).alloc _).alloc _⟩
set_option maxHeartbeats 1000000 in
theorem radd_8 (x0 x1 x2 x3 x4 x5 x6 x7 x8 x9 n : Nat) (hx : x8 < 18446744073709551616) (hn : n < 18446744073709551616) (w : World) :
    Calls Try.prog 10 #[.agg #[.int .u64 (x0 : Nat), .int .u64 (x1 : Nat), .int .u64 (x2 : Nat), .int .u64 (x3 : Nat), .int .u64 (x4 : Nat), .int .u64 (x5 : Nat), .int .u64 (x6 : Nat), .int .u64 (x7 : Nat), .int .u64 (x8 : Nat), .int .u64 (x9 : Nat)], .int .i64 8, .int .u64 n] w fun e w' => e = .returned (.tuple #[.agg #[.int .u64 (x0 : Nat), .int .u64 (x1 : Nat), .int .u64 (x2 : Nat), .int .u64 (x3 : Nat), .int .u64 (x4 : Nat), .int .u64 (x5 : Nat), .int .u64 (x6 : Nat), .int .u64 (x7 : Nat), .int .u64 (held (x8 + n) : Nat), .int .u64 (x9 : Nat)], .int .i64 0]) ∧ Only none_ w w' := by
  have A := Lib.hid (fun w => add_ref x8 n hx hn w)
  generalize held (x8 + n) = y at *
  go_enter Try.func10, Try.ntmps10
  go_wp2_with fail
  go_wp2_with fail
  (with_reducible refine (A.out _).mono ?_)
  rintro e w1 ⟨rfl, rfl⟩
  go_wp2_with fail
  exact bodyPost_ret (v := .tuple #[.agg #[.int .u64 (x0 : Nat), .int .u64 (x1 : Nat), .int .u64 (x2 : Nat), .int .u64 (x3 : Nat), .int .u64 (x4 : Nat), .int .u64 (x5 : Nat), .int .u64 (x6 : Nat), .int .u64 (x7 : Nat), .int .u64 (y : Nat), .int .u64 (x9 : Nat)], .int .i64 0]) (by simp [results, Try.results10, go_sem]) rfl ⟨rfl, ((Only.refl none_ w).alloc _).alloc _⟩
set_option maxHeartbeats 1000000 in
theorem radd_9 (x0 x1 x2 x3 x4 x5 x6 x7 x8 x9 n : Nat) (hx : x9 < 18446744073709551616) (hn : n < 18446744073709551616) (w : World) :
    Calls Try.prog 10 #[.agg #[.int .u64 (x0 : Nat), .int .u64 (x1 : Nat), .int .u64 (x2 : Nat), .int .u64 (x3 : Nat), .int .u64 (x4 : Nat), .int .u64 (x5 : Nat), .int .u64 (x6 : Nat), .int .u64 (x7 : Nat), .int .u64 (x8 : Nat), .int .u64 (x9 : Nat)], .int .i64 9, .int .u64 n] w fun e w' => e = .returned (.tuple #[.agg #[.int .u64 (x0 : Nat), .int .u64 (x1 : Nat), .int .u64 (x2 : Nat), .int .u64 (x3 : Nat), .int .u64 (x4 : Nat), .int .u64 (x5 : Nat), .int .u64 (x6 : Nat), .int .u64 (x7 : Nat), .int .u64 (x8 : Nat), .int .u64 (held (x9 + n) : Nat)], .int .i64 0]) ∧ Only none_ w w' := by
  have A := Lib.hid (fun w => add_ref x9 n hx hn w)
  generalize held (x9 + n) = y at *
  go_enter Try.func10, Try.ntmps10
  go_wp2_with fail
  go_wp2_with fail
  (with_reducible refine (A.out _).mono ?_)
  rintro e w1 ⟨rfl, rfl⟩
  go_wp2_with fail
  exact bodyPost_ret (v := .tuple #[.agg #[.int .u64 (x0 : Nat), .int .u64 (x1 : Nat), .int .u64 (x2 : Nat), .int .u64 (x3 : Nat), .int .u64 (x4 : Nat), .int .u64 (x5 : Nat), .int .u64 (x6 : Nat), .int .u64 (x7 : Nat), .int .u64 (x8 : Nat), .int .u64 (y : Nat)], .int .i64 0]) (by simp [results, Try.results10, go_sem]) rfl ⟨rfl, ((Only.refl none_ w).alloc _).alloc _⟩
theorem radd_in (t : Ta) (ht : t.Wf) (k n : Nat) (hk : k < 10) (hn : n < 18446744073709551616) (w : World) :
    Calls Try.prog 10 #[t.val, .int .i64 k, .int .u64 n] w fun e w' => e = .returned (.tuple #[(t.plus k n).val, .int .i64 0]) ∧ Only none_ w w' := by
  match k, hk with
  | 0, _ => exact radd_0 _ _ _ _ _ _ _ _ _ _ n (ht 0) hn w
  | 1, _ => exact radd_1 _ _ _ _ _ _ _ _ _ _ n (ht 1) hn w
  | 2, _ => exact radd_2 _ _ _ _ _ _ _ _ _ _ n (ht 2) hn w
  | 3, _ => exact radd_3 _ _ _ _ _ _ _ _ _ _ n (ht 3) hn w
  | 4, _ => exact radd_4 _ _ _ _ _ _ _ _ _ _ n (ht 4) hn w
  | 5, _ => exact radd_5 _ _ _ _ _ _ _ _ _ _ n (ht 5) hn w
  | 6, _ => exact radd_6 _ _ _ _ _ _ _ _ _ _ n (ht 6) hn w
  | 7, _ => exact radd_7 _ _ _ _ _ _ _ _ _ _ n (ht 7) hn w
  | 8, _ => exact radd_8 _ _ _ _ _ _ _ _ _ _ n (ht 8) hn w
  | 9, _ => exact radd_9 _ _ _ _ _ _ _ _ _ _ n (ht 9) hn w
set_option maxHeartbeats 1000000 in
theorem radd_out (t : Ta) (k : Int) (n : Nat) (hk : k < 0 ∨ 10 ≤ k) (w : World) : Calls Try.prog 10 #[t.val, .int .i64 k, .int .u64 n] w fun e w' => e = .returned (.tuple #[t.val, .int .i64 1]) ∧ Only none_ w w' := by
  have h0 : ¬ k = 0 := by omega
  have h1 : ¬ k = 1 := by omega
  have h2 : ¬ k = 2 := by omega
  have h3 : ¬ k = 3 := by omega
  have h4 : ¬ k = 4 := by omega
  have h5 : ¬ k = 5 := by omega
  have h6 : ¬ k = 6 := by omega
  have h7 : ¬ k = 7 := by omega
  have h8 : ¬ k = 8 := by omega
  have h9 : ¬ k = 9 := by omega
  clear hk
  go_enter Try.func10, Try.ntmps10
  go_wp2_with fail
  exact bodyPost_ret (v := .tuple #[t.val, .int .i64 1]) (by simp [results, Try.results10, go_sem]) rfl ⟨rfl, ((Only.refl none_ w).alloc _).alloc _⟩
end Go.Proofs.Ytofmbipedljdkaa

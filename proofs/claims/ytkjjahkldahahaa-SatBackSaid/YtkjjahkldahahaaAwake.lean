/- The fixed answers that every statement of layer 1 asks first: all are as asked. -/
import Derived.Test.YtkjjahkldahahaaScale
namespace Go.Proofs.Ytkjjahkldahahaa
open Go.RowKit Nums

set_option maxHeartbeats 4000000 in
set_option maxRecDepth 100000 in
theorem awake_any (w : World) : Calls Try.prog 10 #[] w (Kept (.bool true) w) := by
  have S1 := Lib.hid (show ∀ w, Calls Try.prog 17 #[.int .u64 18446744073709551615, .int .u64 18446744073709551615, .int .u64 18446744073709551615] w (Kept (.tuple #[.int .u64 18446744073709551615, .bool true]) w) from
    fun w => scale_fits 18446744073709551615 18446744073709551615 18446744073709551615 (by decide) (by decide) (by decide) (by decide) (by decide) w)
  have S2 := Lib.hid (show ∀ w, Calls Try.prog 17 #[.int .u64 18446744073709551615, .int .u64 4, .int .u64 2] w (Kept (.tuple #[.int .u64 18446744073709551615, .bool true]) w) from
    fun w => scale_over 18446744073709551615 4 2 (by decide) (by decide) (by decide) (by decide) w)
  have S3 := Lib.hid (show ∀ w, Calls Try.prog 17 #[.int .u64 1, .int .u64 1, .int .u64 0] w (Kept (.tuple #[.int .u64 0, .bool false]) w) from fun w => scale_zero 1 1 w)
  have A1 := Lib.hid (show ∀ w, Calls Try.prog 11 #[.int .u64 18446744073709551615, .int .u64 1] w fun e w' => e = .returned (.int .u64 18446744073709551615) ∧ w = w' from
    fun w => add_any 18446744073709551615 1 (by decide) (by decide) w)
  have A2 := Lib.hid (show ∀ w, Calls Try.prog 13 #[.int .u64 1, .int .u64 2] w fun e w' => e = .returned (.int .u64 0) ∧ w = w' from fun w => sub_any 1 2 (by decide) (by decide) w)
  have A3 := Lib.hid (show ∀ w, Calls Try.prog 15 #[.int .u64 4294967296, .int .u64 4294967296] w fun e w' => e = .returned (.int .u64 18446744073709551615) ∧ w = w' from
    fun w => mul_any 4294967296 4294967296 (by decide) (by decide) w)
  have A4 := Lib.hid (show ∀ w, Calls Try.prog 15 #[.int .u64 4294967296, .int .u64 2147483648] w fun e w' => e = .returned (.int .u64 9223372036854775808) ∧ w = w' from
    fun w => mul_any 4294967296 2147483648 (by decide) (by decide) w)
  have A5 := Lib.hid (show ∀ w, Calls Try.prog 19 #[.int .u64 18446744073709551615, .int .u64 2, .int .u64 18446744073709551615, .int .u64 3] w fun e w' => e = .returned (.int .i64 (-1)) ∧ w = w' from
    fun w => cross_any 18446744073709551615 2 18446744073709551615 3 (by decide) (by decide) (by decide) (by decide) w)
  have A6 := Lib.hid (show ∀ w, Calls Try.prog 21 #[.int .i64 5, .int .i64 1, .int .i64 3] w fun e w' => e = .returned (.int .i64 3) ∧ w = w' from fun w => clamp_any 5 1 3 w)
  have A7 := Lib.hid (show ∀ w, Calls Try.prog 21 #[.int .i64 2, .int .i64 3, .int .i64 1] w fun e w' => e = .returned (.int .i64 3) ∧ w = w' from fun w => clamp_any 2 3 1 w)
  go_enter Try.func10, Try.ntmps10
  go_wp2_with fail
  (with_reducible refine (S1.out _).mono ?_)
  rintro e w1 ⟨rfl, h1⟩
  go_wp2_with fail
  (with_reducible refine (S2.out _).mono ?_)
  rintro e w2 ⟨rfl, h2⟩
  go_wp2_with fail
  (with_reducible refine (S3.out _).mono ?_)
  rintro e w3 ⟨rfl, h3⟩
  have HB := Lib.hid ((h1.trans (h2.mono h1.size)).trans (h3.mono (Nat.le_trans h1.size h2.size)))
  clear h1 h2 h3
  go_wp2_with (first
    | (go_at_call 11; (with_reducible refine (A1.out _).mono ?_); rintro e w' ⟨rfl, rfl⟩)
    | (go_at_call 13; (with_reducible refine (A2.out _).mono ?_); rintro e w' ⟨rfl, rfl⟩)
    | (go_at_call 15; (with_reducible refine (A3.out _).mono ?_); rintro e w' ⟨rfl, rfl⟩)
    | (go_at_call 15; (with_reducible refine (A4.out _).mono ?_); rintro e w' ⟨rfl, rfl⟩)
    | (go_at_call 19; (with_reducible refine (A5.out _).mono ?_); rintro e w' ⟨rfl, rfl⟩)
    | (go_at_call 21; (with_reducible refine (A6.out _).mono ?_); rintro e w' ⟨rfl, rfl⟩)
    | (go_at_call 21; (with_reducible refine (A7.out _).mono ?_); rintro e w' ⟨rfl, rfl⟩))
  go_ret
  exact ⟨rfl, HB.out⟩
end Go.Proofs.Ytkjjahkldahahaa

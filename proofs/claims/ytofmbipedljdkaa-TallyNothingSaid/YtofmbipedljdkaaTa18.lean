/- A tally as ten numbers; what lays them in an array, what makes a tally of them again, what finds one by its number; sums, held. No condition but that the numbers fit 64 bits. -/
import Derived.Test.YtofmbipedljdkaaRows
import Derived.Test.YtofmbipedljdkaaHeap
import Derived.WalkKit
import Derived.ProofKit
import Derived.Laws.Externs
import Derived.Laws.Bits64b
import Derived.Lib.Mul64
import Derived.Handy
import Derived.Lib.Hide
namespace Go.Proofs.Ytofmbipedljdkaa
open Go.RowKit
set_option linter.unusedVariables false

/-- held at the greatest count -/
def held (n : Nat) : Nat := if n < 18446744073709551616 then n else 18446744073709551615
theorem held_lt (n : Nat) : held n < 18446744073709551616 := by unfold held; split <;> omega
theorem held_of_lt {n : Nat} (h : n < 18446744073709551616) : held n = n := by unfold held; rw [if_pos h]
theorem held_of_ge {n : Nat} (h : 18446744073709551616 ≤ n) : held n = 18446744073709551615 := by unfold held; rw [if_neg (by omega)]
theorem ret_int {k : IntKind} {a b : Int} (h : a = b) : Ending.returned (.int k a) = .returned (.int k b) := by rw [h]
theorem add64 (x y : Nat) (w : World) : (callFunc 25 #[.int .u64 x, .int .u64 y, .int .u64 0]).run Try.prog w =
    .ok (.value (.tuple #[.int .u64 (((x + y) % 18446744073709551616 : Nat) : Int), .int .u64 (((x + y) / 18446744073709551616 : Nat) : Int)])) w := by
  rw [run_callFunc_extern Try.func25 (by kernel_rfl) (by kernel_rfl) (by kernel_rfl) (e := add64Entry) (by kernel_rfl), run_add64 x y 0 (by omega) (by omega) (by omega) (by omega)]
  simp only [Result.andThen]
  congr 5 <;> omega
theorem add_any (a b : Nat) (ha : a < 18446744073709551616) (hb : b < 18446744073709551616) (w : World) :
    Calls Try.prog 24 #[.int .u64 a, .int .u64 b] w fun e w' => e = .returned (.int .u64 (held (a + b))) ∧ w = w' := by
  have h := add64 a b
  by_cases c : a + b < 18446744073709551616
  · have h1 : (a + b) / 18446744073709551616 = 0 := by omega
    have h2 : (a + b) % 18446744073709551616 = a + b := by omega
    rw [held_of_lt c]
    simp only [h1, h2] at h
    clear h1 h2
    go_enter Try.func24, Try.ntmps24
    go_wp2
    go_ret
    exact ⟨ret_int (by omega), rfl⟩
  · have h1 : (a + b) / 18446744073709551616 = 1 := by omega
    rw [held_of_ge (by omega)]
    simp only [h1] at h
    clear h1
    go_enter Try.func24, Try.ntmps24
    go_wp2
    go_ret
    exact ⟨ret_int (by omega), rfl⟩
theorem add_ref (a b : Nat) (ha : a < 18446744073709551616) (hb : b < 18446744073709551616) (w : World) :
    Calls Try.prog 19 #[.int .u64 a, .int .u64 b] w fun e w' => e = .returned (.int .u64 (held (a + b))) ∧ w = w' := by
  go_enter Try.func19, Try.ntmps19
  go_wp2
  all_goals (go_ret; refine ⟨ret_int ?_, rfl⟩; unfold held; split <;> omega)

/-- a tally's counts, by their numbers -/
structure Ta where
  n : Nat → Nat
def Ta.Wf (t : Ta) : Prop := ∀ i, t.n i < 18446744073709551616
abbrev Ta.val (t : Ta) : Value := .agg #[.int .u64 (t.n 0), .int .u64 (t.n 1), .int .u64 (t.n 2), .int .u64 (t.n 3), .int .u64 (t.n 4), .int .u64 (t.n 5), .int .u64 (t.n 6), .int .u64 (t.n 7), .int .u64 (t.n 8), .int .u64 (t.n 9)]

theorem of_raw (x0 x1 x2 x3 x4 x5 x6 x7 x8 x9 : Int) (w : World) : Calls Try.prog 21 #[.agg #[.int .u64 x0, .int .u64 x1, .int .u64 x2, .int .u64 x3, .int .u64 x4, .int .u64 x5, .int .u64 x6, .int .u64 x7, .int .u64 x8, .int .u64 x9]] w fun e w' => e = .returned (.agg #[.int .u64 x0, .int .u64 x1, .int .u64 x2, .int .u64 x3, .int .u64 x4, .int .u64 x5, .int .u64 x6, .int .u64 x7, .int .u64 x8, .int .u64 x9]) ∧ Only none_ w w' := by
  go_enter Try.func21, Try.ntmps21
  go_wp2_with fail
  exact bodyPost_ret (v := .agg #[.int .u64 x0, .int .u64 x1, .int .u64 x2, .int .u64 x3, .int .u64 x4, .int .u64 x5, .int .u64 x6, .int .u64 x7, .int .u64 x8, .int .u64 x9]) (by simp [results, Try.results21, go_sem]) rfl ⟨rfl, ((Only.refl none_ w).alloc _).alloc _⟩
theorem tally_raw (x0 x1 x2 x3 x4 x5 x6 x7 x8 x9 : Int) (w : World) : Calls Try.prog 20 #[.agg #[.int .u64 x0, .int .u64 x1, .int .u64 x2, .int .u64 x3, .int .u64 x4, .int .u64 x5, .int .u64 x6, .int .u64 x7, .int .u64 x8, .int .u64 x9]] w fun e w' => e = .returned (.agg #[.int .u64 x0, .int .u64 x1, .int .u64 x2, .int .u64 x3, .int .u64 x4, .int .u64 x5, .int .u64 x6, .int .u64 x7, .int .u64 x8, .int .u64 x9]) ∧ Only none_ w w' := by
  go_enter Try.func20, Try.ntmps20
  go_wp2_with fail
  exact bodyPost_ret (v := .agg #[.int .u64 x0, .int .u64 x1, .int .u64 x2, .int .u64 x3, .int .u64 x4, .int .u64 x5, .int .u64 x6, .int .u64 x7, .int .u64 x8, .int .u64 x9]) (by simp [results, Try.results20, go_sem]) rfl ⟨rfl, ((Only.refl none_ w).alloc _).alloc _⟩
theorem at_0 (x0 x1 x2 x3 x4 x5 x6 x7 x8 x9 : Int) (w : World) : Calls Try.prog 22 (#[.agg #[.int .u64 x0, .int .u64 x1, .int .u64 x2, .int .u64 x3, .int .u64 x4, .int .u64 x5, .int .u64 x6, .int .u64 x7, .int .u64 x8, .int .u64 x9]] ++ #[.int .i64 0]) w fun e w' => e = .returned (.int .u64 x0) ∧ Only none_ w w' := by
  show Calls Try.prog 22 #[.agg #[.int .u64 x0, .int .u64 x1, .int .u64 x2, .int .u64 x3, .int .u64 x4, .int .u64 x5, .int .u64 x6, .int .u64 x7, .int .u64 x8, .int .u64 x9], .int .i64 0] w _
  go_enter Try.func22, Try.ntmps22
  go_wp2_with fail
  go_ret
  exact ⟨rfl, (Only.refl none_ w).alloc _⟩
theorem at_1 (x0 x1 x2 x3 x4 x5 x6 x7 x8 x9 : Int) (w : World) : Calls Try.prog 22 (#[.agg #[.int .u64 x0, .int .u64 x1, .int .u64 x2, .int .u64 x3, .int .u64 x4, .int .u64 x5, .int .u64 x6, .int .u64 x7, .int .u64 x8, .int .u64 x9]] ++ #[.int .i64 1]) w fun e w' => e = .returned (.int .u64 x1) ∧ Only none_ w w' := by
  show Calls Try.prog 22 #[.agg #[.int .u64 x0, .int .u64 x1, .int .u64 x2, .int .u64 x3, .int .u64 x4, .int .u64 x5, .int .u64 x6, .int .u64 x7, .int .u64 x8, .int .u64 x9], .int .i64 1] w _
  go_enter Try.func22, Try.ntmps22
  go_wp2_with fail
  go_ret
  exact ⟨rfl, (Only.refl none_ w).alloc _⟩
theorem at_2 (x0 x1 x2 x3 x4 x5 x6 x7 x8 x9 : Int) (w : World) : Calls Try.prog 22 (#[.agg #[.int .u64 x0, .int .u64 x1, .int .u64 x2, .int .u64 x3, .int .u64 x4, .int .u64 x5, .int .u64 x6, .int .u64 x7, .int .u64 x8, .int .u64 x9]] ++ #[.int .i64 2]) w fun e w' => e = .returned (.int .u64 x2) ∧ Only none_ w w' := by
  show Calls Try.prog 22 #[.agg #[.int .u64 x0, .int .u64 x1, .int .u64 x2, .int .u64 x3, .int .u64 x4, .int .u64 x5, .int .u64 x6, .int .u64 x7, .int .u64 x8, .int .u64 x9], .int .i64 2] w _
  go_enter Try.func22, Try.ntmps22
  go_wp2_with fail
  go_ret
  exact ⟨rfl, (Only.refl none_ w).alloc _⟩
theorem at_3 (x0 x1 x2 x3 x4 x5 x6 x7 x8 x9 : Int) (w : World) : Calls Try.prog 22 (#[.agg #[.int .u64 x0, .int .u64 x1, .int .u64 x2, .int .u64 x3, .int .u64 x4, .int .u64 x5, .int .u64 x6, .int .u64 x7, .int .u64 x8, .int .u64 x9]] ++ #[.int .i64 3]) w fun e w' => e = .returned (.int .u64 x3) ∧ Only none_ w w' := by
  show Calls Try.prog 22 #[.agg #[.int .u64 x0, .int .u64 x1, .int .u64 x2, .int .u64 x3, .int .u64 x4, .int .u64 x5, .int .u64 x6, .int .u64 x7, .int .u64 x8, .int .u64 x9], .int .i64 3] w _
  go_enter Try.func22, Try.ntmps22
  go_wp2_with fail
  go_ret
  exact ⟨rfl, (Only.refl none_ w).alloc _⟩
theorem at_4 (x0 x1 x2 x3 x4 x5 x6 x7 x8 x9 : Int) (w : World) : Calls Try.prog 22 (#[.agg #[.int .u64 x0, .int .u64 x1, .int .u64 x2, .int .u64 x3, .int .u64 x4, .int .u64 x5, .int .u64 x6, .int .u64 x7, .int .u64 x8, .int .u64 x9]] ++ #[.int .i64 4]) w fun e w' => e = .returned (.int .u64 x4) ∧ Only none_ w w' := by
  show Calls Try.prog 22 #[.agg #[.int .u64 x0, .int .u64 x1, .int .u64 x2, .int .u64 x3, .int .u64 x4, .int .u64 x5, .int .u64 x6, .int .u64 x7, .int .u64 x8, .int .u64 x9], .int .i64 4] w _
  go_enter Try.func22, Try.ntmps22
  go_wp2_with fail
  go_ret
  exact ⟨rfl, (Only.refl none_ w).alloc _⟩
theorem at_5 (x0 x1 x2 x3 x4 x5 x6 x7 x8 x9 : Int) (w : World) : Calls Try.prog 22 (#[.agg #[.int .u64 x0, .int .u64 x1, .int .u64 x2, .int .u64 x3, .int .u64 x4, .int .u64 x5, .int .u64 x6, .int .u64 x7, .int .u64 x8, .int .u64 x9]] ++ #[.int .i64 5]) w fun e w' => e = .returned (.int .u64 x5) ∧ Only none_ w w' := by
  show Calls Try.prog 22 #[.agg #[.int .u64 x0, .int .u64 x1, .int .u64 x2, .int .u64 x3, .int .u64 x4, .int .u64 x5, .int .u64 x6, .int .u64 x7, .int .u64 x8, .int .u64 x9], .int .i64 5] w _
  go_enter Try.func22, Try.ntmps22
  go_wp2_with fail
  go_ret
  exact ⟨rfl, (Only.refl none_ w).alloc _⟩
theorem at_6 (x0 x1 x2 x3 x4 x5 x6 x7 x8 x9 : Int) (w : World) : Calls Try.prog 22 (#[.agg #[.int .u64 x0, .int .u64 x1, .int .u64 x2, .int .u64 x3, .int .u64 x4, .int .u64 x5, .int .u64 x6, .int .u64 x7, .int .u64 x8, .int .u64 x9]] ++ #[.int .i64 6]) w fun e w' => e = .returned (.int .u64 x6) ∧ Only none_ w w' := by
  show Calls Try.prog 22 #[.agg #[.int .u64 x0, .int .u64 x1, .int .u64 x2, .int .u64 x3, .int .u64 x4, .int .u64 x5, .int .u64 x6, .int .u64 x7, .int .u64 x8, .int .u64 x9], .int .i64 6] w _
  go_enter Try.func22, Try.ntmps22
  go_wp2_with fail
  go_ret
  exact ⟨rfl, (Only.refl none_ w).alloc _⟩
theorem at_7 (x0 x1 x2 x3 x4 x5 x6 x7 x8 x9 : Int) (w : World) : Calls Try.prog 22 (#[.agg #[.int .u64 x0, .int .u64 x1, .int .u64 x2, .int .u64 x3, .int .u64 x4, .int .u64 x5, .int .u64 x6, .int .u64 x7, .int .u64 x8, .int .u64 x9]] ++ #[.int .i64 7]) w fun e w' => e = .returned (.int .u64 x7) ∧ Only none_ w w' := by
  show Calls Try.prog 22 #[.agg #[.int .u64 x0, .int .u64 x1, .int .u64 x2, .int .u64 x3, .int .u64 x4, .int .u64 x5, .int .u64 x6, .int .u64 x7, .int .u64 x8, .int .u64 x9], .int .i64 7] w _
  go_enter Try.func22, Try.ntmps22
  go_wp2_with fail
  go_ret
  exact ⟨rfl, (Only.refl none_ w).alloc _⟩
theorem at_8 (x0 x1 x2 x3 x4 x5 x6 x7 x8 x9 : Int) (w : World) : Calls Try.prog 22 (#[.agg #[.int .u64 x0, .int .u64 x1, .int .u64 x2, .int .u64 x3, .int .u64 x4, .int .u64 x5, .int .u64 x6, .int .u64 x7, .int .u64 x8, .int .u64 x9]] ++ #[.int .i64 8]) w fun e w' => e = .returned (.int .u64 x8) ∧ Only none_ w w' := by
  show Calls Try.prog 22 #[.agg #[.int .u64 x0, .int .u64 x1, .int .u64 x2, .int .u64 x3, .int .u64 x4, .int .u64 x5, .int .u64 x6, .int .u64 x7, .int .u64 x8, .int .u64 x9], .int .i64 8] w _
  go_enter Try.func22, Try.ntmps22
  go_wp2_with fail
  go_ret
  exact ⟨rfl, (Only.refl none_ w).alloc _⟩
theorem at_9 (x0 x1 x2 x3 x4 x5 x6 x7 x8 x9 : Int) (w : World) : Calls Try.prog 22 (#[.agg #[.int .u64 x0, .int .u64 x1, .int .u64 x2, .int .u64 x3, .int .u64 x4, .int .u64 x5, .int .u64 x6, .int .u64 x7, .int .u64 x8, .int .u64 x9]] ++ #[.int .i64 9]) w fun e w' => e = .returned (.int .u64 x9) ∧ Only none_ w w' := by
  show Calls Try.prog 22 #[.agg #[.int .u64 x0, .int .u64 x1, .int .u64 x2, .int .u64 x3, .int .u64 x4, .int .u64 x5, .int .u64 x6, .int .u64 x7, .int .u64 x8, .int .u64 x9], .int .i64 9] w _
  go_enter Try.func22, Try.ntmps22
  go_wp2_with fail
  go_ret
  exact ⟨rfl, (Only.refl none_ w).alloc _⟩
theorem of_any (t : Ta) (w : World) : Calls Try.prog 21 #[t.val] w fun e w' => e = .returned t.val ∧ Only none_ w w' := of_raw _ _ _ _ _ _ _ _ _ _ w
theorem tally_any (t : Ta) (w : World) : Calls Try.prog 20 #[t.val] w fun e w' => e = .returned t.val ∧ Only none_ w w' := tally_raw _ _ _ _ _ _ _ _ _ _ w
theorem at_any (t : Ta) (k : Nat) (hk : k < 10) (w : World) : Calls Try.prog 22 (#[t.val] ++ #[.int .i64 k]) w fun e w' => e = .returned (.int .u64 (t.n k)) ∧ Only none_ w w' := by
  match k, hk with
  | 0, _ => exact at_0 _ _ _ _ _ _ _ _ _ _ w
  | 1, _ => exact at_1 _ _ _ _ _ _ _ _ _ _ w
  | 2, _ => exact at_2 _ _ _ _ _ _ _ _ _ _ w
  | 3, _ => exact at_3 _ _ _ _ _ _ _ _ _ _ w
  | 4, _ => exact at_4 _ _ _ _ _ _ _ _ _ _ w
  | 5, _ => exact at_5 _ _ _ _ _ _ _ _ _ _ w
  | 6, _ => exact at_6 _ _ _ _ _ _ _ _ _ _ w
  | 7, _ => exact at_7 _ _ _ _ _ _ _ _ _ _ w
  | 8, _ => exact at_8 _ _ _ _ _ _ _ _ _ _ w
  | 9, _ => exact at_9 _ _ _ _ _ _ _ _ _ _ w
/-- one by its number, as it is called through a value -/
theorem find_any (t : Ta) (k : Nat) (hk : k < 10) (w : World) : Calls Try.prog 22 #[t.val, .int .i64 k] w fun e w' => e = .returned (.int .u64 (t.n k)) ∧ Only none_ w w' := at_any t k hk w
end Go.Proofs.Ytofmbipedljdkaa

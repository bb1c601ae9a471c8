/- The small functions of runs: what may be, where a run ends, whether it may be. No condition but what each says. -/
import Derived.Test.YtobeoknaanbakaaOwn
import Derived.Test.YtobeoknaanbakaaPl13
import Derived.Test.YtobeoknaanbakaaChecked
import Derived.Deep.QuietTactic
import Derived.BigQuiet
import Derived.BigRegion
namespace Go.Proofs.Ytobeoknaanbakaa
open Go.RowKit
set_option linter.unusedVariables false

def Rn.val (r : Rn) : Value := .agg #[.int .i64 r.f, .int .i64 r.c]
def Rn.cells (r : Rn) : List Value := [.int .i64 r.f, .int .i64 r.c]
theorem rn2 (r : Rn) : (Rn.cells r).length = 2 := rfl
theorem rn_one : ∀ y : Rn, ∀ u ∈ Rn.cells y, u.oneCell' = true := by
  intro y u hu
  simp only [Rn.cells, List.mem_cons, List.not_mem_nil, or_false] at hu
  rcases hu with rfl | rfl <;> rfl

theorem isBlock_q (x : Int) (w : World) : Calls Try.prog 28 #[.int .i64 x] w fun e w' => e = .returned (.bool (decide (0 ≤ x ∧ x < 256))) ∧ w' = w := by
  by_cases h0 : 0 ≤ x
  · have d0 : decide (0 ≤ x) = true := decide_eq_true h0
    by_cases h1 : x < 256
    · have d1 : decide (x < 256) = true := decide_eq_true h1
      rw [show decide (0 ≤ x ∧ x < 256) = true from decide_eq_true (by omega)]
      clear h0 h1
      skip
      go_enter Try.func28, Try.ntmps28
      go_wp2_with fail
      go_ret
      exact ⟨rfl, rfl⟩
    · have d1 : decide (x < 256) = false := decide_eq_false h1
      rw [show decide (0 ≤ x ∧ x < 256) = false from decide_eq_false (by omega)]
      clear h0 h1
      skip
      go_enter Try.func28, Try.ntmps28
      go_wp2_with fail
      go_ret
      exact ⟨rfl, rfl⟩
  · have d0 : decide (0 ≤ x) = false := decide_eq_false h0
    rw [show decide (0 ≤ x ∧ x < 256) = false from decide_eq_false (by omega)]
    clear h0
    skip
    go_enter Try.func28, Try.ntmps28
    go_wp2_with fail
    go_ret
    exact ⟨rfl, rfl⟩
theorem isBlock_any (x : Int) (w : World) : Calls Try.prog 28 #[.int .i64 x] w fun e w' => e = .returned (.bool (decide (0 ≤ x ∧ x < 256))) ∧ Only none_ w w' :=
  (isBlock_q x w).mono (fun e w' h => ⟨h.1, by rw [h.2]; exact Only.refl _ _⟩)
theorem may_any (x : Int) (w : World) : Calls Try.prog 22 #[.int .i64 x] w fun e w' => e = .returned (.bool (decide (mayMost x))) ∧ Only none_ w w' := by
  by_cases h0 : 1 ≤ x
  · have d0 : decide (1 ≤ x) = true := decide_eq_true h0
    by_cases h1 : x ≤ 8
    · have d1 : decide (x ≤ 8) = true := decide_eq_true h1
      rw [show decide (mayMost x) = true from decide_eq_true (by unfold mayMost; omega)]
      clear h0 h1
      skip
      go_enter Try.func22, Try.ntmps22
      go_wp2_with fail
      go_ret
      exact ⟨rfl, Only.refl _ _⟩
    · have d1 : decide (x ≤ 8) = false := decide_eq_false h1
      rw [show decide (mayMost x) = false from decide_eq_false (by unfold mayMost; omega)]
      clear h0 h1
      skip
      go_enter Try.func22, Try.ntmps22
      go_wp2_with fail
      go_ret
      exact ⟨rfl, Only.refl _ _⟩
  · have d0 : decide (1 ≤ x) = false := decide_eq_false h0
    rw [show decide (mayMost x) = false from decide_eq_false (by unfold mayMost; omega)]
    clear h0
    skip
    go_enter Try.func22, Try.ntmps22
    go_wp2_with fail
    go_ret
    exact ⟨rfl, Only.refl _ _⟩
theorem end_any (r : Rn) (w : World) (h : -9223372036854775808 ≤ r.f + r.c ∧ r.f + r.c ≤ 9223372036854775807) : Calls Try.prog 26 #[r.val] w fun e w' => e = .returned (.int .i64 (r.f + r.c)) ∧ Only none_ w w' := by
  have v : IntKind.i64.wrap (r.f + r.c) = r.f + r.c := by rw [IntKind.wrap_i64]; omega
  clear h
  unfold Rn.val
  go_enter Try.func26, Try.ntmps26
  go_wp2_with fail
  go_ret
  exact ⟨rfl, (Only.refl none_ w).alloc _⟩
theorem is_any (r : Rn) (w : World) : Calls Try.prog 27 #[r.val] w fun e w' => e = .returned (.bool (decide (r.Ok))) ∧ Only none_ w w' := by
  by_cases h0 : 0 ≤ r.f
  · have d0 : decide (0 ≤ r.f) = true := decide_eq_true h0
    by_cases h1 : 1 ≤ r.c
    · have d1 : decide (1 ≤ r.c) = true := decide_eq_true h1
      by_cases h2 : r.c ≤ 256
      · have d2 : decide (r.c ≤ 256) = true := decide_eq_true h2
        have v : IntKind.i64.wrap (256 - r.c) = 256 - r.c := by rw [IntKind.wrap_i64]; omega
        by_cases h3 : r.f ≤ 256 - r.c
        · have d3 : decide (r.f ≤ 256 - r.c) = true := decide_eq_true h3
          rw [show decide (r.Ok) = true from decide_eq_true (by unfold Rn.Ok; omega)]
          clear h0 h1 h2 h3
          unfold Rn.val
          go_enter Try.func27, Try.ntmps27
          go_wp2_with fail
          go_ret
          exact ⟨rfl, (Only.refl none_ w).alloc _⟩
        · have d3 : decide (r.f ≤ 256 - r.c) = false := decide_eq_false h3
          rw [show decide (r.Ok) = false from decide_eq_false (by unfold Rn.Ok; omega)]
          clear h0 h1 h2 h3
          unfold Rn.val
          go_enter Try.func27, Try.ntmps27
          go_wp2_with fail
          go_ret
          exact ⟨rfl, (Only.refl none_ w).alloc _⟩
      · have d2 : decide (r.c ≤ 256) = false := decide_eq_false h2
        rw [show decide (r.Ok) = false from decide_eq_false (by unfold Rn.Ok; omega)]
        clear h0 h1 h2
        unfold Rn.val
        go_enter Try.func27, Try.ntmps27
        go_wp2_with fail
        go_ret
        exact ⟨rfl, (Only.refl none_ w).alloc _⟩
    · have d1 : decide (1 ≤ r.c) = false := decide_eq_false h1
      rw [show decide (r.Ok) = false from decide_eq_false (by unfold Rn.Ok; omega)]
      clear h0 h1
      unfold Rn.val
      go_enter Try.func27, Try.ntmps27
      go_wp2_with fail
      go_ret
      exact ⟨rfl, (Only.refl none_ w).alloc _⟩
  · have d0 : decide (0 ≤ r.f) = false := decide_eq_false h0
    rw [show decide (r.Ok) = false from decide_eq_false (by unfold Rn.Ok; omega)]
    clear h0
    unfold Rn.val
    go_enter Try.func27, Try.ntmps27
    go_wp2_with fail
    go_ret
    exact ⟨rfl, (Only.refl none_ w).alloc _⟩
theorem rmay_any (r : Rn) (w : World) : Calls Try.prog 20 #[r.val] w fun e w' => e = .returned (.bool (decide (r.Ok))) ∧ Only none_ w w' := by
  by_cases h0 : 0 ≤ r.f
  · have d0 : decide (0 ≤ r.f) = true := decide_eq_true h0
    by_cases h1 : r.f ≤ 255
    · have d1 : decide (r.f ≤ 255) = true := decide_eq_true h1
      by_cases h2 : 1 ≤ r.c
      · have d2 : decide (1 ≤ r.c) = true := decide_eq_true h2
        by_cases h3 : r.c ≤ 256
        · have d3 : decide (r.c ≤ 256) = true := decide_eq_true h3
          have v : IntKind.i64.wrap (r.f + r.c) = r.f + r.c := by rw [IntKind.wrap_i64]; omega
          by_cases h4 : r.f + r.c ≤ 256
          · have d4 : decide (r.f + r.c ≤ 256) = true := decide_eq_true h4
            rw [show decide (r.Ok) = true from decide_eq_true (by unfold Rn.Ok; omega)]
            clear h0 h1 h2 h3 h4
            unfold Rn.val
            go_enter Try.func20, Try.ntmps20
            go_wp2_with fail
            go_ret
            exact ⟨rfl, (Only.refl none_ w).alloc _⟩
          · have d4 : decide (r.f + r.c ≤ 256) = false := decide_eq_false h4
            rw [show decide (r.Ok) = false from decide_eq_false (by unfold Rn.Ok; omega)]
            clear h0 h1 h2 h3 h4
            unfold Rn.val
            go_enter Try.func20, Try.ntmps20
            go_wp2_with fail
            go_ret
            exact ⟨rfl, (Only.refl none_ w).alloc _⟩
        · have d3 : decide (r.c ≤ 256) = false := decide_eq_false h3
          rw [show decide (r.Ok) = false from decide_eq_false (by unfold Rn.Ok; omega)]
          clear h0 h1 h2 h3
          unfold Rn.val
          go_enter Try.func20, Try.ntmps20
          go_wp2_with fail
          go_ret
          exact ⟨rfl, (Only.refl none_ w).alloc _⟩
      · have d2 : decide (1 ≤ r.c) = false := decide_eq_false h2
        rw [show decide (r.Ok) = false from decide_eq_false (by unfold Rn.Ok; omega)]
        clear h0 h1 h2
        unfold Rn.val
        go_enter Try.func20, Try.ntmps20
        go_wp2_with fail
        go_ret
        exact ⟨rfl, (Only.refl none_ w).alloc _⟩
    · have d1 : decide (r.f ≤ 255) = false := decide_eq_false h1
      rw [show decide (r.Ok) = false from decide_eq_false (by unfold Rn.Ok; omega)]
      clear h0 h1
      unfold Rn.val
      go_enter Try.func20, Try.ntmps20
      go_wp2_with fail
      go_ret
      exact ⟨rfl, (Only.refl none_ w).alloc _⟩
  · have d0 : decide (0 ≤ r.f) = false := decide_eq_false h0
    rw [show decide (r.Ok) = false from decide_eq_false (by unfold Rn.Ok; omega)]
    clear h0
    unfold Rn.val
    go_enter Try.func20, Try.ntmps20
    go_wp2_with fail
    go_ret
    exact ⟨rfl, (Only.refl none_ w).alloc _⟩
end Go.Proofs.Ytobeoknaanbakaa

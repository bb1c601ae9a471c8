/- What the document's own answers of layer 1 are: Mul, Cross, Scale. -/
import Derived.Test.YtkjjahkldahahaaRef
namespace Go.Proofs.Ytkjjahkldahahaa
open Go.RowKit Nums

set_option maxHeartbeats 4000000 in
theorem held_any (n : Nat) (v : Value) (h : Eight n v) (w : World) : Calls Try.prog 25 #[v] w (Kept (.int .u64 (held n)) w) := by
  obtain ⟨o0, o1, o2, o3, o4, o5, o6, o7, rfl, b0, b1, b2, b3, b4, b5, b6, b7, hs⟩ := h
  by_cases c : 0 < o4 ∨ 0 < o5 ∨ 0 < o6 ∨ 0 < o7
  · have hn : 18446744073709551616 ≤ n := by omega
    rw [held_of_ge hn]
    clear hn hs
    by_cases c4 : 0 < o4
    · have t4 : 0 < o4 := c4
      clear c c4
      go_enter Try.func25, Try.ntmps25
      go_wp2
      go_ret
      exact ⟨rfl, (Below.refl _ _).alloc (Nat.le_refl _) _⟩
    obtain rfl : o4 = 0 := by omega
    by_cases c5 : 0 < o5
    · have t5 : 0 < o5 := c5
      clear c c4 c5
      go_enter Try.func25, Try.ntmps25
      go_wp2
      go_ret
      exact ⟨rfl, (Below.refl _ _).alloc (Nat.le_refl _) _⟩
    obtain rfl : o5 = 0 := by omega
    by_cases c6 : 0 < o6
    · have t6 : 0 < o6 := c6
      clear c c4 c5 c6
      go_enter Try.func25, Try.ntmps25
      go_wp2
      go_ret
      exact ⟨rfl, (Below.refl _ _).alloc (Nat.le_refl _) _⟩
    obtain rfl : o6 = 0 := by omega
    have t7 : 0 < o7 := by omega
    clear c c4 c5 c6
    go_enter Try.func25, Try.ntmps25
    go_wp2
    go_ret
    exact ⟨rfl, (Below.refl _ _).alloc (Nat.le_refl _) _⟩
  · obtain rfl : o4 = 0 := by omega
    obtain rfl : o5 = 0 := by omega
    obtain rfl : o6 = 0 := by omega
    obtain rfl : o7 = 0 := by omega
    have hn : n = o0 + o1 * 65536 + o2 * 4294967296 + o3 * 281474976710656 := by omega
    have hl : n < 18446744073709551616 := by omega
    rw [held_of_lt hl]
    have HN := Lib.hid hn
    clear hn hs c hl
    go_enter Try.func25, Try.ntmps25
    go_wp2
    go_ret
    exact ⟨ret_int (by rw [HN.out]; omega), (Below.refl _ _).alloc (Nat.le_refl _) _⟩

theorem mul_ref (a b : Nat) (ha : a < 18446744073709551616) (hb : b < 18446744073709551616) (w : World) :
    Calls Try.prog 16 #[.int .u64 a, .int .u64 b] w (Kept (.int .u64 (held (a * b))) w) := by
  have P := Lib.hid (product_any a b ha hb w)
  have Q := Lib.hid (held_any (a * b))
  generalize a * b = n at *
  go_enter Try.func16, Try.ntmps16
  go_wp2_with fail
  (with_reducible refine P.out.mono ?_)
  rintro e w1 ⟨v, hv, rfl, hb1⟩
  have HV := Lib.hid hv
  clear hv
  go_wp2_with (go_at_call 25; (with_reducible refine (Q.out v HV.out _).mono ?_); rintro e w2 ⟨rfl, hb2⟩)
  go_ret
  exact ⟨rfl, hb1.trans (hb2.mono hb1.size)⟩
end Go.Proofs.Ytkjjahkldahahaa

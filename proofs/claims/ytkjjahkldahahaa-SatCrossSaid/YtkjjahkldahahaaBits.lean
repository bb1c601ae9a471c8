/- Plain arithmetic behind layer 1: one bit of a number out of its digits. No run of the model. -/
namespace Go.Proofs.Ytkjjahkldahahaa.Nums

/-! ### one bit of a number out of its digits -/
theorem bit_low (x R t : Nat) (ht : t < 16) : (x + 65536 * R) / 2 ^ t % 2 = x / 2 ^ t % 2 := by
  have e : 65536 * R = 2 ^ t * (2 ^ (15 - t) * R * 2) := by
    have : (65536 : Nat) = 2 ^ t * (2 ^ (15 - t) * 2) := by rw [← Nat.pow_succ, ← Nat.pow_add, show t + (15 - t + 1) = 16 by omega]
    rw [this, Nat.mul_assoc, Nat.mul_assoc, Nat.mul_assoc, Nat.mul_comm 2 R]
  rw [e, Nat.add_mul_div_left _ _ (Nat.two_pow_pos t)]
  omega

theorem bit_at (x R L n j t m : Nat) (ht : t < 16) (hm : m = 16 * j + t) (hL : L < 2 ^ (16 * j)) (hn : n = (x + 65536 * R) * 2 ^ (16 * j) + L) : x / 2 ^ t % 2 = n / 2 ^ m % 2 := by
  rw [hm, Nat.pow_add, ← Nat.div_div_eq_div_mul, hn, Nat.mul_comm, Nat.mul_add_div (Nat.two_pow_pos _), Nat.div_eq_of_lt hL, Nat.add_zero, bit_low x R t ht]

theorem half_bit (n m : Nat) : n / 2 ^ m = 2 * (n / 2 ^ (m + 1)) + n / 2 ^ m % 2 := by
  rw [Nat.pow_succ, ← Nat.div_div_eq_div_mul]; omega

theorem over_of {z c r n m : Nat} (hs : z * c + r = n / 2 ^ (m + 1)) (hz : 9223372036854775808 ≤ z) (hc : 0 < c) : 18446744073709551616 ≤ n / c := by
  rw [Nat.le_div_iff_mul_le hc]
  have h1 := Nat.div_mul_le_self n (2 ^ (m + 1))
  have h2 : 2 ≤ 2 ^ (m + 1) := by rw [Nat.pow_succ]; have := Nat.two_pow_pos m; omega
  have h3 := Nat.mul_le_mul_left (n / 2 ^ (m + 1)) h2
  have h4 := Nat.mul_le_mul_right c hz
  omega

theorem step_more {z c r n m bit : Nat} (hs : z * c + r = n / 2 ^ (m + 1)) (hb : bit = n / 2 ^ m % 2) (h : c ≤ r * 2 + bit) : (z * 2 + 1) * c + (r * 2 + bit - c) = n / 2 ^ m := by
  have e := half_bit n m
  rw [← hb, ← hs] at e
  rw [e, Nat.add_mul, Nat.mul_right_comm]
  generalize z * c = a at *
  omega

theorem step_less {z c r n m bit : Nat} (hs : z * c + r = n / 2 ^ (m + 1)) (hb : bit = n / 2 ^ m % 2) : (z * 2) * c + (r * 2 + bit) = n / 2 ^ m := by
  have e := half_bit n m
  rw [← hb, ← hs] at e
  rw [e, Nat.mul_right_comm]
  generalize z * c = a at *
  omega

end Go.Proofs.Ytkjjahkldahahaa.Nums

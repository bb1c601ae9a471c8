/- What the document's own answer on a product by a number is: Scale. -/
import Derived.Test.YtkjjahkldahahaaRef2
import Derived.Test.YtkjjahkldahahaaBits
import Derived.Deep.LoopGhost
import Derived.Deep.CutRange
namespace Go.Proofs.Ytkjjahkldahahaa
open Go.RowKit Nums

theorem bit_of {n x0 x1 x2 x3 x4 x5 x6 x7 m : Nat} (hn : x0 + x1 * 65536 + x2 * 4294967296 + x3 * 281474976710656 + x4 * 18446744073709551616 + x5 * 1208925819614629174706176 + x6 * 79228162514264337593543950336 + x7 * 5192296858534827628530496329220096 = n)
    (b0 : x0 ≤ 65535) (b1 : x1 ≤ 65535) (b2 : x2 ≤ 65535) (b3 : x3 ≤ 65535) (b4 : x4 ≤ 65535) (b5 : x5 ≤ 65535) (b6 : x6 ≤ 65535) (b7 : x7 ≤ 65535) (hm : m < 128) :
    ∃ d : Nat, d ≤ 65535 ∧ [Value.int .u64 x0, .int .u64 x1, .int .u64 x2, .int .u64 x3, .int .u64 x4, .int .u64 x5, .int .u64 x6, .int .u64 x7][m / 16]? = some (.int .u64 d) ∧ d / 2 ^ (m % 16) % 2 = n / 2 ^ m % 2 := by
  have ht : m % 16 < 16 := by omega
  have hj : m / 16 = 0 ∨ m / 16 = 1 ∨ m / 16 = 2 ∨ m / 16 = 3 ∨ m / 16 = 4 ∨ m / 16 = 5 ∨ m / 16 = 6 ∨ m / 16 = 7 := by omega
  have e : m = 16 * (m / 16) + m % 16 := by omega
  rcases hj with h | h | h | h | h | h | h | h <;> rw [h] at e ⊢
  · exact ⟨x0, b0, rfl, bit_at x0 (x1 + x2 * 65536 + x3 * 4294967296 + x4 * 281474976710656 + x5 * 18446744073709551616 + x6 * 1208925819614629174706176 + x7 * 79228162514264337593543950336) 0 n 0 _ m ht e (by omega) (by omega)⟩
  · exact ⟨x1, b1, rfl, bit_at x1 (x2 + x3 * 65536 + x4 * 4294967296 + x5 * 281474976710656 + x6 * 18446744073709551616 + x7 * 1208925819614629174706176) x0 n 1 _ m ht e (by omega) (by omega)⟩
  · exact ⟨x2, b2, rfl, bit_at x2 (x3 + x4 * 65536 + x5 * 4294967296 + x6 * 281474976710656 + x7 * 18446744073709551616) (x0 + x1 * 65536) n 2 _ m ht e (by omega) (by omega)⟩
  · exact ⟨x3, b3, rfl, bit_at x3 (x4 + x5 * 65536 + x6 * 4294967296 + x7 * 281474976710656) (x0 + x1 * 65536 + x2 * 4294967296) n 3 _ m ht e (by omega) (by omega)⟩
  · exact ⟨x4, b4, rfl, bit_at x4 (x5 + x6 * 65536 + x7 * 4294967296) (x0 + x1 * 65536 + x2 * 4294967296 + x3 * 281474976710656) n 4 _ m ht e (by omega) (by omega)⟩
  · exact ⟨x5, b5, rfl, bit_at x5 (x6 + x7 * 65536) (x0 + x1 * 65536 + x2 * 4294967296 + x3 * 281474976710656 + x4 * 18446744073709551616) n 5 _ m ht e (by omega) (by omega)⟩
  · exact ⟨x6, b6, rfl, bit_at x6 x7 (x0 + x1 * 65536 + x2 * 4294967296 + x3 * 281474976710656 + x4 * 18446744073709551616 + x5 * 1208925819614629174706176) n 6 _ m ht e (by omega) (by omega)⟩
  · exact ⟨x7, b7, rfl, bit_at x7 0 (x0 + x1 * 65536 + x2 * 4294967296 + x3 * 281474976710656 + x4 * 18446744073709551616 + x5 * 1208925819614629174706176 + x6 * 79228162514264337593543950336) n 7 _ m ht e (by omega) (by omega)⟩

/-- what holds of quotient, rest and counter when k bits are still to come -/
def AtBit (n c k : Nat) (q r i : Value) : Prop := ∃ z x : Nat, q = .int .u64 z ∧ r = .int .u64 x ∧ i = .int .i64 ((k : Int) - 1) ∧ k ≤ 128 ∧ z * c + x = n / 2 ^ k ∧ x < c ∧ z < 18446744073709551616

set_option maxRecDepth 100000 in
set_option maxHeartbeats 16000000 in
theorem scale_ref (a b c : Nat) (ha : a < 18446744073709551616) (hb : b < 18446744073709551616) (hc : c < 18446744073709551616) (h0 : 0 < c) (w : World) :
    Calls Try.prog 18 #[.int .u64 a, .int .u64 b, .int .u64 c] w (Kept (.tuple #[.int .u64 (held (a * b / c)), .bool true]) w) := by
  have P := Lib.hid (product_any a b ha hb)
  have lt128 : a * b < 2 ^ 128 := Nat.lt_of_lt_of_le (Nat.mul_lt_mul'' ha hb) (by decide)
  generalize a * b = n at *
  have L128 := Lib.hid lt128
  clear lt128
  have t : ((c : Int) == 0) = false := by simpa using (by omega : (c : Int) ≠ 0)
  go_enter Try.func18, Try.ntmps18
  go_wp2_with fail
  (with_reducible refine (P.out _).mono ?_)
  rintro e w1 ⟨v, hv, rfl, hb1⟩
  obtain ⟨x0, x1, x2, x3, x4, x5, x6, x7, rfl, bx0, bx1, bx2, bx3, bx4, bx5, bx6, bx7, hn⟩ := hv
  go_wp2
  have HB := Lib.hid (hb1.alloc hb1.size (.cells #[.int .u64 x0, .int .u64 x1, .int .u64 x2, .int .u64 x3, .int .u64 x4, .int .u64 x5, .int .u64 x6, .int .u64 x7] 38))
  have HN := Lib.hid hn
  clear hn hb1 P
  go_loopg [9, 10, 11] 128 (fun k q r i wr => AtBit n c k q r i ∧ w1.alloc (.cells #[.int .u64 x0, .int .u64 x1, .int .u64 x2, .int .u64 x3, .int .u64 x4, .int .u64 x5, .int .u64 x6, .int .u64 x7] 38) = wr)
  case atStart => exact ⟨⟨0, 0, rfl, rfl, rfl, by omega, by rw [Nat.div_eq_of_lt L128.out]; omega, h0, by omega⟩, rfl⟩
  case round =>
    obtain ⟨⟨z, r, rfl, rfl, hi, hk, hs, hr, hz⟩, rfl⟩ := hrel
    obtain ⟨m, rfl⟩ | rfl : (∃ m, gk = m + 1) ∨ gk = 0 := by
      rcases Nat.eq_zero_or_pos gk with h | h
      · exact Or.inr h
      · exact Or.inl ⟨gk - 1, by omega⟩
    · obtain rfl := hi.trans (int_of (show ((m + 1 : Nat) : Int) - 1 = (m : Int) by omega))
      obtain ⟨d, bd, hd, hbit⟩ := bit_of (m := m) HN.out bx0 bx1 bx2 bx3 bx4 bx5 bx6 bx7 (by omega)
      have hs0 := hs
      have bc : d / 2 ^ (m % 16) % 2 ≤ 1 := by omega
      have f1 : IntKind.u64.wrap ((2 : Int) ^ (m % 16)) = ((2 ^ (m % 16) : Nat) : Int) := by
        have : 2 ^ (m % 16) ≤ 2 ^ 15 := Nat.pow_le_pow_right (by omega) (by omega)
        rw [← fits_nat (2 ^ (m % 16)) (by omega)]; simp
      have f2 := quot_nat d (2 ^ (m % 16)) (by omega)
      have f3 : ((d / 2 ^ (m % 16) : Nat) : Int) % 2 = ((d / 2 ^ (m % 16) % 2 : Nat) : Int) := by omega
      have g0 := Nat.two_pow_pos (m % 16)
      generalize hbb : d / 2 ^ (m % 16) % 2 = bit at *
      generalize d / 2 ^ (m % 16) = dq at *
      generalize 2 ^ (m % 16) = g at *
      have g1 : ((g : Int) == 0) = false := by simpa using (by omega : (g : Int) ≠ 0)
      have g2 : ¬ g = 0 := by omega
      have HS := Lib.hid hs
      have HBIT := Lib.hid hbit
      have OV : 9223372036854775808 ≤ z → 18446744073709551616 ≤ n / c := fun h => over_of hs h h0
      have HOV := Lib.hid OV
      have HH : held (n / c) = held (n / c) := rfl
      clear hs hbit hi hbb hs0 OV HH
      by_cases k1 : 9223372036854775808 ≤ r
      · have t1 : decide ((9223372036854775808 : Int) ≤ (r : Int)) = true := decide_eq_true (by omega)
        have f4 : IntKind.u64.wrap (IntKind.u64.wrap ((r : Int) * 2) + (bit : Int)) = (((r * 2 + bit) % 18446744073709551616 : Nat) : Int) := by simp only [IntKind.wrap_u64]; omega
        have f5 : IntKind.u64.wrap ((((r * 2 + bit) % 18446744073709551616 : Nat) : Int) - (c : Int)) = ((r * 2 + bit - c : Nat) : Int) := by simp only [IntKind.wrap_u64]; omega
        have r1 : r * 2 + bit - c < c := by omega
        have SM := Lib.hid (step_more HS.out HBIT.out (show c ≤ r * 2 + bit by omega))
        generalize r * 2 + bit - c = rr at *
        generalize (r * 2 + bit) % 18446744073709551616 = r2 at *
        have C1 := Lib.hid k1
        clear k1
        by_cases zb : 9223372036854775808 ≤ z
        · have HZ := Lib.hid (held_of_ge (HOV.out zb))
          have t3 : decide ((9223372036854775808 : Int) ≤ (z : Int)) = true := decide_eq_true (by omega)
          clear zb
          go_wp2
          go_ret2
          exact ⟨by rw [HZ.out]; rfl, HB.out⟩
        · have t3 : decide ((9223372036854775808 : Int) ≤ (z : Int)) = false := decide_eq_false (by omega)
          have ZB := Lib.hid zb
          go_wp2
          go_roundg m
          case measure => omega
          case rel => exact ⟨⟨z * 2 + 1, rr, int_of (by omega), int_of (by omega), int_of (by omega), by omega, SM.out, r1, by have := ZB.out; omega⟩, rfl⟩
      · by_cases k2 : c ≤ r * 2 + bit
        · have t1 : decide ((9223372036854775808 : Int) ≤ (r : Int)) = false := decide_eq_false (by omega)
          have t2 : decide ((c : Int) ≤ (r : Int) * 2 + (bit : Int)) = true := decide_eq_true (by omega)
          have f4 : IntKind.u64.wrap (IntKind.u64.wrap ((r : Int) * 2) + (bit : Int)) = (r : Int) * 2 + (bit : Int) := by simp only [IntKind.wrap_u64]; omega
          have f5 : IntKind.u64.wrap ((r : Int) * 2 + (bit : Int) - (c : Int)) = ((r * 2 + bit - c : Nat) : Int) := by simp only [IntKind.wrap_u64]; omega
          have r1 : r * 2 + bit - c < c := by omega
          have SM := Lib.hid (step_more HS.out HBIT.out (show c ≤ r * 2 + bit by omega))
          generalize r * 2 + bit - c = rr at *
          have K1 := Lib.hid k1; have K2 := Lib.hid k2
          clear k2
          by_cases zb : 9223372036854775808 ≤ z
          · have HZ := Lib.hid (held_of_ge (HOV.out zb))
            have t3 : decide ((9223372036854775808 : Int) ≤ (z : Int)) = true := decide_eq_true (by omega)
            clear zb
            go_wp2
            go_ret2
            exact ⟨by rw [HZ.out]; rfl, HB.out⟩
          · have t3 : decide ((9223372036854775808 : Int) ≤ (z : Int)) = false := decide_eq_false (by omega)
            have ZB := Lib.hid zb
            go_wp2
            go_roundg m
            case measure => omega
            case rel => exact ⟨⟨z * 2 + 1, rr, int_of (by omega), int_of (by omega), int_of (by omega), by omega, SM.out, r1, by have := ZB.out; omega⟩, rfl⟩
        · have t1 : decide ((9223372036854775808 : Int) ≤ (r : Int)) = false := decide_eq_false (by omega)
          have t2 : decide ((c : Int) ≤ (r : Int) * 2 + (bit : Int)) = false := decide_eq_false (by omega)
          have f4 : IntKind.u64.wrap (IntKind.u64.wrap ((r : Int) * 2) + (bit : Int)) = (r : Int) * 2 + (bit : Int) := by simp only [IntKind.wrap_u64]; omega
          have SM := Lib.hid (step_less HS.out HBIT.out)
          have r1 : r * 2 + bit < c := by omega
          have K1 := Lib.hid k1; have K2 := Lib.hid k2
          clear k2
          by_cases zb : 9223372036854775808 ≤ z
          · have HZ := Lib.hid (held_of_ge (HOV.out zb))
            have t3 : decide ((9223372036854775808 : Int) ≤ (z : Int)) = true := decide_eq_true (by omega)
            clear zb
            go_wp2
            go_ret2
            exact ⟨by rw [HZ.out]; rfl, HB.out⟩
          · have t3 : decide ((9223372036854775808 : Int) ≤ (z : Int)) = false := decide_eq_false (by omega)
            have ZB := Lib.hid zb
            go_wp2
            go_roundg m
            case measure => omega
            case rel => exact ⟨⟨z * 2, r * 2 + bit, int_of (by omega), int_of (by omega), int_of (by omega), by omega, SM.out, r1, by have := ZB.out; omega⟩, rfl⟩
    · have hn : z = n / c := by
        have e : n = c * z + r := by
          simp only [Nat.pow_zero, Nat.div_one] at hs
          rw [Nat.mul_comm]; exact hs.symm
        rw [e, Nat.mul_add_div h0, Nat.div_eq_of_lt hr, Nat.add_zero]
      have hh : held (n / c) = z := by rw [← hn]; exact held_of_lt hz
      have HH := Lib.hid hh
      obtain rfl := hi.trans (int_of (show ((0 : Nat) : Int) - 1 = -1 by omega))
      clear hs hn hh hi
      go_wp2
      go_ret2
      exact ⟨by rw [HH.out]; rfl, HB.out⟩

theorem scale_refs (a b c : Nat) (ha : a < 18446744073709551616) (hb : b < 18446744073709551616) (hc : c < 18446744073709551616) (w : World) :
    Calls Try.prog 18 #[.int .u64 a, .int .u64 b, .int .u64 c] w (Kept (.tuple #[.int .u64 (scaled a b c), .bool (decide (0 < c))]) w) := by
  unfold scaled
  by_cases h0 : 0 < c
  · rw [if_neg (by omega), decide_eq_true h0]
    exact scale_ref a b c ha hb hc h0 w
  · obtain rfl : c = 0 := by omega
    go_enter Try.func18, Try.ntmps18
    go_wp2
    go_ret2
    exact ⟨rfl, Below.refl _ _⟩
end Go.Proofs.Ytkjjahkldahahaa

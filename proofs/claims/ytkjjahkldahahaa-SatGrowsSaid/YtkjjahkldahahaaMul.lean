/- What products of layer 1 answer: Mul64, Mul, Cross; and how many bits a count has: Len64, LeadingZeros64. No condition but that the numbers fit their kinds. -/
import Derived.Test.YtkjjahkldahahaaSmall
import Derived.Lib.BitFns
namespace Go.Proofs.Ytkjjahkldahahaa
open Go.RowKit Nums

theorem mask_nat (a : Nat) (ha : a < 18446744073709551616) : bits .and .u64 (a : Int) 4294967295 = ((a % 4294967296 : Nat) : Int) := by
  have h := bits_and_u64_nat a 4294967295 ha (by omega)
  rw [show a &&& 4294967295 = a % 4294967296 from Nat.and_two_pow_sub_one_eq_mod a 32] at h
  exact h
theorem half_nat (a : Nat) : (a : Int) / 4294967296 = ((a / 4294967296 : Nat) : Int) := by omega
theorem times_nat (a b : Nat) : (a : Int) * (b : Int) = ((a * b : Nat) : Int) := (Int.natCast_mul a b).symm
theorem plus_nat (a b : Nat) : (a : Int) + (b : Int) = ((a + b : Nat) : Int) := (Int.natCast_add a b).symm
theorem fits_nat (a : Nat) (ha : a < 18446744073709551616) : IntKind.u64.wrap (a : Int) = (a : Int) := by rw [IntKind.wrap_u64]; omega
theorem turns_nat (a : Nat) : IntKind.u64.wrap (a : Int) = ((a % 18446744073709551616 : Nat) : Int) := by rw [IntKind.wrap_u64]; omega

set_option maxHeartbeats 1000000 in
theorem mul64_any (x y : Nat) (hx : x < 18446744073709551616) (hy : y < 18446744073709551616) (w : World) :
    Calls Try.prog 24 #[.int .u64 x, .int .u64 y] w fun e w' =>
      e = .returned (.tuple #[.int .u64 ((x * y / 18446744073709551616 : Nat) : Int), .int .u64 ((x * y % 18446744073709551616 : Nat) : Int)]) ∧ w = w' := by
  obtain ⟨p0, p1, p2, hi⟩ := Lib.mul64_hi x y hx hy
  have q1 := Lib.half_mul_le (a := x / 4294967296) (b := y / 4294967296) (by omega) (by omega)
  have q2 := Lib.half_mul_le (a := x / 4294967296) (b := y % 4294967296) (by omega) (by omega)
  have q3 := Lib.half_mul_le (a := x % 4294967296) (b := y / 4294967296) (by omega) (by omega)
  have r1 : x / 4294967296 * (y / 4294967296) < 18446744073709551616 := by omega
  have r2 : x / 4294967296 * (y % 4294967296) < 18446744073709551616 := by omega
  have r3 : x % 4294967296 * (y / 4294967296) < 18446744073709551616 := by omega
  have s1 : x / 4294967296 * (y / 4294967296) + (x / 4294967296 * (y % 4294967296) + x % 4294967296 * (y % 4294967296) / 4294967296) / 4294967296 < 18446744073709551616 := by omega
  have s2 : x / 4294967296 * (y / 4294967296) + (x / 4294967296 * (y % 4294967296) + x % 4294967296 * (y % 4294967296) / 4294967296) / 4294967296 + ((x / 4294967296 * (y % 4294967296) + x % 4294967296 * (y % 4294967296) / 4294967296) % 4294967296 + x % 4294967296 * (y / 4294967296)) / 4294967296 < 18446744073709551616 := by omega
  have G0 := Lib.hid p0; have G1 := Lib.hid p1; have G2 := Lib.hid p2; have G3 := Lib.hid hi
  have K1 := Lib.hid r1; have K2 := Lib.hid r2; have K3 := Lib.hid r3; have K4 := Lib.hid s1; have K5 := Lib.hid s2
  clear p0 p1 p2 hi r1 r2 r3 s1 s2 q1 q2 q3
  go_enter Try.func24, Try.ntmps24
  go_wp2
  simp only [mask_nat x hx, mask_nat y hy, half_nat, times_nat, plus_nat, fits_nat _ G0.out, fits_nat _ K2.out, fits_nat _ G1.out, mask_nat _ G1.out, fits_nat _ K3.out, fits_nat _ G2.out, fits_nat _ K1.out, fits_nat _ K4.out, fits_nat _ K5.out, turns_nat (x * y)]
  rw [G3.out]
  go_ret2
  exact ⟨rfl, rfl⟩

theorem mul_any (a b : Nat) (ha : a < 18446744073709551616) (hb : b < 18446744073709551616) (w : World) :
    Calls Try.prog 15 #[.int .u64 a, .int .u64 b] w fun e w' => e = .returned (.int .u64 (held (a * b))) ∧ w = w' := by
  by_cases c : a * b < 18446744073709551616
  · rw [held_of_lt c]
    have h1 : a * b / 18446744073709551616 = 0 := Nat.div_eq_of_lt c
    have h2 : a * b % 18446744073709551616 = a * b := Nat.mod_eq_of_lt c
    have H := mul64_any a b ha hb w
    rw [h1, h2] at H
    have H1 := Lib.hid H
    clear h1 h2 H
    go_enter Try.func15, Try.ntmps15
    go_wp2_with (go_at_call 24; (with_reducible refine H1.out.mono ?_); rintro e w' ⟨rfl, rfl⟩)
    go_ret
    exact ⟨rfl, rfl⟩
  · rw [held_of_ge (Nat.le_of_not_lt c)]
    have h1 : 1 ≤ a * b / 18446744073709551616 := (Nat.le_div_iff_mul_le (by omega)).mpr (by omega)
    have h2 : (((a * b / 18446744073709551616 : Nat) : Int) == 0) = false := by
      have : ((a * b / 18446744073709551616 : Nat) : Int) ≠ 0 := by omega
      simpa using this
    have H := mul64_any a b ha hb w
    generalize a * b / 18446744073709551616 = hi at *
    generalize a * b % 18446744073709551616 = lo at *
    have H1 := Lib.hid H
    clear H c
    have h3 : ¬ (hi : Int) = 0 := by omega
    go_enter Try.func15, Try.ntmps15
    go_wp2_with (go_at_call 24; (with_reducible refine H1.out.mono ?_); rintro e w' ⟨rfl, rfl⟩)
    all_goals (go_ret; exact ⟨rfl, rfl⟩)

theorem side_hi {m n : Nat} (h : ¬ m / 18446744073709551616 = n / 18446744073709551616) : side ((m / 18446744073709551616 : Nat) : Int) ((n / 18446744073709551616 : Nat) : Int) = side (m : Int) (n : Int) := by
  unfold side; split <;> split <;> (try split) <;> (try split) <;> omega
theorem side_lo {m n : Nat} (h : m / 18446744073709551616 = n / 18446744073709551616) : side ((m % 18446744073709551616 : Nat) : Int) ((n % 18446744073709551616 : Nat) : Int) = side (m : Int) (n : Int) := by
  unfold side; split <;> split <;> (try split) <;> (try split) <;> omega

theorem cross_any (a b c d : Nat) (ha : a < 18446744073709551616) (hb : b < 18446744073709551616) (hc : c < 18446744073709551616) (hd : d < 18446744073709551616) (w : World) :
    Calls Try.prog 19 #[.int .u64 a, .int .u64 b, .int .u64 c, .int .u64 d] w fun e w' => e = .returned (.int .i64 (side ((a * b : Nat) : Int) ((c * d : Nat) : Int))) ∧ w = w' := by
  have M1 := Lib.hid (mul64_any a b ha hb w)
  have M2 := Lib.hid (mul64_any c d hc hd w)
  by_cases e : a * b / 18446744073709551616 = c * d / 18446744073709551616
  · have S := Lib.hid (side_lo e)
    have t : ((((a * b / 18446744073709551616 : Nat) : Int)) == ((c * d / 18446744073709551616 : Nat) : Int)) = true := by rw [e]; simp
    generalize a * b / 18446744073709551616 = h1 at *
    generalize c * d / 18446744073709551616 = h2 at *
    generalize a * b % 18446744073709551616 = l1 at *
    generalize c * d % 18446744073709551616 = l2 at *
    subst e
    clear t
    go_enter Try.func19, Try.ntmps19
    go_wp2_with (first | (go_at_call 24; (with_reducible refine M1.out.mono ?_); rintro e w' ⟨rfl, rfl⟩) | (go_at_call 24; (with_reducible refine M2.out.mono ?_); rintro e w' ⟨rfl, rfl⟩) | (go_at_call 29; (with_reducible refine (compare_any _ _ _).mono ?_); rintro e w' ⟨rfl, rfl⟩))
    go_ret
    exact ⟨ret_int S.out, rfl⟩
  · have S := Lib.hid (side_hi e)
    generalize a * b / 18446744073709551616 = h1 at *
    generalize c * d / 18446744073709551616 = h2 at *
    generalize a * b % 18446744073709551616 = l1 at *
    generalize c * d % 18446744073709551616 = l2 at *
    have e' : ¬ (h1 : Int) = (h2 : Int) := by omega
    clear e
    go_enter Try.func19, Try.ntmps19
    go_wp2_with (first | (go_at_call 24; (with_reducible refine M1.out.mono ?_); rintro e w' ⟨rfl, rfl⟩) | (go_at_call 24; (with_reducible refine M2.out.mono ?_); rintro e w' ⟨rfl, rfl⟩) | (go_at_call 29; (with_reducible refine (compare_any _ _ _).mono ?_); rintro e w' ⟨rfl, rfl⟩))
    go_ret
    exact ⟨ret_int S.out, rfl⟩

theorem len8_get (i : Int) (h0 : 0 ≤ i) (h1 : i ≤ 255) (h : i.toNat < Lib.len8tab.size) : ((Lib.len8tab[i.toNat]'h).toNat : Int) = Lib.bitLen i.toNat := by
  rw [← Lib.len8_of i h0 h1]
  simp only [Lib.len8, ByteArray.getElem?_lt' _ _ h, Option.getD_some]

theorem wrap_small (n : Nat) (h : n ≤ 64) : wrap64 (n : Int) = n := by unfold wrap64; omega

theorem bits_of (x : Int) (k d s : Nat) (h0 : 0 ≤ x) (hs : s ≤ 56) (hd : d = 2 ^ s) (h1 : x ≤ 18446744073709551615) (hk : (k : Int) = x / (d : Int)) (hk1 : k ≤ 255) (hge : s = 0 ∨ 1 ≤ k) :
    wrap64 ((s : Int) + wrap64 (Lib.bitLen k : Int)) = (Lib.bitLen x.toNat : Int) := by
  obtain ⟨n, rfl⟩ := Int.eq_ofNat_of_zero_le h0
  have hk' : k = n / d := by exact_mod_cast hk
  subst hk'
  have l : Lib.bitLen (n / d) ≤ 8 := Lib.bitLen_le8 ⟨n / d, by omega⟩
  rw [wrap_small _ (by omega)]
  simp only [Int.toNat_natCast]
  rcases hge with rfl | hge
  · subst hd
    simp only [Nat.pow_zero, Nat.div_one] at *
    rw [show ((0 : Nat) : Int) + (Lib.bitLen n : Int) = (Lib.bitLen n : Int) by omega, wrap_small _ (by omega)]
  · have hp : 0 < d := by rw [hd]; exact Nat.two_pow_pos s
    have hle : 2 ^ s ≤ n := by
      have := (Nat.le_div_iff_mul_le hp).mp hge
      rw [← hd]; omega
    rw [Lib.bitLen_shift s n hle (by omega), ← hd, plus_nat, wrap_small _ (by omega)]

set_option maxHeartbeats 4000000 in
set_option maxRecDepth 100000 in
theorem len64_any (x : Int) (h0 : 0 ≤ x) (h1 : x ≤ 18446744073709551615) (w : World) :
    Calls Try.prog 34 #[.int .u64 x] w fun e w' => e = .returned (.int .i64 (Lib.bitLen x.toNat)) ∧ w = w' := by
  go_enter Try.func34, Try.ntmps34
  go_wp2
  all_goals try (exfalso; rename_i h; rw [Lib.len8tab_size] at h; omega)
  all_goals (go_ret; refine ⟨ret_int ?_, rfl⟩; rw [len8_get _ (by omega) (by omega)])
  · exact bits_of x (x / 4294967296 / 65536 / 256).toNat 72057594037927936 56 h0 (by omega) rfl h1 (by omega) (by omega) (Or.inr (by omega))
  · exact bits_of x (x / 4294967296 / 65536).toNat 281474976710656 48 h0 (by omega) rfl h1 (by omega) (by omega) (Or.inr (by omega))
  · exact bits_of x (x / 4294967296 / 256).toNat 1099511627776 40 h0 (by omega) rfl h1 (by omega) (by omega) (Or.inr (by omega))
  · exact bits_of x (x / 4294967296).toNat 4294967296 32 h0 (by omega) rfl h1 (by omega) (by omega) (Or.inr (by omega))
  · exact bits_of x (x / 65536 / 256).toNat 16777216 24 h0 (by omega) rfl h1 (by omega) (by omega) (Or.inr (by omega))
  · exact bits_of x (x / 65536).toNat 65536 16 h0 (by omega) rfl h1 (by omega) (by omega) (Or.inr (by omega))
  · exact bits_of x (x / 256).toNat 256 8 h0 (by omega) rfl h1 (by omega) (by omega) (Or.inr (by omega))
  · have := bits_of x x.toNat 1 0 h0 (by omega) rfl h1 (by omega) (by omega) (Or.inl rfl)
    simpa using this

/-- how many zero bits stand ahead of y's first one -/
def zeros (y : Nat) : Nat := 64 - Lib.bitLen y

theorem zeros_any (y : Nat) (hy : y < 18446744073709551616) (w : World) :
    Calls Try.prog 33 #[.int .u64 y] w fun e w' => e = .returned (.int .i64 (zeros y)) ∧ w = w' := by
  have l : Lib.bitLen y ≤ 64 := Lib.bitLen_le y 64 (by omega) (by omega)
  have H := Lib.hid (len64_any (y : Int) (by omega) (by omega) w)
  go_enter Try.func33, Try.ntmps33
  go_wp2_with (go_at_call 34; (with_reducible refine H.out.mono ?_); rintro e w' ⟨rfl, rfl⟩)
  go_ret
  refine ⟨ret_int ?_, rfl⟩
  unfold zeros
  omega

theorem bitLen_half_le : ∀ (k y : Nat), k ≤ 64 → Lib.bitLen y = k → y < 18446744073709551616 → y < 2 ^ k ∧ (0 < y → 2 ^ k ≤ 2 * y)
  | 0, y, _, h, hy => by
    by_cases e : y = 0
    · subst e; simp
    · have := Lib.bitLen_half y e (by omega); omega
  | k + 1, y, hk, h, hy => by
    by_cases e : y = 0
    · subst e; exact ⟨Nat.two_pow_pos _, fun h => absurd h (by omega)⟩
    · have h1 := Lib.bitLen_half y e (by omega)
      obtain ⟨i1, i2⟩ := bitLen_half_le k (y / 2) (by omega) (by omega) (by omega)
      have hp := Nat.two_pow_pos k
      rw [Nat.pow_succ]
      refine ⟨by omega, fun _ => ?_⟩
      by_cases e1 : y / 2 = 0
      · have : k = 0 := by
          have b0 : Lib.bitLen 0 = 0 := by decide +kernel
          rw [e1] at h1; omega
        subst this; simp; omega
      · have := i2 (by omega); omega

/-- Shifted so, a count has its first bit in front. -/
theorem zeros_shift {y : Nat} (h : 0 < y) (hy : y < 18446744073709551616) : zeros y < 64 ∧ 9223372036854775808 ≤ y * 2 ^ zeros y ∧ y * 2 ^ zeros y < 18446744073709551616 := by
  have l : Lib.bitLen y ≤ 64 := Lib.bitLen_le y 64 (by omega) (by omega)
  obtain ⟨b1, b2⟩ := bitLen_half_le (Lib.bitLen y) y l rfl hy
  have b2 := b2 h
  have hl : 0 < Lib.bitLen y := by
    rcases Nat.eq_zero_or_pos (Lib.bitLen y) with e | e
    · rw [e] at b1; simp at b1; omega
    · exact e
  unfold zeros
  generalize Lib.bitLen y = k at *
  have e : (2 : Nat) ^ k * 2 ^ (64 - k) = 18446744073709551616 := by
    rw [← Nat.pow_add, show k + (64 - k) = 64 by omega]
  have hp := Nat.two_pow_pos (64 - k)
  refine ⟨by omega, ?_, ?_⟩
  · have := Nat.mul_le_mul_right (2 ^ (64 - k)) b2
    rw [e, Nat.mul_assoc] at this
    omega
  · have := Nat.mul_lt_mul_of_pos_right b1 hp
    rw [e] at this
    exact this
end Go.Proofs.Ytkjjahkldahahaa

/- Plain arithmetic behind layer 1: counts that are held, digits, long division by two digits. No run of the model, no condition beyond the stated ones. -/
namespace Go.Proofs.Ytkjjahkldahahaa.Nums

/-- held at the greatest count -/
def held (n : Nat) : Nat := if n < 18446744073709551616 then n else 18446744073709551615

theorem held_lt (n : Nat) : held n < 18446744073709551616 := by unfold held; split <;> omega
theorem held_of_lt {n : Nat} (h : n < 18446744073709551616) : held n = n := by unfold held; rw [if_pos h]
theorem held_of_ge {n : Nat} (h : 18446744073709551616 ≤ n) : held n = 18446744073709551615 := by unfold held; rw [if_neg (by omega)]
theorem held_mono {m n : Nat} (h : m ≤ n) : held m ≤ held n := by unfold held; split <;> split <;> omega

/-! ### a digit of a quotient is guessed from above -/

/-- The guess q with its rest r, of u * b + d by y1 * b + y0: never below the true one. -/
def Guess (u d y1 y0 q r : Nat) : Prop := q * y1 + r = u ∧ (u * 4294967296 + d) / (y1 * 4294967296 + y0) ≤ q

theorem guess_start {u d y1 y0 : Nat} (h1 : 0 < y1) (hd : d < 4294967296) : Guess u d y1 y0 (u / y1) (u % y1) := by
  refine ⟨by rw [Nat.mul_comm]; exact Nat.div_add_mod u y1, ?_⟩
  rw [Nat.le_div_iff_mul_le h1]
  have h := Nat.div_mul_le_self (u * 4294967296 + d) (y1 * 4294967296 + y0)
  generalize (u * 4294967296 + d) / (y1 * 4294967296 + y0) = Q at *
  rw [Nat.mul_add, ← Nat.mul_assoc] at h
  generalize Q * y1 = A at *
  generalize Q * y0 = B at *
  omega

theorem guess_low {u y1 y0 : Nat} (h1 : 2147483648 ≤ y1) (h0 : y0 < 4294967296) (hu : u < y1 * 4294967296 + y0) : u / y1 ≤ 4294967297 := by
  have : u / y1 < 4294967298 := by
    rw [Nat.div_lt_iff_lt_mul (by omega)]; omega
  omega

theorem guess_dec {u d y1 y0 q r : Nat} (hd : d < 4294967296) (hu : u < y1 * 4294967296 + y0) (g : Guess u d y1 y0 q r)
    (t : 4294967296 ≤ q ∨ 4294967296 * r + d < q * y0) : 0 < q ∧ Guess u d y1 y0 (q - 1) (r + y1) := by
  obtain ⟨g1, g2⟩ := g
  have h := Nat.div_mul_le_self (u * 4294967296 + d) (y1 * 4294967296 + y0)
  have key : (u * 4294967296 + d) / (y1 * 4294967296 + y0) < q := by
    apply Nat.lt_of_not_le
    intro hle
    have hm := Nat.le_trans (Nat.mul_le_mul_right (y1 * 4294967296 + y0) hle) h
    rcases t with t | t
    · have := Nat.le_trans (Nat.mul_le_mul_right (y1 * 4294967296 + y0) t) hm
      omega
    · rw [Nat.mul_add, ← Nat.mul_assoc] at hm
      generalize q * y1 = A at *
      generalize q * y0 = B at *
      omega
  have hq : 0 < q := Nat.lt_of_le_of_lt (Nat.zero_le _) key
  refine ⟨hq, ?_, Nat.le_sub_one_of_lt key⟩
  clear g2 h t key
  obtain ⟨k, rfl⟩ : ∃ k, q = k + 1 := ⟨q - 1, by omega⟩
  rw [Nat.add_mul] at g1
  simp only [Nat.add_sub_cancel]
  omega

theorem guess_stop {u d y1 y0 q r : Nat} (hy : 0 < y1) (g : Guess u d y1 y0 q r) (t : q * y0 ≤ 4294967296 * r + d) : q = (u * 4294967296 + d) / (y1 * 4294967296 + y0) := by
  obtain ⟨g1, g2⟩ := g
  apply Nat.le_antisymm _ g2
  rw [Nat.le_div_iff_mul_le (by omega), Nat.mul_add, ← Nat.mul_assoc]
  generalize q * y1 = A at *
  generalize q * y0 = B at *
  omega

theorem guess_break {u d y1 y0 q r : Nat} (hy : 0 < y1) (h0 : y0 < 4294967296) (g : Guess u d y1 y0 q r) (hq : q ≤ 4294967296) (hr : 4294967296 ≤ r) : q = (u * 4294967296 + d) / (y1 * 4294967296 + y0) := by
  apply guess_stop hy g
  have := Nat.mul_le_mul hq (Nat.le_of_lt_succ (show y0 < 4294967295 + 1 by omega))
  omega

theorem digit_lt {u d y : Nat} (hd : d < 4294967296) (hu : u < y) : (u * 4294967296 + d) / y < 4294967296 := by
  rw [Nat.div_lt_iff_lt_mul (by omega)]; omega

theorem two_digits_of {B W u d1 d0 y : Nat} (hW : W = B * B) (hy : 0 < y) :
    (u * W + (d1 * B + d0)) / y = (u * B + d1) / y * B + ((u * B + d1) % y * B + d0) / y ∧
    (u * W + (d1 * B + d0)) % y = ((u * B + d1) % y * B + d0) % y := by
  have e := Nat.div_add_mod (u * B + d1) y
  have e2 : u * W + (d1 * B + d0) = ((u * B + d1) % y * B + d0) + y * ((u * B + d1) / y * B) := by
    rw [hW, ← Nat.mul_assoc, ← Nat.mul_assoc y]
    have e3 : (y * ((u * B + d1) / y) + (u * B + d1) % y) * B = (u * B + d1) * B := by rw [e]
    rw [Nat.add_mul, Nat.add_mul] at e3
    omega
  refine ⟨?_, ?_⟩
  · rw [e2, Nat.add_mul_div_left _ _ hy, Nat.add_comm]
  · rw [e2, Nat.add_mul_mod_self_left]

/-- Two digits, one behind the other. -/
theorem two_digits {u d1 d0 y : Nat} (hy : 0 < y) :
    (u * 18446744073709551616 + (d1 * 4294967296 + d0)) / y = (u * 4294967296 + d1) / y * 4294967296 + ((u * 4294967296 + d1) % y * 4294967296 + d0) / y ∧
    (u * 18446744073709551616 + (d1 * 4294967296 + d0)) % y = ((u * 4294967296 + d1) % y * 4294967296 + d0) % y :=
  two_digits_of (by decide) hy

/-- Both scaled by the same: the quotient stays. -/
theorem scaled {n y k : Nat} (hk : 0 < k) : (n * k) / (y * k) = n / y := Nat.mul_div_mul_right n y hk
theorem scaled_mod {n y k : Nat} : (n * k) % (y * k) = n % y * k := Nat.mul_mod_mul_right k n y

/-- The dividend shifted so that the divisor has its first bit in front: 'U', 'L' are its two words. -/
theorem shifted_of {W P K hi lo y : Nat} (hW : P * K = W) (hP : 0 < P) (hK : 0 < K) (hlt : hi < y) (hlo : lo < W) :
    hi * K + lo / P < y * K ∧ (hi * K + lo / P) * W + lo * K % W = (hi * W + lo) * K := by
  have e : lo * K % W = (lo % P) * K := by rw [← hW]; exact Nat.mul_mod_mul_right K lo P
  have e2 := Nat.div_add_mod lo P
  have sum : (hi * K + lo / P) * W + lo * K % W = (hi * W + lo) * K := by
    have h3 : lo * K = (P * (lo / P) + lo % P) * K := by rw [e2]
    have h4 : lo / P * W = P * (lo / P) * K := by rw [← hW, Nat.mul_comm P K, ← Nat.mul_assoc, Nat.mul_comm P (lo / P), Nat.mul_right_comm]
    rw [e, Nat.add_mul, Nat.add_mul, h3, h4, Nat.add_mul, Nat.mul_right_comm hi W K]
    omega
  refine ⟨?_, sum⟩
  have hWp : 0 < W := by rw [← hW]; exact Nat.mul_pos hP hK
  apply Nat.lt_of_mul_lt_mul_right (a := W)
  calc (hi * K + lo / P) * W ≤ (hi * W + lo) * K := by omega
    _ < (y * W) * K := by
        apply Nat.mul_lt_mul_of_pos_right _ hK
        have := Nat.mul_le_mul_right W (show hi + 1 ≤ y from hlt)
        rw [Nat.add_mul] at this
        omega
    _ = y * K * W := Nat.mul_right_comm y W K

theorem shifted {hi lo y s : Nat} (hs : s < 64) (hlt : hi < y) (hlo : lo < 18446744073709551616) :
    hi * 2 ^ s + lo / 2 ^ (64 - s) < y * 2 ^ s ∧
    ((hi * 2 ^ s + lo / 2 ^ (64 - s)) * 18446744073709551616 + lo * 2 ^ s % 18446744073709551616) / (y * 2 ^ s) = (hi * 18446744073709551616 + lo) / y ∧
    ((hi * 2 ^ s + lo / 2 ^ (64 - s)) * 18446744073709551616 + lo * 2 ^ s % 18446744073709551616) % (y * 2 ^ s) = (hi * 18446744073709551616 + lo) % y * 2 ^ s := by
  have hW : 2 ^ (64 - s) * 2 ^ s = 18446744073709551616 := by rw [← Nat.pow_add, show 64 - s + s = 64 by omega]
  obtain ⟨a, b⟩ := shifted_of hW (Nat.two_pow_pos _) (Nat.two_pow_pos _) hlt hlo
  refine ⟨a, ?_, ?_⟩
  · rw [b]; exact scaled (Nat.two_pow_pos s)
  · rw [b]; exact scaled_mod

theorem quarters {Y : Nat} (h : 9223372036854775808 ≤ Y) (h2 : Y < 18446744073709551616) : 2147483648 ≤ Y / 4294967296 ∧ Y / 4294967296 < 4294967296 ∧ Y % 4294967296 < 4294967296 := by omega
theorem halves {Y : Nat} (h2 : Y < 18446744073709551616) : Y / 4294967296 < 4294967296 ∧ Y % 4294967296 < 4294967296 := by omega
theorem mod64_lt (a : Nat) : a % 18446744073709551616 < 18446744073709551616 := by omega

/-- All that the long division of (hi, lo) by y needs, each number under a name of its own. -/
theorem plan {hi lo y s : Nat} (hs : s < 64) (hlt : hi < y) (hlo : lo < 18446744073709551616) (hY : 9223372036854775808 ≤ y * 2 ^ s) (hY2 : y * 2 ^ s < 18446744073709551616) :
    ∃ Y y1 y0 U L d1 d0 Q1 R1 Q0 R0 : Nat, Y = y * 2 ^ s ∧ Y < 18446744073709551616 ∧ y1 = Y / 4294967296 ∧ y0 = Y % 4294967296 ∧ Y = y1 * 4294967296 + y0 ∧ 2147483648 ≤ y1 ∧ y1 < 4294967296 ∧ y0 < 4294967296 ∧
      hi * 2 ^ s < 18446744073709551616 ∧ lo / 2 ^ (64 - s) < 2 ^ s ∧ U = hi * 2 ^ s + lo / 2 ^ (64 - s) ∧ U < Y ∧
      L = lo * 2 ^ s % 18446744073709551616 ∧ L < 18446744073709551616 ∧ d1 = L / 4294967296 ∧ d0 = L % 4294967296 ∧ d1 < 4294967296 ∧ d0 < 4294967296 ∧
      U * 4294967296 + d1 = Q1 * Y + R1 ∧ R1 < Y ∧ Q1 < 4294967296 ∧ R1 * 4294967296 + d0 = Q0 * Y + R0 ∧ R0 < Y ∧ Q0 < 4294967296 ∧
      Q1 = (U * 4294967296 + d1) / (y1 * 4294967296 + y0) ∧ Q0 = (R1 * 4294967296 + d0) / (y1 * 4294967296 + y0) ∧
      (hi * 18446744073709551616 + lo) / y = Q1 * 4294967296 + Q0 ∧ R0 = (hi * 18446744073709551616 + lo) % y * 2 ^ s := by
  obtain ⟨a, b, c⟩ := shifted hs hlt hlo
  have ha : hi * 2 ^ s < 18446744073709551616 := Nat.lt_of_le_of_lt (Nat.le_add_right _ _) (Nat.lt_trans a hY2)
  have hb : lo / 2 ^ (64 - s) < 2 ^ s := by
    rw [Nat.div_lt_iff_lt_mul (Nat.two_pow_pos _), ← Nat.pow_add, show s + (64 - s) = 64 by omega]; omega
  obtain ⟨Y, rfl⟩ : ∃ Y, Y = y * 2 ^ s := ⟨_, rfl⟩
  obtain ⟨U, hU⟩ : ∃ U, U = hi * 2 ^ s + lo / 2 ^ (64 - s) := ⟨_, rfl⟩
  obtain ⟨L, hL⟩ : ∃ L, L = lo * 2 ^ s % 18446744073709551616 := ⟨_, rfl⟩
  rw [← hU, ← hL] at b c
  rw [← hU] at a
  have hL2 : L < 18446744073709551616 := hL ▸ mod64_lt _
  have hYp : 0 < y * 2 ^ s := by omega
  have hLs : L / 4294967296 * 4294967296 + L % 4294967296 = L := Nat.div_add_mod' _ _
  have hYs : y * 2 ^ s / 4294967296 * 4294967296 + y * 2 ^ s % 4294967296 = y * 2 ^ s := Nat.div_add_mod' _ _
  obtain ⟨h1, h2⟩ := two_digits (u := U) (d1 := L / 4294967296) (d0 := L % 4294967296) hYp
  rw [hLs] at h1 h2
  refine ⟨y * 2 ^ s, _, _, U, L, L / 4294967296, L % 4294967296, (U * 4294967296 + L / 4294967296) / (y * 2 ^ s), (U * 4294967296 + L / 4294967296) % (y * 2 ^ s),
    ((U * 4294967296 + L / 4294967296) % (y * 2 ^ s) * 4294967296 + L % 4294967296) / (y * 2 ^ s), ((U * 4294967296 + L / 4294967296) % (y * 2 ^ s) * 4294967296 + L % 4294967296) % (y * 2 ^ s),
    rfl, hY2, rfl, rfl, hYs.symm, (quarters hY hY2).1, (quarters hY hY2).2.1, (quarters hY hY2).2.2, ha, hb, hU, a, hL, hL2, rfl, rfl, (halves hL2).1, (halves hL2).2, ?_, Nat.mod_lt _ hYp, digit_lt (halves hL2).1 a, ?_, Nat.mod_lt _ hYp,
    digit_lt (halves hL2).2 (Nat.mod_lt _ hYp), by rw [hYs], by rw [hYs], ?_, ?_⟩
  · exact (Nat.div_add_mod' _ _).symm
  · exact (Nat.div_add_mod' _ _).symm
  · rw [← b, h1]
  · rw [← c, h2]

/-! ### eight digits of a product -/
theorem digits_sum (a : Nat) (ha : a < 18446744073709551616) : a % 65536 + a / 65536 % 65536 * 65536 + a / 65536 / 65536 % 65536 * 4294967296 + a / 65536 / 65536 / 65536 % 65536 * 281474976710656 = a := by omega

theorem product_sum (x0 x1 x2 x3 y0 y1 y2 y3 : Nat) :
    (x0 + x1 * 65536 + x2 * 4294967296 + x3 * 281474976710656) * (y0 + y1 * 65536 + y2 * 4294967296 + y3 * 281474976710656) =
    x0 * y0 + (x0 * y1 + x1 * y0) * 65536 + (x0 * y2 + x1 * y1 + x2 * y0) * 4294967296 + (x0 * y3 + x1 * y2 + x2 * y1 + x3 * y0) * 281474976710656 +
    (x1 * y3 + x2 * y2 + x3 * y1) * 18446744073709551616 + (x2 * y3 + x3 * y2) * 1208925819614629174706176 + x3 * y3 * 79228162514264337593543950336 := by grind

end Go.Proofs.Ytkjjahkldahahaa.Nums

/- Plain facts of rounding to float64 behind layer 2: rounding keeps order, what is a float64 stays; halves, sums, products. No run of the model. -/
import Derived.Test.YthknbmjobllonaaFloat
namespace Go.Proofs.Ythknbmjobllonaa.Fl
open Ieee

/-! ### a cut to the nearest whole number keeps order -/

theorem cut_spec (neg : Bool) (n drop K : Nat) : (n ≤ K * 2 ^ drop → Toward.even.cut neg n drop ≤ K) ∧ (K * 2 ^ drop ≤ n → K ≤ Toward.even.cut neg n drop) := by
  unfold Toward.cut
  dsimp only
  rw [Nat.shiftLeft_eq, Nat.one_mul]
  by_cases h : drop ≤ n.log2 + 2
  · rw [Nat.min_eq_left h]
    have hp : 0 < 2 ^ drop := Nat.two_pow_pos _
    generalize 2 ^ drop = g at *
    have hd := Nat.div_add_mod n g
    have hm := Nat.mod_lt n hp
    constructor
    · intro k
      have l : n / g ≤ K := by
        rw [Nat.div_le_iff_le_mul_add_pred hp, Nat.mul_comm]; omega
      by_cases e : n / g = K
      · have z : n % g = 0 := by
          rw [e, Nat.mul_comm] at hd; omega
        have z2 : (g == 2 * (n % g)) = false := by rw [z]; simp; omega
        rw [z2, z]
        simp; omega
      · have : ∀ b : Bool, b.toNat ≤ 1 := fun b => by cases b <;> decide
        have := this (decide (g < 2 * (n % g)) || g == 2 * (n % g) && n / g % 2 == 1)
        omega
    · intro k
      have l : K ≤ n / g := by rw [Nat.le_div_iff_mul_le hp]; exact k
      omega
  · rw [Nat.min_eq_right (by omega)]
    have hl : n < 2 ^ (n.log2 + 1) := Nat.lt_log2_self
    have hp : 2 ^ (n.log2 + 2) = 2 * 2 ^ (n.log2 + 1) := by rw [Nat.pow_succ, Nat.mul_comm]
    have hq : 2 ^ (n.log2 + 2) ≤ 2 ^ drop := Nat.pow_le_pow_right (by omega) (by omega)
    generalize 2 ^ (n.log2 + 1) = g1 at *
    generalize 2 ^ (n.log2 + 2) = g at *
    have d0 : n / g = 0 := Nat.div_eq_of_lt (by omega)
    have m0 : n % g = n := Nat.mod_eq_of_lt (by omega)
    have z2 : (g == 2 * n) = false := by simp; omega
    have z1 : decide (g < 2 * n) = false := by simp; omega
    rw [d0, m0, z1, z2]
    simp
    intro k
    apply Nat.eq_zero_of_not_pos
    intro k1
    have : 2 ^ drop ≤ K * 2 ^ drop := Nat.le_mul_of_pos_left _ k1
    omega

/-! ### the rung of a magnitude -/

def rnd (mag : Nat) (place : Int) : Nat :=
  if mag = 0 then 0 else
  let last := max (place + mag.log2 - 52) least
  min ((last - least).toNat * 4503599627370496 + Toward.even.cut false (mag <<< (place - last).toNat) (last - place).toNat) 9218868437227405312

theorem cut_neg (a b : Bool) (n d : Nat) : Toward.even.cut a n d = Toward.even.cut b n d := rfl

theorem nearest_eq (neg : Bool) (mag : Nat) (place : Int) : double.nearest neg mag place = double.word neg (rnd mag place) := by
  unfold Format.nearest rnd
  simp only [f_least, f_binade, f_inf]
  by_cases h : mag = 0
  · rw [if_pos h, if_pos h]
  · rw [if_neg h, if_neg h]; rfl

theorem word_eq (neg : Bool) (r : Nat) : double.word neg r = if neg then 9223372036854775808 + r else r := by
  unfold Format.word; rw [f_sign]

theorem rnd_zero (p : Int) : rnd 0 p = 0 := rfl
theorem rnd_inf (m : Nat) (p : Int) : rnd m p ≤ 9218868437227405312 := by
  unfold rnd; split
  · omega
  · exact Nat.min_le_right _ _

/-- the parts of a magnitude's rung -/
theorem rnd_parts (mag p b : Nat) (h : 0 < mag) :
    ∃ L k : Nat, rnd mag (least + p - b) = min (L * 4503599627370496 + k) 9218868437227405312 ∧ k ≤ 9007199254740992 ∧ (L = 0 ∨ 4503599627370496 ≤ k) ∧
      mag * 2 ^ p < 9007199254740992 * 2 ^ (L + b) ∧ (0 < L → 4503599627370496 * 2 ^ (L + b) ≤ mag * 2 ^ p) ∧
      (∀ K, mag * 2 ^ p ≤ K * 2 ^ (L + b) → k ≤ K) ∧ (∀ K, K * 2 ^ (L + b) ≤ mag * 2 ^ p → K ≤ k) := by
  have hl := Nat.log2_self_le (show mag ≠ 0 by omega)
  have hu : mag < 2 ^ (mag.log2 + 1) := Nat.lt_log2_self
  let L := (max (least + p - b + mag.log2 - 52) least - least).toNat
  have hL : max (least + p - b + mag.log2 - 52) least = least + L := by
    show _ = least + (((max (least + p - b + mag.log2 - 52) least - least).toNat : Nat) : Int)
    omega
  have hL1 : p + mag.log2 ≤ L + b + 52 := by omega
  have hL2 : 0 < L → p + mag.log2 = L + b + 52 := by omega
  generalize L = L at *
  let k := Toward.even.cut false (mag <<< (p - (L + b))) (L + b - p)
  have hk : rnd mag (least + p - b) = min (L * 4503599627370496 + k) 9218868437227405312 := by
    unfold rnd
    rw [if_neg (by omega)]
    dsimp only
    rw [hL]
    have e1 : (least + (L : Int) - least).toNat = L := by omega
    have e2 : (least + (p : Int) - b - (least + L)).toNat = p - (L + b) := by omega
    have e3 : (least + (L : Int) - (least + p - b)).toNat = L + b - p := by omega
    rw [e1, e2, e3]
  have c1 : ∀ K, mag * 2 ^ p ≤ K * 2 ^ (L + b) → k ≤ K := by
    intro K hK
    refine (cut_spec false _ _ K).1 ?_
    rw [Nat.shiftLeft_eq]
    by_cases c : p ≤ L + b
    · have e : 2 ^ (L + b) = 2 ^ (L + b - p) * 2 ^ p := by rw [← Nat.pow_add, Nat.sub_add_cancel c]
      rw [e, ← Nat.mul_assoc] at hK
      have z : p - (L + b) = 0 := by omega
      rw [z, Nat.pow_zero, Nat.mul_one]
      exact Nat.le_of_mul_le_mul_right hK (Nat.two_pow_pos p)
    · have e : 2 ^ p = 2 ^ (p - (L + b)) * 2 ^ (L + b) := by rw [← Nat.pow_add, Nat.sub_add_cancel (by omega)]
      rw [e, ← Nat.mul_assoc] at hK
      have z : L + b - p = 0 := by omega
      rw [z, Nat.pow_zero, Nat.mul_one]
      exact Nat.le_of_mul_le_mul_right hK (Nat.two_pow_pos _)
  have c2 : ∀ K, K * 2 ^ (L + b) ≤ mag * 2 ^ p → K ≤ k := by
    intro K hK
    refine (cut_spec false _ _ K).2 ?_
    rw [Nat.shiftLeft_eq]
    by_cases c : p ≤ L + b
    · have e : 2 ^ (L + b) = 2 ^ (L + b - p) * 2 ^ p := by rw [← Nat.pow_add, Nat.sub_add_cancel c]
      rw [e, ← Nat.mul_assoc] at hK
      have z : p - (L + b) = 0 := by omega
      rw [z, Nat.pow_zero, Nat.mul_one]
      exact Nat.le_of_mul_le_mul_right hK (Nat.two_pow_pos p)
    · have e : 2 ^ p = 2 ^ (p - (L + b)) * 2 ^ (L + b) := by rw [← Nat.pow_add, Nat.sub_add_cancel (by omega)]
      rw [e, ← Nat.mul_assoc] at hK
      have z : L + b - p = 0 := by omega
      rw [z, Nat.pow_zero, Nat.mul_one]
      exact Nat.le_of_mul_le_mul_right hK (Nat.two_pow_pos _)
  have up : mag * 2 ^ p < 9007199254740992 * 2 ^ (L + b) := by
    have a1 : mag * 2 ^ p < 2 ^ (mag.log2 + 1) * 2 ^ p := Nat.mul_lt_mul_of_pos_right hu (Nat.two_pow_pos p)
    have a2 : 2 ^ (mag.log2 + 1) * 2 ^ p ≤ 2 ^ 53 * 2 ^ (L + b) := by
      rw [← Nat.pow_add, ← Nat.pow_add]; exact Nat.pow_le_pow_right (by omega) (by omega)
    exact Nat.lt_of_lt_of_le a1 a2
  have lo : 0 < L → 4503599627370496 * 2 ^ (L + b) ≤ mag * 2 ^ p := by
    intro l
    have a2 : 2 ^ 52 * 2 ^ (L + b) = 2 ^ mag.log2 * 2 ^ p := by
      rw [← Nat.pow_add, ← Nat.pow_add, Nat.add_comm mag.log2 p, hL2 l, Nat.add_comm 52]
    exact Nat.le_trans (Nat.le_of_eq a2) (Nat.mul_le_mul_right _ hl)
  refine ⟨L, k, hk, c1 _ (Nat.le_of_lt up), ?_, up, lo, c1, c2⟩
  by_cases l : 0 < L
  · exact Or.inr (c2 _ (lo l))
  · exact Or.inl (by omega)

/-- what is no more than a rung is worth is rounded to no more -/
theorem rnd_le {mag p b r : Nat} (h : mag * 2 ^ p ≤ val r * 2 ^ b) : rnd mag (least + p - b) ≤ r := by
  by_cases z : mag = 0
  · subst z; rw [rnd_zero]; omega
  obtain ⟨L, k, e, k1, k2, up, lo, c1, c2⟩ := rnd_parts mag p b (by omega)
  apply Nat.le_of_not_lt
  intro hr
  rw [e] at hr
  have hr : r < L * 4503599627370496 + k := by omega
  have v := val_of k1 k2
  by_cases q : 0 < L ∧ k = 4503599627370496
  · obtain ⟨q1, rfl⟩ := q
    have l := lo q1
    have vl := val_lt hr
    rw [v] at vl
    have := Nat.mul_lt_mul_of_pos_right vl (Nat.two_pow_pos b)
    rw [Nat.mul_assoc, ← Nat.pow_add] at this
    omega
  · obtain ⟨j, rfl⟩ : ∃ j, k = j + 1 := ⟨k - 1, by omega⟩
    have v' := val_of (L := L) (k := j) (by omega) (by omega)
    have vl := val_le (show r ≤ L * 4503599627370496 + j by omega)
    rw [v'] at vl
    have := Nat.mul_le_mul_right (2 ^ b) vl
    rw [Nat.mul_assoc, ← Nat.pow_add] at this
    have := c1 j (by omega)
    omega

/-- what is no less than a rung is worth is rounded to no less -/
theorem le_rnd {mag p b r : Nat} (hi : r ≤ 9218868437227405312) (h : val r * 2 ^ b ≤ mag * 2 ^ p) : r ≤ rnd mag (least + p - b) := by
  by_cases z : mag = 0
  · subst z
    by_cases y : r = 0
    · omega
    · have := val_lt (show 0 < r by omega)
      have := Nat.mul_lt_mul_of_pos_right this (Nat.two_pow_pos b)
      omega
  obtain ⟨L, k, e, k1, k2, up, lo, c1, c2⟩ := rnd_parts mag p b (by omega)
  apply Nat.le_of_not_lt
  intro hr
  rw [e] at hr
  have hr : L * 4503599627370496 + k < r := by omega
  have v := val_of k1 k2
  by_cases q : k = 9007199254740992
  · subst q
    have vl := val_le (Nat.le_of_lt hr)
    rw [v] at vl
    have := Nat.mul_le_mul_right (2 ^ b) vl
    rw [Nat.mul_assoc, ← Nat.pow_add] at this
    omega
  · have v' := val_of (L := L) (k := k + 1) (by omega) (by omega)
    have vl := val_le (show L * 4503599627370496 + (k + 1) ≤ r by omega)
    rw [v'] at vl
    have := Nat.mul_le_mul_right (2 ^ b) vl
    rw [Nat.mul_assoc, ← Nat.pow_add] at this
    have := c2 (k + 1) (by omega)
    omega

theorem rnd_exact {mag p b r : Nat} (hi : r ≤ 9218868437227405312) (h : mag * 2 ^ p = val r * 2 ^ b) : rnd mag (least + p - b) = r :=
  Nat.le_antisymm (rnd_le (Nat.le_of_eq h)) (le_rnd hi (Nat.le_of_eq h.symm))
end Go.Proofs.Ythknbmjobllonaa.Fl

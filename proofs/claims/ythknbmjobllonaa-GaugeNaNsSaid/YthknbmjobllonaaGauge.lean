/- Plain facts of gauges behind layer 2: rates, means and percents by bits. No run of the model. -/
import Derived.Test.YthknbmjobllonaaRound
namespace Go.Proofs.Ythknbmjobllonaa.Fl
open Ieee

/-- the NaN's own bits of every NaN -/
def canon (x : Nat) : Nat := if nan x then 9221120237041090561 else x
theorem canon_nan {x : Nat} (h : nan x = true) : canon x = 9221120237041090561 := by unfold canon; rw [if_pos h]
theorem canon_num {x : Nat} (h : nan x = false) : canon x = x := by unfold canon; rw [h]; rfl

theorem nan_word {s : Bool} {r : Nat} (h : r ≤ 9218868437227405312) : nan (double.word s r) = false := by
  rw [word_eq]; unfold nan rung; rw [decide_eq_false_iff_not]; cases s <;> simp <;> omega
theorem rung_word {s : Bool} {r : Nat} (h : r ≤ 9218868437227405312) : rung (double.word s r) = r := by
  rw [word_eq]; unfold rung; cases s <;> simp <;> omega
theorem sgn_word {s : Bool} {r : Nat} (h : r ≤ 9218868437227405312) : sgn (double.word s r) = s := by
  rw [word_eq]; unfold sgn; cases s <;> simp <;> omega
theorem key_word {s : Bool} {r : Nat} (h : r ≤ 9218868437227405312) : key (double.word s r) = sg s r := by
  unfold key sg; rw [nan_word h, rung_word h, sgn_word h]; rfl
theorem word_lt {s : Bool} {r : Nat} (h : r ≤ 9218868437227405312) : double.word s r < 18446744073709551616 := by
  rw [word_eq]; split <;> omega
theorem num_or {x : Nat} (h : nan x = false) : rung x < 9218868437227405312 ∨ rung x = 9218868437227405312 := by
  unfold nan at h; rw [decide_eq_false_iff_not] at h; omega
theorem word_self {x : Nat} (h : x < 18446744073709551616) : double.word (sgn x) (rung x) = x := by
  rw [word_eq]; unfold sgn rung
  by_cases c : 9223372036854775808 ≤ x
  · have e : x / 9223372036854775808 = 1 := by omega
    rw [e]; simp; omega
  · have e : x / 9223372036854775808 = 0 := by omega
    rw [e]; simp; omega

/-! ### halves -/

theorem div_nan_left {x y : Nat} (h : nan x = true) : double.div x y = none := by
  unfold nan at h; rw [decide_eq_true_eq] at h
  unfold Format.div; rw [read_nan h]; rfl
theorem add_nan_left {x y : Nat} (h : nan x = true) : double.add x y = none := by
  unfold nan at h; rw [decide_eq_true_eq] at h
  unfold Format.add; rw [read_nan h]; rfl
theorem add_nan_right {x y : Nat} (h : nan y = true) : double.add x y = none := by
  unfold nan at h; rw [decide_eq_true_eq] at h
  unfold Format.add; rw [read_nan h]; cases double.read x <;> rfl

theorem read_two : double.read 4611686018427387904 = .number false 4503599627370496 (least + 1023) := by decide +kernel

theorem half_inf {x : Nat} (h : rung x = 9218868437227405312) : double.div x 4611686018427387904 = some (double.word (sgn x) 9218868437227405312) := by
  unfold Format.div
  rw [read_inf h, read_two]
  simp [Datum.quotient, Format.write, f_inf]

theorem half_finite {x : Nat} (h : rung x < 9218868437227405312) :
    ∃ b r, double.div x 4611686018427387904 = some (double.word (sgn x) r) ∧ r ≤ rung x ∧ (∀ q, 2 * val q = val (rung x) → q ≤ 9218868437227405312 → r = q) ∧ r = rnd (mant (rung x) * 2 ^ (b + 1)) (least + ex (rung x) - (b + 2 : Nat)) := by
  have hm := mant_lt (rung x)
  let m := mant (rung x)
  have hl : m.log2 ≤ 53 := by
    by_cases z : m = 0
    · rw [z]; decide
    · have : m < 2 ^ 53 := hm
      have := (Nat.log2_lt z).2 this
      omega
  let more := 54 + 52 - m.log2
  have hmore : 53 ≤ more := by omega
  let b := more - 52
  refine ⟨b, rnd (m * 2 ^ (b + 1)) (least + ex (rung x) - (b + 2 : Nat)), ?_, ?_, ?_, rfl⟩
  · unfold Format.div
    rw [read_finite h, read_two]
    simp only [Datum.quotient]
    rw [if_neg (by decide)]
    have l52 : Nat.log2 4503599627370496 = 52 := by decide +kernel
    have fb : double.fractionBits + 2 = 54 := rfl
    rw [l52, fb]
    have sh : m <<< more = 4503599627370496 * (m * 2 ^ b) := by
      rw [Nat.shiftLeft_eq, show more = 52 + b by omega, Nat.pow_add, Nat.mul_left_comm]
    have e1 : mant (rung x) <<< (54 + 52 - (mant (rung x)).log2) = 4503599627370496 * (m * 2 ^ b) := sh
    rw [e1, Nat.mul_div_cancel_left _ (by decide), Nat.mul_mod_right]
    simp only [Format.write, Option.map_some, nearest_eq, Bool.xor_false]
    congr 3
    · show 2 * (m * 2 ^ b) + 0 = m * 2 ^ (b + 1)
      rw [Nat.pow_succ, Nat.mul_comm 2, Nat.mul_assoc]; rfl
    · show least + (ex (rung x) : Int) - (least + 1023) - (more : Nat) - 1 = least + ex (rung x) - ((b + 2 : Nat) : Int)
      have : (more : Int) = b + 52 := by omega
      unfold least; omega
  · refine rnd_le ?_
    unfold val
    rw [Nat.pow_succ, Nat.pow_succ, Nat.pow_succ]
    show m * (2 ^ b * 2) * 2 ^ ex (rung x) ≤ m * 2 ^ ex (rung x) * (2 ^ b * 2 * 2)
    rw [Nat.mul_right_comm m (2 ^ b * 2)]
    exact Nat.mul_le_mul_left _ (by omega)
  · intro q hq hi
    refine rnd_exact hi ?_
    unfold val at hq
    rw [Nat.pow_succ, Nat.pow_succ, Nat.pow_succ]
    show m * (2 ^ b * 2) * 2 ^ ex (rung x) = val q * (2 ^ b * 2 * 2)
    rw [Nat.mul_right_comm m (2 ^ b * 2)]
    show mant (rung x) * 2 ^ ex (rung x) * (2 ^ b * 2) = _
    rw [← hq]
    generalize 2 ^ b * 2 = g
    unfold val
    generalize mant q * 2 ^ ex q = v
    rw [Nat.mul_comm g 2, ← Nat.mul_assoc, Nat.mul_comm v 2]

theorem half_some {x : Nat} (h : nan x = false) : ∃ y, double.div x 4611686018427387904 = some y ∧ nan y = false ∧ y < 18446744073709551616 := by
  rcases num_or h with f | f
  · obtain ⟨b, r, e, hr, _, _⟩ := half_finite f
    exact ⟨_, e, nan_word (by omega), word_lt (by omega)⟩
  · exact ⟨_, half_inf f, nan_word (by omega), word_lt (by omega)⟩

/-! ### sums -/

theorem sum_comm (a b : Datum) : a.sum b = b.sum a := by
  cases a <;> cases b <;> simp only [Datum.sum] <;> try rfl
  · rename_i s m i t n j
    rw [Int.min_comm i j, Int.add_comm (signed s m _), Bool.and_comm s t]
  · rename_i s t
    by_cases e : s = t
    · subst e; rfl
    · rw [if_neg e, if_neg (fun h => e h.symm)]

theorem add_comm (x y : Nat) : double.add x y = double.add y x := by
  unfold Format.add; rw [sum_comm]

/-- a mean, as it is told -/
def mean (a b : Nat) : Nat :=
  match double.div a 4611686018427387904, double.div b 4611686018427387904 with
  | some x, some y => (match double.add x y with | some r => canon r | none => 9221120237041090561)
  | _, _ => 9221120237041090561

theorem mean_comm (a b : Nat) : mean a b = mean b a := by
  unfold mean
  cases double.div a 4611686018427387904 <;> cases double.div b 4611686018427387904 <;> simp only []
  rw [add_comm]

theorem nan_canon (x : Nat) : nan (canon x) = true → canon x = 9221120237041090561 := by
  intro h
  by_cases e : nan x = true
  · exact canon_nan e
  · have e : nan x = false := by simpa using e
    rw [canon_num e, e] at h; cases h
theorem canon_lt {x : Nat} (h : x < 18446744073709551616) : canon x < 18446744073709551616 := by
  unfold canon; split <;> omega

theorem mean_nan (a b : Nat) (h : nan (mean a b) = true) : mean a b = 9221120237041090561 := by
  revert h
  unfold mean
  split
  · split
    · exact nan_canon _
    · intro _; rfl
  · intro _; rfl

theorem add_lt {x y r : Nat} (h : double.add x y = some r) : r < 18446744073709551616 := double.add_lt h
theorem div_lt {x y r : Nat} (h : double.div x y = some r) : r < 18446744073709551616 := double.div_lt h
theorem mul_lt {x y r : Nat} (h : double.mul x y = some r) : r < 18446744073709551616 := double.mul_lt h

theorem mean_lt (a b : Nat) : mean a b < 18446744073709551616 := by
  unfold mean
  split
  · split
    · rename_i h; exact canon_lt (add_lt h)
    · decide
  · decide

/-! ### rates -/

/-- a rate, as it is told -/
def rate (a b : Nat) : Nat :=
  match double.div (rnd a 0) (rnd b 0) with
  | some r => canon r
  | none => 9221120237041090561

theorem floatOfInt_eq (n : Nat) : floatOfInt .f64 (n : Int) = rnd n 0 := by
  show double.nearest (decide ((n : Int) < 0)) (n : Int).natAbs 0 = _
  rw [nearest_eq, word_eq]
  have : decide ((n : Int) < 0) = false := by simp
  rw [this]; simp

theorem rate_lt (a b : Nat) : rate a b < 18446744073709551616 := by
  unfold rate
  split
  · rename_i h; exact canon_lt (div_lt h)
  · decide

theorem val_bin (L : Nat) : val ((L + 1) * 4503599627370496) = 2 ^ (L + 52) := by
  have h := val_of (L := L) (k := 4503599627370496) (by omega) (Or.inr (Nat.le_refl _))
  rw [show (L + 1) * 4503599627370496 = L * 4503599627370496 + 4503599627370496 by omega, h, Nat.pow_add, Nat.mul_comm]

theorem at_zero (g : Nat) (hg : g = 1074) : (0 : Int) = least + (g : Nat) - (0 : Nat) := by subst hg; decide

/-- a count from 1 on lies in the binades -/
theorem rnd_range {a : Nat} (h0 : 0 < a) (h : a < 18446744073709551616) : 4607182418800017408 ≤ rnd a 0 ∧ rnd a 0 ≤ 4895412794951729152 := by
  obtain ⟨g, hg⟩ : ∃ g : Nat, g = 1074 := ⟨_, rfl⟩
  obtain ⟨L, hL⟩ : ∃ L : Nat, L = 1022 := ⟨_, rfl⟩
  obtain ⟨M, hM⟩ : ∃ M : Nat, M = 1086 := ⟨_, rfl⟩
  have e1 : L + 52 = g := by omega
  have e2 : M + 52 = 64 + g := by omega
  have r1 : (L + 1) * 4503599627370496 = 4607182418800017408 := by simp only [hL]
  have r2 : (M + 1) * 4503599627370496 = 4895412794951729152 := by simp only [hM]
  have b1 := val_bin L
  have b2 := val_bin M
  rw [e1, r1] at b1
  rw [e2, r2, Nat.pow_add] at b2
  rw [at_zero g hg]
  constructor
  · refine le_rnd (p := g) (b := 0) (by decide) ?_
    rw [b1, Nat.pow_zero, Nat.mul_one]
    exact Nat.le_mul_of_pos_left _ h0
  · refine rnd_le (p := g) (b := 0) ?_
    rw [b2, Nat.pow_zero, Nat.mul_one]
    exact Nat.mul_le_mul_right _ (Nat.le_of_lt h)

theorem mant_pos {r : Nat} (h : 0 < r) : 0 < mant r := by unfold mant; split <;> omega

theorem count_rung {a : Nat} (h : a < 18446744073709551616) : rnd a 0 < 9218868437227405312 ∧ rung (rnd a 0) = rnd a 0 ∧ sgn (rnd a 0) = false ∧ nan (rnd a 0) = false := by
  have hr : rnd a 0 < 9218868437227405312 := by
    by_cases z : a = 0
    · subst z; decide
    · have := (rnd_range (Nat.pos_of_ne_zero z) h).2; omega
  have e1 : rung (rnd a 0) = rnd a 0 := by unfold rung; omega
  refine ⟨hr, e1, ?_, ?_⟩
  · unfold sgn; rw [show rnd a 0 / 9223372036854775808 = 0 by omega]; decide
  · unfold nan; rw [e1, decide_eq_false_iff_not]; omega

theorem read_count {a : Nat} (h : a < 18446744073709551616) : double.read (rnd a 0) = .number false (mant (rnd a 0)) (least + ex (rnd a 0)) := by
  obtain ⟨h1, h2, h3, h4⟩ := count_rung h
  have := read_finite (x := rnd a 0) (by rw [h2]; exact h1)
  rw [h2, h3] at this; exact this

/-- a count by itself -/
theorem rate_self {a : Nat} (h0 : 0 < a) (h : a < 18446744073709551616) : rate a a = 4607182418800017408 := by
  unfold rate Format.div
  rw [read_count h]
  have hm : 0 < mant (rnd a 0) := mant_pos (by have := (rnd_range h0 h).1; omega)
  generalize mant (rnd a 0) = m at *
  generalize (least + (ex (rnd a 0) : Int)) = i at *
  have fb : double.fractionBits + 2 = 54 := rfl
  have e1 : 54 + m.log2 - m.log2 = 54 := by omega
  have e2 : m <<< 54 / m = 2 ^ 54 := by rw [Nat.shiftLeft_eq, Nat.mul_div_cancel_left _ hm]
  have e3 : m <<< 54 % m = 0 := by rw [Nat.shiftLeft_eq, Nat.mul_mod_right]
  have e4 : i - i - ((54 : Nat) : Int) - 1 = -55 := by omega
  simp only [Datum.quotient, fb, e1, e2, e3, e4, if_neg (show ¬ m = 0 by omega), Option.map_some]
  decide +kernel

/-- nothing by a count -/
theorem rate_nothing {a : Nat} (h0 : 0 < a) (h : a < 18446744073709551616) : rate 0 a = 0 := by
  unfold rate Format.div
  rw [read_count h]
  have r0 : double.read (rnd 0 0) = .number false 0 least := by decide +kernel
  rw [r0]
  have hm : 0 < mant (rnd a 0) := mant_pos (by have := (rnd_range h0 h).1; omega)
  generalize mant (rnd a 0) = m at *
  generalize (least + (ex (rnd a 0) : Int)) = i at *
  simp only [Datum.quotient, if_neg (show ¬ m = 0 by omega), Nat.zero_shiftLeft, Nat.zero_div, Nat.zero_mod, Option.map_some, Format.write, nearest_eq]
  show canon (double.word _ (rnd 0 _)) = 0
  rw [rnd_zero]
  decide +kernel

theorem cut_double (n d : Nat) (h : d ≤ n.log2 + 2) (hn : n ≠ 0) : Toward.even.cut false (2 * n) (d + 1) = Toward.even.cut false n d := by
  have l : (2 * n).log2 = n.log2 + 1 := Nat.log2_two_mul hn
  unfold Toward.cut
  dsimp only
  rw [l, Nat.min_eq_left (show d + 1 ≤ n.log2 + 1 + 2 by omega), Nat.min_eq_left h]
  simp only [Nat.shiftLeft_eq, Nat.one_mul, Nat.pow_succ]
  have hp : 0 < 2 ^ d := Nat.two_pow_pos _
  generalize 2 ^ d = g at *
  have e1 : 2 * n / (g * 2) = n / g := by rw [Nat.mul_comm g 2, Nat.mul_div_mul_left _ _ (by decide)]
  have e2 : 2 * n % (g * 2) = 2 * (n % g) := by rw [Nat.mul_comm g 2, Nat.mul_mod_mul_left]
  rw [e1, e2]
  have t1 : decide (g * 2 < 2 * (2 * (n % g))) = decide (g < 2 * (n % g)) := by
    rw [Bool.eq_iff_iff, decide_eq_true_eq, decide_eq_true_eq]; omega
  have t2 : (g * 2 == 2 * (2 * (n % g))) = (g == 2 * (n % g)) := by
    rw [Bool.eq_iff_iff, beq_iff_eq, beq_iff_eq]; omega
  rw [t1, t2]

/-- a count, twice: the next binade -/
theorem rnd_twice {a : Nat} (h0 : 0 < a) (h : a < 9223372036854775808) : rnd (2 * a) 0 = rnd a 0 + 4503599627370496 := by
  have b1 := (rnd_range h0 (by omega : a < 18446744073709551616)).2
  have b2 := (rnd_range (show 0 < 2 * a by omega) (by omega)).2
  have ne : a ≠ 0 := by omega
  have l : (2 * a).log2 = a.log2 + 1 := Nat.log2_two_mul ne
  revert b1 b2
  unfold rnd
  rw [if_neg ne, if_neg (show ¬ 2 * a = 0 by omega), l]
  dsimp only
  have m1 : max (0 + ((a.log2 + 1 : Nat) : Int) - 52) least = (a.log2 : Int) - 51 := by unfold least; omega
  have m2 : max (0 + (a.log2 : Int) - 52) least = (a.log2 : Int) - 52 := by unfold least; omega
  rw [m1, m2]
  have k : Toward.even.cut false ((2 * a) <<< (0 - ((a.log2 : Int) - 51)).toNat) ((a.log2 : Int) - 51 - 0).toNat = Toward.even.cut false (a <<< (0 - ((a.log2 : Int) - 52)).toNat) ((a.log2 : Int) - 52 - 0).toNat := by
    by_cases c : a.log2 < 52
    · have s1 : (0 - ((a.log2 : Int) - 51)).toNat = 51 - a.log2 := by omega
      have s2 : (0 - ((a.log2 : Int) - 52)).toNat = (51 - a.log2) + 1 := by omega
      have s3 : ((a.log2 : Int) - 51 - 0).toNat = 0 := by omega
      have s4 : ((a.log2 : Int) - 52 - 0).toNat = 0 := by omega
      rw [s1, s2, s3, s4, Nat.shiftLeft_eq, Nat.shiftLeft_eq, Nat.pow_succ, Nat.mul_comm 2 a, Nat.mul_assoc, Nat.mul_comm 2]
    · have s1 : (0 - ((a.log2 : Int) - 51)).toNat = 0 := by omega
      have s2 : (0 - ((a.log2 : Int) - 52)).toNat = 0 := by omega
      have s3 : ((a.log2 : Int) - 51 - 0).toNat = (a.log2 - 52) + 1 := by omega
      have s4 : ((a.log2 : Int) - 52 - 0).toNat = a.log2 - 52 := by omega
      rw [s1, s2, s3, s4, Nat.shiftLeft_zero, Nat.shiftLeft_zero]
      exact cut_double a _ (by omega) ne
  rw [k]
  generalize Toward.even.cut false (a <<< (0 - ((a.log2 : Int) - 52)).toNat) ((a.log2 : Int) - 52 - 0).toNat = q
  unfold least
  omega

theorem mant_next {r : Nat} (h : 4503599627370496 ≤ r) : mant (r + 4503599627370496) = mant r := by unfold mant; split <;> split <;> omega
theorem ex_next {r : Nat} (h : 4503599627370496 ≤ r) : ex (r + 4503599627370496) = ex r + 1 := by unfold ex; split <;> split <;> omega

theorem read_twice {a : Nat} (h0 : 0 < a) (h : a < 9223372036854775808) : double.read (rnd (2 * a) 0) = .number false (mant (rnd a 0)) (least + ex (rnd a 0) + 1) := by
  have r := (rnd_range h0 (by omega : a < 18446744073709551616)).1
  rw [read_count (by omega), rnd_twice h0 h, mant_next (by omega), ex_next (by omega)]
  congr 1
  omega

/-- twice as much of both -/
theorem rate_twice {a b : Nat} (ha : a < 9223372036854775808) (hb : b < 9223372036854775808) : rate (2 * a) (2 * b) = rate a b := by
  by_cases a0 : a = 0
  · subst a0
    by_cases b0 : b = 0
    · subst b0; rfl
    · rw [rate_nothing (by omega) (by omega), rate_nothing (by omega) (by omega)]
  · by_cases b0 : b = 0
    · subst b0
      unfold rate Format.div
      rw [read_twice (by omega) ha, read_count (a := a) (by omega), Nat.mul_zero]
      have r0 : double.read (rnd 0 0) = .number false 0 least := by decide +kernel
      rw [r0]
      have hm : 0 < mant (rnd a 0) := mant_pos (by have := (rnd_range (show 0 < a by omega) (by omega)).1; omega)
      simp only [Datum.quotient, if_true, if_neg (show ¬ mant (rnd a 0) = 0 by omega)]
    · unfold rate Format.div
      rw [read_twice (by omega) ha, read_twice (by omega) hb, read_count (a := a) (by omega), read_count (a := b) (by omega)]
      simp only [Datum.quotient]
      have e : ∀ x y z : Int, x + 1 - (y + 1) - z - 1 = x - y - z - 1 := by intros; omega
      simp only [e]
end Go.Proofs.Ythknbmjobllonaa.Fl

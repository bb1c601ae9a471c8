/- Plain facts of percents behind layer 2: a hundred times a gauge, rounded down. No run of the model. -/
import Derived.Test.YthknbmjobllonaaGauge
namespace Go.Proofs.Ythknbmjobllonaa.Fl
open Ieee

/-- 1 and 100, as float64 -/
def one : Nat := 4607182418800017408
def hundred : Nat := 4636737291354636288

theorem mul_comm (x y : Nat) : double.mul x y = double.mul y x := by
  unfold Format.mul
  congr 1
  cases double.read x <;> cases double.read y <;> simp only [Datum.product] <;> first | rfl | (rw [Nat.mul_comm, Int.add_comm, Bool.xor_comm]) | (rw [Bool.xor_comm])

theorem read_hundred : double.read hundred = .number false 7036874417766400 (least + 1028) := by decide +kernel

/-- the whole part of what a rung is worth -/
def whole (r : Nat) : Nat := val r / 2 ^ 1074

/-- a hundred times a number that isn't below 0, by its rung -/
def times (x : Nat) : Nat := if rung x < 9218868437227405312 then rnd (7036874417766400 * mant (rung x)) (least + (1028 + ex (rung x) : Nat) - (1074 : Nat)) else 9218868437227405312

theorem times_inf (x : Nat) : times x ≤ 9218868437227405312 := by
  unfold times; split
  · exact rnd_inf _ _
  · omega

theorem mul_hundred {x : Nat} (h : nan x = false) : double.mul hundred x = some (double.word (sgn x) (times x)) := by
  unfold Format.mul times
  rw [read_hundred]
  rcases num_or h with f | f
  · rw [read_finite f, if_pos f]
    simp only [Datum.product, Option.map_some, Format.write, nearest_eq, Bool.false_xor]
    congr 3
    unfold least; omega
  · rw [read_inf f, if_neg (by omega)]
    simp [Datum.product, Format.write, f_inf]

theorem val_hundred (g : Nat) (hg : g = 1028) : val 4636737291354636288 = 7036874417766400 * 2 ^ g := by
  have h := val_of (L := g) (k := 7036874417766400) (by omega) (by omega)
  have e : g * 4503599627370496 + 7036874417766400 = 4636737291354636288 := by simp only [hg]
  rw [e] at h; exact h
theorem val_one (g : Nat) (hg : g = 1074) : val 4607182418800017408 = 2 ^ g := by
  obtain ⟨L, hL⟩ : ∃ L : Nat, L = 1022 := ⟨_, rfl⟩
  have r1 : (L + 1) * 4503599627370496 = 4607182418800017408 := by simp only [hL]
  have e : L + 52 = g := by omega
  have h := val_bin L
  rw [r1, e] at h; exact h

/-- up to 1 it comes to 100 at most; above 1, to no less -/
theorem times_le {x : Nat} (h : rung x ≤ 4607182418800017408) : times x ≤ 4636737291354636288 := by
  unfold times
  rw [if_pos (by omega)]
  have v := val_le h
  obtain ⟨g, hg⟩ : ∃ g : Nat, g = 1028 := ⟨_, rfl⟩
  obtain ⟨k, hk⟩ : ∃ k : Nat, k = 1074 := ⟨_, rfl⟩
  have v1 := val_one k hk
  have v2 := val_hundred g hg
  rw [v1] at v
  rw [← hk, ← hg]
  refine rnd_le ?_
  rw [v2, Nat.pow_add, Nat.mul_assoc, Nat.mul_assoc, Nat.mul_left_comm (mant (rung x))]
  refine Nat.mul_le_mul_left _ (Nat.mul_le_mul_left _ ?_)
  exact v
theorem le_times {x : Nat} (h : 4607182418800017408 ≤ rung x) : 4636737291354636288 ≤ times x := by
  unfold times
  split
  · have v := val_le h
    obtain ⟨g, hg⟩ : ∃ g : Nat, g = 1028 := ⟨_, rfl⟩
    obtain ⟨k, hk⟩ : ∃ k : Nat, k = 1074 := ⟨_, rfl⟩
    have v1 := val_one k hk
    have v2 := val_hundred g hg
    rw [v1] at v
    rw [← hk, ← hg]
    refine le_rnd (by omega) ?_
    rw [v2, Nat.pow_add, Nat.mul_assoc, Nat.mul_assoc, Nat.mul_left_comm (mant (rung x))]
    refine Nat.mul_le_mul_left _ (Nat.mul_le_mul_left _ ?_)
    exact v
  · omega

theorem whole_le {r s : Nat} (h : r ≤ s) : whole r ≤ whole s := Nat.div_le_div_right (val_le h)
theorem whole_hundred : whole 4636737291354636288 = 100 := by decide +kernel

/-- a percent -/
def pct (x : Nat) : Nat := if nan x = true ∨ sgn x = true then 0 else min 100 (whole (times x))

theorem pct_le (x : Nat) : pct x ≤ 100 := by unfold pct; split <;> omega

theorem key_sg' {x : Nat} (h : nan x = false) (s : sgn x = false) : key x = rung x := by unfold key; rw [h, s]; rfl

/-! ### rounded down -/

theorem down_eq {r : Nat} : Datum.integral .down (.number false (mant r) (least + ex r)) = .number false (whole r) 0 := by
  simp only [Datum.integral]
  congr 1
  unfold Toward.cut whole val
  simp only [Bool.false_and, Bool.toNat_false, Nat.add_zero, Nat.shiftLeft_eq, Nat.one_mul]
  obtain ⟨k, hk⟩ : ∃ k : Nat, k = 1074 := ⟨_, rfl⟩
  have hl : least = -(k : Int) := by unfold least; omega
  rw [← hk, hl]
  by_cases c : k ≤ ex r
  · have e1 : (-(k : Int) + ex r).toNat = ex r - k := by omega
    have e2 : (-(-(k : Int) + ex r)).toNat = 0 := by omega
    rw [e1, e2, Nat.zero_min, Nat.pow_zero, Nat.div_one]
    rw [show ex r = ex r - k + k by omega, Nat.pow_add, ← Nat.mul_assoc, Nat.mul_div_cancel _ (Nat.two_pow_pos k), Nat.add_sub_cancel]
  · have e1 : (-(k : Int) + ex r).toNat = 0 := by omega
    have e2 : (-(-(k : Int) + ex r)).toNat = k - ex r := by omega
    rw [e1, e2, Nat.pow_zero, Nat.mul_one]
    have e3 : mant r * 2 ^ ex r / 2 ^ k = mant r / 2 ^ (k - ex r) := by
      have : 2 ^ k = 2 ^ (k - ex r) * 2 ^ ex r := by rw [← Nat.pow_add, Nat.sub_add_cancel (by omega)]
      rw [this, Nat.mul_div_mul_right _ _ (Nat.two_pow_pos _)]
    rw [e3]
    by_cases d : k - ex r ≤ (mant r).log2 + 2
    · rw [Nat.min_eq_left d]
    · rw [Nat.min_eq_right (by omega)]
      have hlt : mant r < 2 ^ ((mant r).log2 + 1) := Nat.lt_log2_self
      have h1 : 2 ^ ((mant r).log2 + 1) ≤ 2 ^ ((mant r).log2 + 2) := Nat.pow_le_pow_right (by omega) (by omega)
      have h2 : 2 ^ ((mant r).log2 + 1) ≤ 2 ^ (k - ex r) := Nat.pow_le_pow_right (by omega) (by omega)
      rw [Nat.div_eq_of_lt (by omega), Nat.div_eq_of_lt (by omega)]

/-- a count up to 100, as a float64, and back -/
theorem small_back : ∀ k < 101, floatToIntVal .f64 (FloatKind.f64.encode (.number false k 0)) .i64 = some (k : Int) := by decide +kernel
theorem small_val : ∀ k < 101, rnd k 0 < 9218868437227405312 ∧ val (rnd k 0) = k * 2 ^ 1074 := by decide +kernel

/-- a count up to 100 is no more than a number, just if it is no more than its whole part -/
theorem small_key {k r : Nat} (hk : k < 101) : rnd k 0 ≤ r ↔ k ≤ whole r := by
  obtain ⟨h1, h2⟩ := small_val k hk
  unfold whole
  obtain ⟨g, hg⟩ : ∃ g : Nat, g = 1074 := ⟨_, rfl⟩
  rw [← hg] at h2 ⊢
  rw [Nat.le_div_iff_mul_le (Nat.two_pow_pos g), ← h2]
  constructor
  · exact val_le
  · intro h
    apply Nat.le_of_not_lt
    intro c
    have := val_lt c
    omega
end Go.Proofs.Ythknbmjobllonaa.Fl

/- Plain facts of float64, by bits, behind layer 2: how two words stand, which word a number is rounded to. No run of the model. -/
import Derived.Laws.FloatArith
namespace Go.Proofs.Ythknbmjobllonaa.Fl
open Ieee

/-! ### rungs and what they are worth, in units of the least number -/

def mant (r : Nat) : Nat := if r < 4503599627370496 then r else 4503599627370496 + r % 4503599627370496
def ex (r : Nat) : Nat := if r < 4503599627370496 then 0 else r / 4503599627370496 - 1
def val (r : Nat) : Nat := mant r * 2 ^ ex r

theorem mant_lt (r : Nat) : mant r < 9007199254740992 := by unfold mant; split <;> omega
theorem mant_ex (r : Nat) : r = ex r * 4503599627370496 + mant r := by unfold ex mant; split <;> omega
theorem ex_or (r : Nat) : ex r = 0 ∨ 4503599627370496 ≤ mant r := by unfold ex mant; split <;> omega

theorem val_of {L k : Nat} (h : k ≤ 9007199254740992) (h' : L = 0 ∨ 4503599627370496 ≤ k) : val (L * 4503599627370496 + k) = k * 2 ^ L := by
  unfold val
  by_cases a : k < 4503599627370496
  · have e : L = 0 := by omega
    subst e
    have m : mant (0 * 4503599627370496 + k) = k := by unfold mant; split <;> omega
    have x : ex (0 * 4503599627370496 + k) = 0 := by unfold ex; split <;> omega
    rw [m, x]
  · by_cases b : k < 9007199254740992
    · have m : mant (L * 4503599627370496 + k) = k := by unfold mant; split <;> omega
      have x : ex (L * 4503599627370496 + k) = L := by unfold ex; split <;> omega
      rw [m, x]
    · have e : k = 9007199254740992 := by omega
      subst e
      have m : mant (L * 4503599627370496 + 9007199254740992) = 4503599627370496 := by unfold mant; split <;> omega
      have x : ex (L * 4503599627370496 + 9007199254740992) = L + 1 := by unfold ex; split <;> omega
      rw [m, x, Nat.pow_succ]
      generalize 2 ^ L = q
      omega

theorem val_succ (r : Nat) : val r < val (r + 1) := by
  have h1 := mant_lt r
  have h2 := ex_or r
  have e : r + 1 = ex r * 4503599627370496 + (mant r + 1) := by have := mant_ex r; omega
  rw [e, val_of (by omega) (by omega)]
  unfold val
  have p : 0 < 2 ^ ex r := Nat.two_pow_pos _
  rw [Nat.add_mul]
  omega

theorem val_lt {r s : Nat} (h : r < s) : val r < val s := by
  induction s with
  | zero => omega
  | succ s ih =>
    by_cases e : r = s
    · subst e; exact val_succ r
    · exact Nat.lt_trans (ih (by omega)) (val_succ s)
theorem val_le {r s : Nat} (h : r ≤ s) : val r ≤ val s := by
  by_cases e : r = s
  · subst e; exact Nat.le_refl _
  · exact Nat.le_of_lt (val_lt (by omega))
theorem lt_of_val {r s : Nat} (h : val r < val s) : r < s := by
  apply Nat.lt_of_not_le; intro k; have := val_le k; omega
theorem val_zero : val 0 = 0 := by unfold val mant; simp

/-! ### a word, read -/

def least : Int := -1074
def sgn (x : Nat) : Bool := x / 9223372036854775808 % 2 == 1
def rung (x : Nat) : Nat := x % 9223372036854775808
def nan (x : Nat) : Bool := decide (9218868437227405312 < rung x)

theorem f_least : double.leastPlace = -1074 := by decide +kernel
theorem f_binade : double.binade = 4503599627370496 := by decide +kernel
theorem f_inf : double.infRung = 9218868437227405312 := by decide +kernel
theorem f_sign : double.signWeight = 9223372036854775808 := by decide +kernel

theorem read_finite {x : Nat} (h : rung x < 9218868437227405312) : double.read x = .number (sgn x) (mant (rung x)) (least + ex (rung x)) := by
  unfold Format.read
  simp only [f_least, f_binade, f_inf, f_sign]
  unfold rung at h
  by_cases c : x % 9223372036854775808 < 4503599627370496
  · rw [if_pos c]
    have m : mant (rung x) = x % 9223372036854775808 := by unfold mant rung; rw [if_pos c]
    have e : ex (rung x) = 0 := by unfold ex rung; rw [if_pos c]
    rw [m, e]; rfl
  · rw [if_neg c, if_pos h]
    have m : mant (rung x) = 4503599627370496 + x % 9223372036854775808 % 4503599627370496 := by unfold mant rung; rw [if_neg c]
    have e : ex (rung x) = x % 9223372036854775808 / 4503599627370496 - 1 := by unfold ex rung; rw [if_neg c]
    rw [m, e]; rfl

theorem read_inf {x : Nat} (h : rung x = 9218868437227405312) : double.read x = .infinity (sgn x) := by
  unfold Format.read
  simp only [f_least, f_binade, f_inf, f_sign]
  unfold rung at h
  rw [if_neg (by omega), if_neg (by omega), if_pos h]; rfl

theorem read_nan {x : Nat} (h : 9218868437227405312 < rung x) : double.read x = .nan (sgn x) (rung x - 9218868437227405312) := by
  unfold Format.read
  simp only [f_least, f_binade, f_inf, f_sign]
  unfold rung at h
  rw [if_neg (by omega), if_neg (by omega), if_neg (by omega)]; rfl

/-! ### the order -/

/-- where a word stands; every NaN below all -/
def key (x : Nat) : Int := if nan x then -9223372036854775808 else if sgn x then -(rung x : Int) else rung x
/-- how two numbers stand -/
def side (x y : Int) : Int := if x < y then -1 else if y < x then 1 else 0

def sg (s : Bool) (v : Nat) : Int := if s then -(v : Int) else v

theorem signed_eq (s : Bool) (m e c : Nat) : signed s m e * ((2 ^ c : Nat) : Int) = sg s (m * 2 ^ (e + c)) := by
  unfold signed sg
  rw [Nat.shiftLeft_eq, Nat.pow_add, ← Nat.mul_assoc]
  cases s <;> simp [Int.neg_mul]

theorem compare_scale {a b c : Int} (h : 0 < c) : compare a b = compare (a * c) (b * c) := by
  rcases Int.lt_trichotomy a b with k | k | k
  · have := Int.mul_lt_mul_of_pos_right k h
    rw [Int.compare_eq_lt.2 k, Int.compare_eq_lt.2 this]
  · subst k; simp
  · have := Int.mul_lt_mul_of_pos_right k h
    rw [Int.compare_eq_gt.2 k, Int.compare_eq_gt.2 this]

theorem sg_lt {s t : Bool} {r q : Nat} : sg s (val r) < sg t (val q) ↔ sg s r < sg t q := by
  have z := val_zero
  have a : ∀ {m n : Nat}, val m < val n ↔ m < n := ⟨lt_of_val, val_lt⟩
  have a1 := @a r q; have a2 := @a q r
  have b1 := @a 0 r; have b2 := @a 0 q
  rw [z] at b1 b2
  unfold sg
  cases s <;> cases t <;> simp <;> omega

theorem compare_sg {s t : Bool} {r q : Nat} : compare (sg s (val r)) (sg t (val q)) = compare (sg s r) (sg t q) := by
  rcases Int.lt_trichotomy (sg s r) (sg t q) with k | k | k
  · rw [Int.compare_eq_lt.2 k, Int.compare_eq_lt.2 (sg_lt.2 k)]
  · rw [Int.compare_eq_eq.2 k]
    rw [Int.compare_eq_eq]
    have h1 : ¬ sg s (val r) < sg t (val q) := fun h => by have := sg_lt.1 h; omega
    have h2 : ¬ sg t (val q) < sg s (val r) := fun h => by have := sg_lt.1 h; omega
    omega
  · rw [Int.compare_eq_gt.2 k, Int.compare_eq_gt.2 (sg_lt.2 k)]

theorem order_finite {s t : Bool} {r q : Nat} : Datum.order (.number s (mant r) (least + ex r)) (.number t (mant q) (least + ex q)) = some (compare (sg s r) (sg t q)) := by
  simp only [Datum.order]
  congr 1
  rw [← compare_sg]
  by_cases h : ex r ≤ ex q
  · have h1 : min (least + (ex r : Int)) (least + ex q) = least + ex r := by omega
    rw [h1]
    have h2 : (least + (ex r : Int) - (least + ex r)).toNat = 0 := by omega
    have h3 : (least + (ex q : Int) - (least + ex r)).toNat = ex q - ex r := by omega
    rw [h2, h3, compare_scale (c := ((2 ^ ex r : Nat) : Int)) (by have := Nat.two_pow_pos (ex r); omega), signed_eq, signed_eq]
    rw [Nat.zero_add, Nat.sub_add_cancel h]; rfl
  · have h' : ex q ≤ ex r := by omega
    have h1 : min (least + (ex r : Int)) (least + ex q) = least + ex q := by omega
    rw [h1]
    have h2 : (least + (ex q : Int) - (least + ex q)).toNat = 0 := by omega
    have h3 : (least + (ex r : Int) - (least + ex q)).toNat = ex r - ex q := by omega
    rw [h2, h3, compare_scale (c := ((2 ^ ex q : Nat) : Int)) (by have := Nat.two_pow_pos (ex q); omega), signed_eq, signed_eq]
    rw [Nat.zero_add, Nat.sub_add_cancel h']; rfl

theorem order_key {x y : Nat} (hx : nan x = false) (hy : nan y = false) : double.order x y = some (compare (key x) (key y)) := by
  have kx : key x = sg (sgn x) (rung x) := by unfold key sg; rw [hx]; rfl
  have ky : key y = sg (sgn y) (rung y) := by unfold key sg; rw [hy]; rfl
  rw [kx, ky]
  unfold nan at hx hy
  rw [decide_eq_false_iff_not] at hx hy
  unfold Format.order
  by_cases fx : rung x < 9218868437227405312
  · rw [read_finite fx]
    by_cases fy : rung y < 9218868437227405312
    · rw [read_finite fy, order_finite]
    · have iy : rung y = 9218868437227405312 := by omega
      rw [read_inf iy, iy]
      simp only [Datum.order]
      congr 1
      unfold sg
      cases sgn y <;> simp
      · symm; rw [Int.compare_eq_lt]; split <;> omega
      · symm; rw [Int.compare_eq_gt]; split <;> omega
  · have ix : rung x = 9218868437227405312 := by omega
    rw [read_inf ix, ix]
    by_cases fy : rung y < 9218868437227405312
    · rw [read_finite fy]
      simp only [Datum.order]
      congr 1
      unfold sg
      cases sgn x <;> simp
      · symm; rw [Int.compare_eq_gt]; split <;> omega
      · symm; rw [Int.compare_eq_lt]; split <;> omega
    · have iy : rung y = 9218868437227405312 := by omega
      rw [read_inf iy, iy]
      simp only [Datum.order]
      congr 1
      unfold sg
      cases sgn x <;> cases sgn y <;> decide

theorem order_nan_left {x y : Nat} (h : nan x = true) : double.order x y = none := by
  unfold nan at h; rw [decide_eq_true_eq] at h
  unfold Format.order; rw [read_nan h]; rfl
theorem order_nan_right {x y : Nat} (h : nan y = true) : double.order x y = none := by
  unfold nan at h; rw [decide_eq_true_eq] at h
  unfold Format.order; rw [read_nan h]; cases double.read x <;> rfl

theorem key_lt {x : Nat} (h : nan x = false) : -9223372036854775808 < key x := by
  unfold key; rw [h]
  unfold nan at h; rw [decide_eq_false_iff_not] at h
  simp; split <;> omega
theorem key_nan {x : Nat} (h : nan x = true) : key x = -9223372036854775808 := by unfold key; rw [h]; rfl

end Go.Proofs.Ythknbmjobllonaa.Fl

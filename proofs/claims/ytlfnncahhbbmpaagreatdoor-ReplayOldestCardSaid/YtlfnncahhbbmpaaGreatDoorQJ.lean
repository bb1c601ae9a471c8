/- Texts of the layers below, one behind the other. -/
import Derived.Test.YtlfnncahhbbmpaaGreatDoorQA
import Derived.Test.YtlfnncahhbbmpaaGreatDoorRows
import Derived.WalkKit
import Derived.ProofKit
import Derived.Laws.Externs
import Derived.Laws.Bits64b
import Derived.Lib.Mul64
import Derived.Lib.Hide
import Derived.Lib.BitFns
import Derived.Handy
import Derived.Below
import Derived.WalkSmall
import Derived.LoopTactic
import Derived.Test.YtlfnncahhbbmpaaGreatDoorChecked
namespace Go.Proofs.YtlfnncahhbbmpaaGreatDoor
open Go.RowKit
set_option linter.unusedVariables false
set_option maxRecDepth 100000

theorem digits_sum (a : Nat) (ha : a < 18446744073709551616) : a % 65536 + a / 65536 % 65536 * 65536 + a / 65536 / 65536 % 65536 * 4294967296 + a / 65536 / 65536 / 65536 % 65536 * 281474976710656 = a := by omega

theorem product_sum (x0 x1 x2 x3 y0 y1 y2 y3 : Nat) :
    (x0 + x1 * 65536 + x2 * 4294967296 + x3 * 281474976710656) * (y0 + y1 * 65536 + y2 * 4294967296 + y3 * 281474976710656) =
    x0 * y0 + (x0 * y1 + x1 * y0) * 65536 + (x0 * y2 + x1 * y1 + x2 * y0) * 4294967296 + (x0 * y3 + x1 * y2 + x2 * y1 + x3 * y0) * 281474976710656 +
    (x1 * y3 + x2 * y2 + x3 * y1) * 18446744073709551616 + (x2 * y3 + x3 * y2) * 1208925819614629174706176 + x3 * y3 * 79228162514264337593543950336 := by grind

theorem ret_int {k : IntKind} {a b : Int} (h : a = b) : Ending.returned (.int k a) = .returned (.int k b) := by rw [h]

theorem isNaN_any (x : Int) (w : World) : Calls Tryz.prog 171 #[.int .u64 x] w fun e w' => e = .returned (.bool false) ∧ w = w' := by
  go_enter Tryz.func171, Tryz.ntmps171
  go_wp2
  go_ret
  exact ⟨rfl, rfl⟩

/-- how two counts stand -/
def side (x y : Int) : Int := if x < y then -1 else if y < x then 1 else 0

theorem compare_any (x y : Int) (w : World) : Calls Tryz.prog 166 #[.int .u64 x, .int .u64 y] w fun e w' => e = .returned (.int .i64 (side x y)) ∧ w = w' := by
  go_enter Tryz.func166, Tryz.ntmps166
  go_wp2
  all_goals (go_ret; refine ⟨ret_int ?_, rfl⟩; unfold side; split <;> (try split) <;> omega)

/-- a number within bounds -/
def clamp (v lo hi : Int) : Int := max (min v hi) lo

theorem clamp_any (v lo hi : Int) (w : World) : Calls Tryz.prog 151 #[.int .i64 v, .int .i64 lo, .int .i64 hi] w fun e w' => e = .returned (.int .i64 (clamp v lo hi)) ∧ w = w' := by
  go_enter Tryz.func151, Tryz.ntmps151
  go_wp2
  all_goals (go_ret; refine ⟨ret_int ?_, rfl⟩; unfold clamp; omega)

theorem mask_nat (a : Nat) (ha : a < 18446744073709551616) : bits .and .u64 (a : Int) 4294967295 = ((a % 4294967296 : Nat) : Int) := by
  have h := bits_and_u64_nat a 4294967295 ha (by omega)
  rw [show a &&& 4294967295 = a % 4294967296 from Nat.and_two_pow_sub_one_eq_mod a 32] at h
  exact h
theorem half_nat (a : Nat) : (a : Int) / 4294967296 = ((a / 4294967296 : Nat) : Int) := by omega
theorem times_nat (a b : Nat) : (a : Int) * (b : Int) = ((a * b : Nat) : Int) := (Int.natCast_mul a b).symm
theorem plus_nat (a b : Nat) : (a : Int) + (b : Int) = ((a + b : Nat) : Int) := (Int.natCast_add a b).symm
theorem fits_nat (a : Nat) (ha : a < 18446744073709551616) : IntKind.u64.wrap (a : Int) = (a : Int) := by rw [IntKind.wrap_u64]; omega
theorem turns_nat (a : Nat) : IntKind.u64.wrap (a : Int) = ((a % 18446744073709551616 : Nat) : Int) := by rw [IntKind.wrap_u64]; omega

set_option maxHeartbeats 1000000 in
theorem mul64_any (x y : Nat) (hx : x < 18446744073709551616) (hy : y < 18446744073709551616) (w : World) :
    Calls Tryz.prog 165 #[.int .u64 x, .int .u64 y] w fun e w' =>
      e = .returned (.tuple #[.int .u64 ((x * y / 18446744073709551616 : Nat) : Int), .int .u64 ((x * y % 18446744073709551616 : Nat) : Int)]) ∧ w = w' := by
  obtain ⟨p0, p1, p2, hi⟩ := Lib.mul64_hi x y hx hy
  have q1 := Lib.half_mul_le (a := x / 4294967296) (b := y / 4294967296) (by omega) (by omega)
  have q2 := Lib.half_mul_le (a := x / 4294967296) (b := y % 4294967296) (by omega) (by omega)
  have q3 := Lib.half_mul_le (a := x % 4294967296) (b := y / 4294967296) (by omega) (by omega)
  have r1 : x / 4294967296 * (y / 4294967296) < 18446744073709551616 := by omega
  have r2 : x / 4294967296 * (y % 4294967296) < 18446744073709551616 := by omega
  have r3 : x % 4294967296 * (y / 4294967296) < 18446744073709551616 := by omega
  have s1 : x / 4294967296 * (y / 4294967296) + (x / 4294967296 * (y % 4294967296) + x % 4294967296 * (y % 4294967296) / 4294967296) / 4294967296 < 18446744073709551616 := by omega
  have s2 : x / 4294967296 * (y / 4294967296) + (x / 4294967296 * (y % 4294967296) + x % 4294967296 * (y % 4294967296) / 4294967296) / 4294967296 + ((x / 4294967296 * (y % 4294967296) + x % 4294967296 * (y % 4294967296) / 4294967296) % 4294967296 + x % 4294967296 * (y / 4294967296)) / 4294967296 < 18446744073709551616 := by omega
  have G0 := Lib.hid p0; have G1 := Lib.hid p1; have G2 := Lib.hid p2; have G3 := Lib.hid hi
  have K1 := Lib.hid r1; have K2 := Lib.hid r2; have K3 := Lib.hid r3; have K4 := Lib.hid s1; have K5 := Lib.hid s2
  clear p0 p1 p2 hi r1 r2 r3 s1 s2 q1 q2 q3
  go_enter Tryz.func165, Tryz.ntmps165
  go_wp2
  simp only [mask_nat x hx, mask_nat y hy, half_nat, times_nat, plus_nat, fits_nat _ G0.out, fits_nat _ K2.out, fits_nat _ G1.out, mask_nat _ G1.out, fits_nat _ K3.out, fits_nat _ G2.out, fits_nat _ K1.out, fits_nat _ K4.out, fits_nat _ K5.out, turns_nat (x * y)]
  rw [G3.out]
  go_ret2
  exact ⟨rfl, rfl⟩

theorem side_hi {m n : Nat} (h : ¬ m / 18446744073709551616 = n / 18446744073709551616) : side ((m / 18446744073709551616 : Nat) : Int) ((n / 18446744073709551616 : Nat) : Int) = side (m : Int) (n : Int) := by
  unfold side; split <;> split <;> (try split) <;> (try split) <;> omega
theorem side_lo {m n : Nat} (h : m / 18446744073709551616 = n / 18446744073709551616) : side ((m % 18446744073709551616 : Nat) : Int) ((n % 18446744073709551616 : Nat) : Int) = side (m : Int) (n : Int) := by
  unfold side; split <;> split <;> (try split) <;> (try split) <;> omega

theorem cross_any (a b c d : Nat) (ha : a < 18446744073709551616) (hb : b < 18446744073709551616) (hc : c < 18446744073709551616) (hd : d < 18446744073709551616) (w : World) :
    Calls Tryz.prog 149 #[.int .u64 a, .int .u64 b, .int .u64 c, .int .u64 d] w fun e w' => e = .returned (.int .i64 (side ((a * b : Nat) : Int) ((c * d : Nat) : Int))) ∧ w = w' := by
  have M1 := Lib.hid (mul64_any a b ha hb w)
  have M2 := Lib.hid (mul64_any c d hc hd w)
  by_cases e : a * b / 18446744073709551616 = c * d / 18446744073709551616
  · have S := Lib.hid (side_lo e)
    have t : ((((a * b / 18446744073709551616 : Nat) : Int)) == ((c * d / 18446744073709551616 : Nat) : Int)) = true := by rw [e]; simp
    generalize a * b / 18446744073709551616 = h1 at *
    generalize c * d / 18446744073709551616 = h2 at *
    generalize a * b % 18446744073709551616 = l1 at *
    generalize c * d % 18446744073709551616 = l2 at *
    subst e
    clear t
    go_enter Tryz.func149, Tryz.ntmps149
    go_wp2_with (first | (go_at_call 165; (with_reducible refine M1.out.mono ?_); rintro e w' ⟨rfl, rfl⟩) | (go_at_call 165; (with_reducible refine M2.out.mono ?_); rintro e w' ⟨rfl, rfl⟩) | (go_at_call 166; (with_reducible refine (compare_any _ _ _).mono ?_); rintro e w' ⟨rfl, rfl⟩))
    go_ret
    exact ⟨ret_int S.out, rfl⟩
  · have S := Lib.hid (side_hi e)
    generalize a * b / 18446744073709551616 = h1 at *
    generalize c * d / 18446744073709551616 = h2 at *
    generalize a * b % 18446744073709551616 = l1 at *
    generalize c * d % 18446744073709551616 = l2 at *
    have e' : ¬ (h1 : Int) = (h2 : Int) := by omega
    clear e
    go_enter Tryz.func149, Tryz.ntmps149
    go_wp2_with (first | (go_at_call 165; (with_reducible refine M1.out.mono ?_); rintro e w' ⟨rfl, rfl⟩) | (go_at_call 165; (with_reducible refine M2.out.mono ?_); rintro e w' ⟨rfl, rfl⟩) | (go_at_call 166; (with_reducible refine (compare_any _ _ _).mono ?_); rintro e w' ⟨rfl, rfl⟩))
    go_ret
    exact ⟨ret_int S.out, rfl⟩

def Kept (v : Value) (w : World) (e : Ending) (w' : World) : Prop := e = .returned v ∧ Below w.heap.size w w'
/-- the digits of a count -/
def digit (a i : Nat) : Nat := match i with | 0 => a % 65536 | 1 => a / 65536 % 65536 | 2 => a / 65536 / 65536 % 65536 | _ => a / 65536 / 65536 / 65536 % 65536

theorem digit_lt' (a i : Nat) : digit a i ≤ 65535 := by unfold digit; split <;> omega

theorem digits_any (a : Nat) (ha : a < 18446744073709551616) (w : World) :
    Calls Tryz.prog 168 #[.int .u64 a] w fun e w' =>
      e = .returned (.agg #[.int .u64 (digit a 0), .int .u64 (digit a 1), .int .u64 (digit a 2), .int .u64 (digit a 3)]) ∧
      (w.alloc (.cells #[.int .u64 (digit a 0), .int .u64 (digit a 1), .int .u64 (digit a 2), .int .u64 (digit a 3)] 199)).alloc (.cells #[.int .u64 (digit a 0), .int .u64 (digit a 1), .int .u64 (digit a 2), .int .u64 (digit a 3)] 199) = w' := by
  have e0 : (a : Int) % 65536 = (digit a 0 : Int) := by simp only [digit]; omega
  have e1 : (a : Int) / 65536 % 65536 = (digit a 1 : Int) := by simp only [digit]; omega
  have e2 : (a : Int) / 65536 / 65536 % 65536 = (digit a 2 : Int) := by simp only [digit]; omega
  have e3 : (a : Int) / 65536 / 65536 / 65536 % 65536 = (digit a 3 : Int) := by simp only [digit]; omega
  generalize digit a 0 = d0 at *
  generalize digit a 1 = d1 at *
  generalize digit a 2 = d2 at *
  generalize digit a 3 = d3 at *
  go_enter Tryz.func168, Tryz.ntmps168
  go_wp2
  go_rounds 5
  exact bodyPost_ret (v := .agg #[.int .u64 d0, .int .u64 d1, .int .u64 d2, .int .u64 d3]) (by simp [results, Tryz.results168, go_sem]) rfl ⟨rfl, rfl⟩

theorem product_places {p00 o00 c00 p01 o01 c01 p02 o02 c02 p03 o03 c03 p10 o10 c10 p11 o11 c11 p12 o12 c12 p13 o13 c13 p20 o20 c20 p21 o21 c21 p22 o22 c22 p23 o23 c23 p30 o30 c30 p31 o31 c31 p32 o32 c32 p33 o33 c33 : Nat}
    (h00 : o00 + 65536 * c00 = p00) (h01 : o01 + 65536 * c01 = p01 + c00) (h02 : o02 + 65536 * c02 = p02 + c01) (h03 : o03 + 65536 * c03 = p03 + c02) (h10 : o10 + 65536 * c10 = o01 + p10) (h11 : o11 + 65536 * c11 = o02 + p11 + c10) (h12 : o12 + 65536 * c12 = o03 + p12 + c11) (h13 : o13 + 65536 * c13 = c03 + p13 + c12) (h20 : o20 + 65536 * c20 = o11 + p20) (h21 : o21 + 65536 * c21 = o12 + p21 + c20) (h22 : o22 + 65536 * c22 = o13 + p22 + c21) (h23 : o23 + 65536 * c23 = c13 + p23 + c22) (h30 : o30 + 65536 * c30 = o21 + p30) (h31 : o31 + 65536 * c31 = o22 + p31 + c30) (h32 : o32 + 65536 * c32 = o23 + p32 + c31) (h33 : o33 + 65536 * c33 = c23 + p33 + c32) :
    o00 + o10 * 65536 + o20 * 4294967296 + o30 * 281474976710656 + o31 * 18446744073709551616 + o32 * 1208925819614629174706176 + o33 * 79228162514264337593543950336 + c33 * 5192296858534827628530496329220096 =
    p00 + (p01 + p10) * 65536 + (p02 + p11 + p20) * 4294967296 + (p03 + p12 + p21 + p30) * 281474976710656 + (p13 + p22 + p31) * 18446744073709551616 + (p23 + p32) * 1208925819614629174706176 + p33 * 79228162514264337593543950336 := by omega

theorem term_le {x y : Nat} (hx : x ≤ 65535) (hy : y ≤ 65535) : x * y ≤ 4294836225 := Nat.mul_le_mul hx hy

/-- one place of the product: what stands there, a term, what is carried -/
theorem place (s : Nat) (hs : s ≤ 4294967295) : ∃ o c : Nat, (s : Int) % 65536 = (o : Int) ∧ (s : Int) / 65536 = (c : Int) ∧ o ≤ 65535 ∧ c ≤ 65535 ∧ o + 65536 * c = s :=
  ⟨s % 65536, s / 65536, by omega, by omega, by omega, by omega, by omega⟩
theorem place2 (s t : Nat) (hs : s + t ≤ 4294967295) : ∃ o c : Nat, ((s : Int) + (t : Int)) % 65536 = (o : Int) ∧ ((s : Int) + (t : Int)) / 65536 = (c : Int) ∧ o ≤ 65535 ∧ c ≤ 65535 ∧ o + 65536 * c = s + t :=
  ⟨(s + t) % 65536, (s + t) / 65536, by omega, by omega, by omega, by omega, by omega⟩
theorem place3 (s t u : Nat) (hs : s + t + u ≤ 4294967295) : ∃ o c : Nat, ((s : Int) + (t : Int) + (u : Int)) % 65536 = (o : Int) ∧ ((s : Int) + (t : Int) + (u : Int)) / 65536 = (c : Int) ∧ o ≤ 65535 ∧ c ≤ 65535 ∧ o + 65536 * c = s + t + u :=
  ⟨(s + t + u) % 65536, (s + t + u) / 65536, by omega, by omega, by omega, by omega, by omega⟩

/-- eight digits that make up a number -/
def Eight (n : Nat) (v : Value) : Prop := ∃ o0 o1 o2 o3 o4 o5 o6 o7 : Nat, v = .agg #[.int .u64 o0, .int .u64 o1, .int .u64 o2, .int .u64 o3, .int .u64 o4, .int .u64 o5, .int .u64 o6, .int .u64 o7] ∧
  o0 ≤ 65535 ∧ o1 ≤ 65535 ∧ o2 ≤ 65535 ∧ o3 ≤ 65535 ∧ o4 ≤ 65535 ∧ o5 ≤ 65535 ∧ o6 ≤ 65535 ∧ o7 ≤ 65535 ∧
  o0 + o1 * 65536 + o2 * 4294967296 + o3 * 281474976710656 + o4 * 18446744073709551616 + o5 * 1208925819614629174706176 + o6 * 79228162514264337593543950336 + o7 * 5192296858534827628530496329220096 = n

def Made (n : Nat) (w : World) (e : Ending) (w' : World) : Prop := ∃ v, Eight n v ∧ Kept v w e w'

set_option maxRecDepth 100000 in
set_option maxHeartbeats 16000000 in
theorem product_any (a b : Nat) (ha : a < 18446744073709551616) (hb : b < 18446744073709551616) (w : World) :
    Calls Tryz.prog 156 #[.int .u64 a, .int .u64 b] w (Made (a * b) w) := by
  have X := Lib.hid (fun w => digits_any a ha w)
  have Y := Lib.hid (fun w => digits_any b hb w)
  have hx0 := digit_lt' a 0
  have hy0 := digit_lt' b 0
  have hx1 := digit_lt' a 1
  have hy1 := digit_lt' b 1
  have hx2 := digit_lt' a 2
  have hy2 := digit_lt' b 2
  have hx3 := digit_lt' a 3
  have hy3 := digit_lt' b 3
  have sa : digit a 0 + digit a 1 * 65536 + digit a 2 * 4294967296 + digit a 3 * 281474976710656 = a := by simp only [digit]; omega
  have sb : digit b 0 + digit b 1 * 65536 + digit b 2 * 4294967296 + digit b 3 * 281474976710656 = b := by simp only [digit]; omega
  generalize digit a 0 = x0 at *
  generalize digit b 0 = y0 at *
  generalize digit a 1 = x1 at *
  generalize digit b 1 = y1 at *
  generalize digit a 2 = x2 at *
  generalize digit b 2 = y2 at *
  generalize digit a 3 = x3 at *
  generalize digit b 3 = y3 at *
  have PS := product_sum x0 x1 x2 x3 y0 y1 y2 y3
  rw [sa, sb] at PS
  have b00 := term_le hx0 hy0
  have q00 := Lib.hid (times_nat x0 y0)
  have b01 := term_le hx0 hy1
  have q01 := Lib.hid (times_nat x0 y1)
  have b02 := term_le hx0 hy2
  have q02 := Lib.hid (times_nat x0 y2)
  have b03 := term_le hx0 hy3
  have q03 := Lib.hid (times_nat x0 y3)
  have b10 := term_le hx1 hy0
  have q10 := Lib.hid (times_nat x1 y0)
  have b11 := term_le hx1 hy1
  have q11 := Lib.hid (times_nat x1 y1)
  have b12 := term_le hx1 hy2
  have q12 := Lib.hid (times_nat x1 y2)
  have b13 := term_le hx1 hy3
  have q13 := Lib.hid (times_nat x1 y3)
  have b20 := term_le hx2 hy0
  have q20 := Lib.hid (times_nat x2 y0)
  have b21 := term_le hx2 hy1
  have q21 := Lib.hid (times_nat x2 y1)
  have b22 := term_le hx2 hy2
  have q22 := Lib.hid (times_nat x2 y2)
  have b23 := term_le hx2 hy3
  have q23 := Lib.hid (times_nat x2 y3)
  have b30 := term_le hx3 hy0
  have q30 := Lib.hid (times_nat x3 y0)
  have b31 := term_le hx3 hy1
  have q31 := Lib.hid (times_nat x3 y1)
  have b32 := term_le hx3 hy2
  have q32 := Lib.hid (times_nat x3 y2)
  have b33 := term_le hx3 hy3
  have q33 := Lib.hid (times_nat x3 y3)
  generalize x0 * y0 = p00 at *
  generalize x0 * y1 = p01 at *
  generalize x0 * y2 = p02 at *
  generalize x0 * y3 = p03 at *
  generalize x1 * y0 = p10 at *
  generalize x1 * y1 = p11 at *
  generalize x1 * y2 = p12 at *
  generalize x1 * y3 = p13 at *
  generalize x2 * y0 = p20 at *
  generalize x2 * y1 = p21 at *
  generalize x2 * y2 = p22 at *
  generalize x2 * y3 = p23 at *
  generalize x3 * y0 = p30 at *
  generalize x3 * y1 = p31 at *
  generalize x3 * y2 = p32 at *
  generalize x3 * y3 = p33 at *
  have HPS := Lib.hid PS
  clear PS sa sb ha hb hx0 hx1 hx2 hx3 hy0 hy1 hy2 hy3
  have ds : ∀ (w : World) (n : Nat) (a : Addr) (v : Value), (w.drewN n).setCell a v = (w.setCell a v).drewN n := fun _ _ _ _ => rfl
  go_enter Tryz.func156, Tryz.ntmps156
  go_wp2_with (first | (go_at_call 168; (with_reducible refine (X.out _).mono ?_); rintro e w' ⟨rfl, rfl⟩) | (go_at_call 168; (with_reducible refine (Y.out _).mono ?_); rintro e w' ⟨rfl, rfl⟩))
  refine wp_loop_rounds 5 ?_
  rw [rounds_succ]; go_wp2
  refine wp_loop_rounds 5 ?_
  obtain ⟨o00, c00, em, ed, hb00, hc00, hs00⟩ := place p00 (by omega)
  have S00 := Lib.hid hs00; clear hs00
  have eq := q00.out
  rw [rounds_succ]; go_wp2; go_quiet (fail); go_wp2; try simp only [ed]
  clear em ed eq
  obtain ⟨o01, c01, em, ed, hb01, hc01, hs01⟩ := place2 p01 c00 (by omega)
  have S01 := Lib.hid hs01; clear hs01
  have eq := q01.out
  rw [rounds_succ]; go_wp2; go_quiet (fail); go_wp2; try simp only [ed]
  clear em ed eq
  obtain ⟨o02, c02, em, ed, hb02, hc02, hs02⟩ := place2 p02 c01 (by omega)
  have S02 := Lib.hid hs02; clear hs02
  have eq := q02.out
  rw [rounds_succ]; go_wp2; go_quiet (fail); go_wp2; try simp only [ed]
  clear em ed eq
  obtain ⟨o03, c03, em, ed, hb03, hc03, hs03⟩ := place2 p03 c02 (by omega)
  have S03 := Lib.hid hs03; clear hs03
  have eq := q03.out
  rw [rounds_succ]; go_wp2; go_quiet (fail); go_wp2; try simp only [ed]
  clear em ed eq
  rw [rounds_succ]; go_wp2
  rw [rounds_succ]; go_wp2
  refine wp_loop_rounds 5 ?_
  obtain ⟨o10, c10, em, ed, hb10, hc10, hs10⟩ := place2 o01 p10 (by omega)
  have S10 := Lib.hid hs10; clear hs10
  have eq := q10.out
  rw [rounds_succ]; go_wp2; go_quiet (fail); go_wp2; try simp only [ed]
  clear em ed eq
  obtain ⟨o11, c11, em, ed, hb11, hc11, hs11⟩ := place3 o02 p11 c10 (by omega)
  have S11 := Lib.hid hs11; clear hs11
  have eq := q11.out
  rw [rounds_succ]; go_wp2; go_quiet (fail); go_wp2; try simp only [ed]
  clear em ed eq
  obtain ⟨o12, c12, em, ed, hb12, hc12, hs12⟩ := place3 o03 p12 c11 (by omega)
  have S12 := Lib.hid hs12; clear hs12
  have eq := q12.out
  rw [rounds_succ]; go_wp2; go_quiet (fail); go_wp2; try simp only [ed]
  clear em ed eq
  obtain ⟨o13, c13, em, ed, hb13, hc13, hs13⟩ := place3 c03 p13 c12 (by omega)
  have S13 := Lib.hid hs13; clear hs13
  have eq := q13.out
  rw [rounds_succ]; go_wp2; go_quiet (fail); go_wp2; try simp only [ed]
  clear em ed eq
  rw [rounds_succ]; go_wp2
  rw [rounds_succ]; go_wp2
  refine wp_loop_rounds 5 ?_
  obtain ⟨o20, c20, em, ed, hb20, hc20, hs20⟩ := place2 o11 p20 (by omega)
  have S20 := Lib.hid hs20; clear hs20
  have eq := q20.out
  rw [rounds_succ]; go_wp2; go_quiet (fail); go_wp2; try simp only [ed]
  clear em ed eq
  obtain ⟨o21, c21, em, ed, hb21, hc21, hs21⟩ := place3 o12 p21 c20 (by omega)
  have S21 := Lib.hid hs21; clear hs21
  have eq := q21.out
  rw [rounds_succ]; go_wp2; go_quiet (fail); go_wp2; try simp only [ed]
  clear em ed eq
  obtain ⟨o22, c22, em, ed, hb22, hc22, hs22⟩ := place3 o13 p22 c21 (by omega)
  have S22 := Lib.hid hs22; clear hs22
  have eq := q22.out
  rw [rounds_succ]; go_wp2; go_quiet (fail); go_wp2; try simp only [ed]
  clear em ed eq
  obtain ⟨o23, c23, em, ed, hb23, hc23, hs23⟩ := place3 c13 p23 c22 (by omega)
  have S23 := Lib.hid hs23; clear hs23
  have eq := q23.out
  rw [rounds_succ]; go_wp2; go_quiet (fail); go_wp2; try simp only [ed]
  clear em ed eq
  rw [rounds_succ]; go_wp2
  rw [rounds_succ]; go_wp2
  refine wp_loop_rounds 5 ?_
  obtain ⟨o30, c30, em, ed, hb30, hc30, hs30⟩ := place2 o21 p30 (by omega)
  have S30 := Lib.hid hs30; clear hs30
  have eq := q30.out
  rw [rounds_succ]; go_wp2; go_quiet (fail); go_wp2; try simp only [ed]
  clear em ed eq
  obtain ⟨o31, c31, em, ed, hb31, hc31, hs31⟩ := place3 o22 p31 c30 (by omega)
  have S31 := Lib.hid hs31; clear hs31
  have eq := q31.out
  rw [rounds_succ]; go_wp2; go_quiet (fail); go_wp2; try simp only [ed]
  clear em ed eq
  obtain ⟨o32, c32, em, ed, hb32, hc32, hs32⟩ := place3 o23 p32 c31 (by omega)
  have S32 := Lib.hid hs32; clear hs32
  have eq := q32.out
  rw [rounds_succ]; go_wp2; go_quiet (fail); go_wp2; try simp only [ed]
  clear em ed eq
  obtain ⟨o33, c33, em, ed, hb33, hc33, hs33⟩ := place3 c23 p33 c32 (by omega)
  have S33 := Lib.hid hs33; clear hs33
  have eq := q33.out
  rw [rounds_succ]; go_wp2; go_quiet (fail); go_wp2; try simp only [ed]
  clear em ed eq
  rw [rounds_succ]; go_wp2
  rw [rounds_succ]; go_wp2
  have SUM := product_places S00.out S01.out S02.out S03.out S10.out S11.out S12.out S13.out S20.out S21.out S22.out S23.out S30.out S31.out S32.out S33.out
  rw [← HPS.out] at SUM
  refine bodyPost_ret (v := .agg #[.int .u64 o00, .int .u64 o10, .int .u64 o20, .int .u64 o30, .int .u64 o31, .int .u64 o32, .int .u64 o33, .int .u64 c33]) (by simp [results, Tryz.results156, go_sem]) rfl ⟨_, ⟨o00, o10, o20, o30, o31, o32, o33, c33, rfl, hb00, hb10, hb20, hb30, hb31, hb32, hb33, hc33, SUM⟩, rfl, ?_⟩
  refine below_drewN ?_ _
  go_grown
set_option maxRecDepth 100000 in
set_option maxHeartbeats 16000000 in
theorem cross_ref (a b c d : Nat) (ha : a < 18446744073709551616) (hb : b < 18446744073709551616) (hc : c < 18446744073709551616) (hd : d < 18446744073709551616) (w : World) :
    Calls Tryz.prog 130 #[.int .u64 a, .int .u64 b, .int .u64 c, .int .u64 d] w (Kept (.int .i64 (side ((a * b : Nat) : Int) ((c * d : Nat) : Int))) w) := by
  have P := Lib.hid (product_any a b ha hb)
  have Q := Lib.hid (product_any c d hc hd)
  generalize a * b = n at *
  generalize c * d = m at *
  go_enter Tryz.func130, Tryz.ntmps130
  go_wp2_with fail
  (with_reducible refine (P.out _).mono ?_)
  rintro e w1 ⟨v, hv, rfl, hb1⟩
  obtain ⟨x0, x1, x2, x3, x4, x5, x6, x7, rfl, bx0, bx1, bx2, bx3, bx4, bx5, bx6, bx7, hn⟩ := hv
  go_wp2_with fail
  (with_reducible refine (Q.out _).mono ?_)
  rintro e w2 ⟨v, hv, rfl, hb2⟩
  obtain ⟨y0, y1, y2, y3, y4, y5, y6, y7, rfl, by0, by1, by2, by3, by4, by5, by6, by7, hm⟩ := hv
  have hz : w1.heap.size < w2.heap.size := by have := hb2.size; simp at this; omega
  have hcell := fun o => hb2.cell (p := ⟨w1.heap.size, o, none⟩) (by simp)
  have k0 := hcell 0
  have k1 := hcell 1
  have k2 := hcell 2
  have k3 := hcell 3
  have k4 := hcell 4
  have k5 := hcell 5
  have k6 := hcell 6
  have k7 := hcell 7
  simp [go_sem] at k0 k1 k2 k3 k4 k5 k6 k7
  have HB := Lib.hid ((hb1.alloc (by simpa using hb1.size) (.cells #[.int .u64 x0, .int .u64 x1, .int .u64 x2, .int .u64 x3, .int .u64 x4, .int .u64 x5, .int .u64 x6, .int .u64 x7] 189)).trans (hb2.mono (by have := hb1.size; simp; omega)))
  have HN := Lib.hid hn
  have HM := Lib.hid hm
  have HS : w.heap.size ≤ w2.heap.size := HB.out.size
  clear hn hm hcell hb1 hb2 P Q
  go_wp2
  refine wp_loop_rounds 9 ?_
  rcases Nat.lt_trichotomy x7 y7 with h | h | h
  · have hs : side (n : Int) (m : Int) = -1 := by
      have := HN.out; have := HM.out; unfold side; rw [if_pos (by omega)]
    rw [hs]
    clear hs
    rw [rounds_succ]; go_wp2; go_quiet (fail); go_wp2
    go_ret
    exact ⟨rfl, by (repeat refine below_drewN ?_ _); exact HB.out.alloc HS _⟩
  rotate_left
  · have hs : side (n : Int) (m : Int) = 1 := by
      have := HN.out; have := HM.out; unfold side; rw [if_neg (by omega), if_pos (by omega)]
    rw [hs]
    clear hs
    rw [rounds_succ]; go_wp2; go_quiet (fail); go_wp2; go_quiet (fail); go_wp2
    go_ret
    exact ⟨rfl, by (repeat refine below_drewN ?_ _); exact HB.out.alloc HS _⟩
  subst h
  rw [rounds_succ]; go_wp2; go_quiet (fail); go_wp2; go_quiet (fail); go_wp2
  rcases Nat.lt_trichotomy x6 y6 with h | h | h
  · have hs : side (n : Int) (m : Int) = -1 := by
      have := HN.out; have := HM.out; unfold side; rw [if_pos (by omega)]
    rw [hs]
    clear hs
    rw [rounds_succ]; go_wp2; go_quiet (fail); go_wp2
    go_ret
    exact ⟨rfl, by (repeat refine below_drewN ?_ _); exact HB.out.alloc HS _⟩
  rotate_left
  · have hs : side (n : Int) (m : Int) = 1 := by
      have := HN.out; have := HM.out; unfold side; rw [if_neg (by omega), if_pos (by omega)]
    rw [hs]
    clear hs
    rw [rounds_succ]; go_wp2; go_quiet (fail); go_wp2; go_quiet (fail); go_wp2
    go_ret
    exact ⟨rfl, by (repeat refine below_drewN ?_ _); exact HB.out.alloc HS _⟩
  subst h
  rw [rounds_succ]; go_wp2; go_quiet (fail); go_wp2; go_quiet (fail); go_wp2
  rcases Nat.lt_trichotomy x5 y5 with h | h | h
  · have hs : side (n : Int) (m : Int) = -1 := by
      have := HN.out; have := HM.out; unfold side; rw [if_pos (by omega)]
    rw [hs]
    clear hs
    rw [rounds_succ]; go_wp2; go_quiet (fail); go_wp2
    go_ret
    exact ⟨rfl, by (repeat refine below_drewN ?_ _); exact HB.out.alloc HS _⟩
  rotate_left
  · have hs : side (n : Int) (m : Int) = 1 := by
      have := HN.out; have := HM.out; unfold side; rw [if_neg (by omega), if_pos (by omega)]
    rw [hs]
    clear hs
    rw [rounds_succ]; go_wp2; go_quiet (fail); go_wp2; go_quiet (fail); go_wp2
    go_ret
    exact ⟨rfl, by (repeat refine below_drewN ?_ _); exact HB.out.alloc HS _⟩
  subst h
  rw [rounds_succ]; go_wp2; go_quiet (fail); go_wp2; go_quiet (fail); go_wp2
  rcases Nat.lt_trichotomy x4 y4 with h | h | h
  · have hs : side (n : Int) (m : Int) = -1 := by
      have := HN.out; have := HM.out; unfold side; rw [if_pos (by omega)]
    rw [hs]
    clear hs
    rw [rounds_succ]; go_wp2; go_quiet (fail); go_wp2
    go_ret
    exact ⟨rfl, by (repeat refine below_drewN ?_ _); exact HB.out.alloc HS _⟩
  rotate_left
  · have hs : side (n : Int) (m : Int) = 1 := by
      have := HN.out; have := HM.out; unfold side; rw [if_neg (by omega), if_pos (by omega)]
    rw [hs]
    clear hs
    rw [rounds_succ]; go_wp2; go_quiet (fail); go_wp2; go_quiet (fail); go_wp2
    go_ret
    exact ⟨rfl, by (repeat refine below_drewN ?_ _); exact HB.out.alloc HS _⟩
  subst h
  rw [rounds_succ]; go_wp2; go_quiet (fail); go_wp2; go_quiet (fail); go_wp2
  rcases Nat.lt_trichotomy x3 y3 with h | h | h
  · have hs : side (n : Int) (m : Int) = -1 := by
      have := HN.out; have := HM.out; unfold side; rw [if_pos (by omega)]
    rw [hs]
    clear hs
    rw [rounds_succ]; go_wp2; go_quiet (fail); go_wp2
    go_ret
    exact ⟨rfl, by (repeat refine below_drewN ?_ _); exact HB.out.alloc HS _⟩
  rotate_left
  · have hs : side (n : Int) (m : Int) = 1 := by
      have := HN.out; have := HM.out; unfold side; rw [if_neg (by omega), if_pos (by omega)]
    rw [hs]
    clear hs
    rw [rounds_succ]; go_wp2; go_quiet (fail); go_wp2; go_quiet (fail); go_wp2
    go_ret
    exact ⟨rfl, by (repeat refine below_drewN ?_ _); exact HB.out.alloc HS _⟩
  subst h
  rw [rounds_succ]; go_wp2; go_quiet (fail); go_wp2; go_quiet (fail); go_wp2
  rcases Nat.lt_trichotomy x2 y2 with h | h | h
  · have hs : side (n : Int) (m : Int) = -1 := by
      have := HN.out; have := HM.out; unfold side; rw [if_pos (by omega)]
    rw [hs]
    clear hs
    rw [rounds_succ]; go_wp2; go_quiet (fail); go_wp2
    go_ret
    exact ⟨rfl, by (repeat refine below_drewN ?_ _); exact HB.out.alloc HS _⟩
  rotate_left
  · have hs : side (n : Int) (m : Int) = 1 := by
      have := HN.out; have := HM.out; unfold side; rw [if_neg (by omega), if_pos (by omega)]
    rw [hs]
    clear hs
    rw [rounds_succ]; go_wp2; go_quiet (fail); go_wp2; go_quiet (fail); go_wp2
    go_ret
    exact ⟨rfl, by (repeat refine below_drewN ?_ _); exact HB.out.alloc HS _⟩
  subst h
  rw [rounds_succ]; go_wp2; go_quiet (fail); go_wp2; go_quiet (fail); go_wp2
  rcases Nat.lt_trichotomy x1 y1 with h | h | h
  · have hs : side (n : Int) (m : Int) = -1 := by
      have := HN.out; have := HM.out; unfold side; rw [if_pos (by omega)]
    rw [hs]
    clear hs
    rw [rounds_succ]; go_wp2; go_quiet (fail); go_wp2
    go_ret
    exact ⟨rfl, by (repeat refine below_drewN ?_ _); exact HB.out.alloc HS _⟩
  rotate_left
  · have hs : side (n : Int) (m : Int) = 1 := by
      have := HN.out; have := HM.out; unfold side; rw [if_neg (by omega), if_pos (by omega)]
    rw [hs]
    clear hs
    rw [rounds_succ]; go_wp2; go_quiet (fail); go_wp2; go_quiet (fail); go_wp2
    go_ret
    exact ⟨rfl, by (repeat refine below_drewN ?_ _); exact HB.out.alloc HS _⟩
  subst h
  rw [rounds_succ]; go_wp2; go_quiet (fail); go_wp2; go_quiet (fail); go_wp2
  rcases Nat.lt_trichotomy x0 y0 with h | h | h
  · have hs : side (n : Int) (m : Int) = -1 := by
      have := HN.out; have := HM.out; unfold side; rw [if_pos (by omega)]
    rw [hs]
    clear hs
    rw [rounds_succ]; go_wp2; go_quiet (fail); go_wp2
    go_ret
    exact ⟨rfl, by (repeat refine below_drewN ?_ _); exact HB.out.alloc HS _⟩
  rotate_left
  · have hs : side (n : Int) (m : Int) = 1 := by
      have := HN.out; have := HM.out; unfold side; rw [if_neg (by omega), if_pos (by omega)]
    rw [hs]
    clear hs
    rw [rounds_succ]; go_wp2; go_quiet (fail); go_wp2; go_quiet (fail); go_wp2
    go_ret
    exact ⟨rfl, by (repeat refine below_drewN ?_ _); exact HB.out.alloc HS _⟩
  subst h
  rw [rounds_succ]; go_wp2; go_quiet (fail); go_wp2; go_quiet (fail); go_wp2
  have hs : side (n : Int) (m : Int) = 0 := by
    have := HN.out; have := HM.out; unfold side; rw [if_neg (by omega), if_neg (by omega)]
  have HZ := Lib.hid hs
  clear hs
  rw [rounds_succ]; go_wp2
  go_ret
  exact ⟨ret_int HZ.out.symm, by (repeat refine below_drewN ?_ _); exact HB.out.alloc HS _⟩
end Go.Proofs.YtlfnncahhbbmpaaGreatDoor

namespace Go.Proofs.YtlfnncahhbbmpaaGreatDoor
open Go.RowKit
set_option linter.unusedVariables false
set_option maxRecDepth 100000

/-- the nodes when k rounds are over -/
def part (m k : Nat) : List Nd := (List.range m).map (fun i => if i < k then ⟨-1, false, i, i⟩ else ⟨0, false, 0, 0⟩)
theorem part_len (m k : Nat) : (part m k).length = m := by simp [part]
theorem part_zero (m : Nat) : part m 0 = List.replicate m ⟨0, false, 0, 0⟩ := by
  unfold part
  apply List.ext_getElem?
  intro i
  simp [List.getElem?_replicate]
  by_cases h : i < m <;> simp [h]
theorem part_all (m : Nat) : part m m = fresh m := by
  unfold part fresh
  apply List.map_congr_left
  intro i hi
  rw [if_pos (List.mem_range.1 hi)]
theorem part_more {m k : Nat} (h : k < m) : (part m k).set k ⟨-1, false, k, k⟩ = part m (k + 1) := by
  unfold part
  apply List.ext_getElem?
  intro i
  rw [List.getElem?_set]
  by_cases c : k = i
  · subst c
    simp [h]
  · rw [if_neg c]
    by_cases d : i < m
    · simp only [List.getElem?_map, List.getElem?_range d, Option.map_some]
      have : i < k + 1 ↔ i < k := by omega
      simp only [this]
    · simp [d]
theorem part_at {m k i : Nat} (h : i < m) : (part m k)[i]? = some (if i < k then ⟨-1, false, i, i⟩ else ⟨0, false, 0, 0⟩) := by
  unfold part
  simp [h]
theorem info_node_ : (Tryz.prog.info? 130).map (fun i => (i.zero, i.size, i.bytes)) = some (some (.agg #[.int .i64 0, .bool false, .int .i64 0, .int .i64 0]), 4, 32) := by kernel_rfl

def MakesSh (n bot : Nat) (w : World) (e : Ending) (w' : World) : Prop := ∃ p b, e = .returned (.tuple #[.pointer (some ⟨p, 0, none⟩), .int .i64 0]) ∧ Lies w' p b (newSh n bot) ∧ w.heap.size ≤ p ∧ w.heap.size ≤ b ∧ Only none_ w w'

theorem row_node {w : World} {b : Nat} {ns : List Nd} {i : Nat} {f : Nd} (h : Row w b 130 (flat Nd.cells ns)) (hf : ns[i]? = some f) :
    w.cell? ⟨b, i * 4, none⟩ = some (.int .i64 f.lst) ∧ w.cell? ⟨b, i * 4 + 1, none⟩ = some (.bool f.held) ∧ w.cell? ⟨b, i * 4 + 2, none⟩ = some (.int .i64 f.ahead) ∧ w.cell? ⟨b, i * 4 + 3, none⟩ = some (.int .i64 f.behind) := by
  refine ⟨?_, ?_, ?_, ?_⟩
  · rw [h.cell, show i * 4 = i * 4 + 0 from rfl, flat_get nd4 hf (by decide)]; rfl
  all_goals rw [h.cell, flat_get nd4 hf (by decide)]; rfl
theorem row_set4 {w : World} {b : Nat} {t : TypeId} {ns : List Nd} (h : Row w b t (flat Nd.cells ns)) {i : Nat} {f : Nd} (hf : ns[i]? = some f) (q : Nd) :
    Row ((((w.setCell ⟨b, i * 4, none⟩ (.int .i64 q.lst)).setCell ⟨b, i * 4 + 1, none⟩ (.bool q.held)).setCell ⟨b, i * 4 + 2, none⟩ (.int .i64 q.ahead)).setCell ⟨b, i * 4 + 3, none⟩ (.int .i64 q.behind)) b t (flat Nd.cells (ns.set i q)) := by
  have h1 := h.put (i * 4 + 0) (.int .i64 q.lst)
  rw [flat_put nd4 (a' := ⟨q.lst, f.held, f.ahead, f.behind⟩) hf (by decide) rfl] at h1
  have h2 := h1.put (i * 4 + 1) (.bool q.held)
  rw [flat_put nd4 (a' := ⟨q.lst, q.held, f.ahead, f.behind⟩) (get_set hf) (by decide) rfl] at h2
  have h3 := h2.put (i * 4 + 2) (.int .i64 q.ahead)
  rw [flat_put nd4 (a' := ⟨q.lst, q.held, q.ahead, f.behind⟩) (get_set (get_set hf)) (by decide) rfl] at h3
  have h4 := h3.put (i * 4 + 3) (.int .i64 q.behind)
  rw [flat_put nd4 (a' := q) (get_set (get_set (get_set hf))) (by decide) rfl] at h4
  simpa only [List.set_set, Nat.add_zero] using h4

set_option maxHeartbeats 4000000 in
theorem new_yes (n bot : Nat) (w : World) (h1 : 1 ≤ bot) (h2 : bot ≤ n) (h3 : n ≤ 64) :
    Calls Tryz.prog 39 #[.int .i64 n, .int .i64 bot] w (MakesSh n bot w) := by
  obtain ⟨i0, hi0, hz0, hz1, hz2⟩ := info_parts info_node_
  have MK := run_make_flat (P := Tryz.prog) (c := Nd.cells) (⟨0, false, 0, 0⟩ : Nd) nd4 (by decide) 126 130 i0 (.agg #[.int .i64 0, .bool false, .int .i64 0, .int .i64 0]) Tryz.underlying126 hi0 hz0 hz1 rfl .i64 .i64 (n + 2) (by rw [hz2]; omega) (by omega)
  have e2 : ((n + 2 : Nat) : Int) = (n : Int) + 2 := rfl
  rw [e2] at MK
  have d1 : decide ((n : Int) < 1) = false := by simp; omega
  have d2 : decide ((64 : Int) < (n : Int)) = false := by simp; omega
  have d3 : decide ((bot : Int) < 1) = false := by simp; omega
  have d4 : decide (n < bot) = false := by simp; omega
  have FN := Lib.hid (fine_new h1 h2 h3)
  clear hi0 hz0 hz1 hz2
  go_enter Tryz.func39, Tryz.ntmps39
  go_wp2
  have r0 := (Row.fresh w 128 #[.slice (some ⟨w.heap.size + 1, 0, none⟩) (n + 2) (n + 2), .int .i64 bot, .int .i64 n, .int .i64 ((n : Int) + 1)]).alloc (.cells (flat Nd.cells (List.replicate (n + 2) ⟨0, false, 0, 0⟩)) 130)
  have r1 := Row.fresh (w.alloc (.cells #[.slice (some ⟨w.heap.size + 1, 0, none⟩) (n + 2) (n + 2), .int .i64 bot, .int .i64 n, .int .i64 ((n : Int) + 1)] 128)) 130 (flat Nd.cells (List.replicate (n + 2) ⟨0, false, 0, 0⟩))
  simp only [World.size_alloc] at r1
  rw [← part_zero] at r1 r0 ⊢
  have o1 := ((Only.refl none_ w).alloc (.cells #[.slice (some ⟨w.heap.size + 1, 0, none⟩) (n + 2) (n + 2), .int .i64 bot, .int .i64 n, .int .i64 ((n : Int) + 1)] 128)).alloc (.cells (flat Nd.cells (part (n + 2) 0)) 130)
  have r0 := Lib.hid r0
  have r1 := Lib.hid r1
  have o1 := Lib.hid o1
  clear MK
  go_loopw [41] (fun i wr => ∃ (k : Nat), k ≤ n + 2 ∧ i = .int .i64 k ∧ Row wr w.heap.size 128 #[.slice (some ⟨w.heap.size + 1, 0, none⟩) (n + 2) (n + 2), .int .i64 bot, .int .i64 n, .int .i64 ((n : Int) + 1)] ∧ Row wr (w.heap.size + 1) 130 (flat Nd.cells (part (n + 2) k)) ∧ Only none_ w wr) (fun i _ => n + 2 - (intOf i).toNat)
  case atStart => exact ⟨0, Nat.zero_le _, rfl, r0.out, r1.out, o1.out⟩
  case round =>
    obtain ⟨k, hk, rfl, hr0, hr1, hO⟩ := hrel
    clear r0 r1 o1
    have HO := Lib.hid hO
    have H0 := Lib.hid hr0
    have H1 := Lib.hid hr1
    have lp := hr0.lt
    have lb := hr1.lt
    clear hO
    by_cases hlt : k < n + 2
    · have c : wr.cell? ⟨w.heap.size, 0, none⟩ = some (.slice (some ⟨w.heap.size + 1, 0, none⟩) (n + 2) (n + 2)) := by rw [hr0.cell]; rfl
      have z := fun i => hr1.frozen i
      obtain ⟨c0, c1, c2, c3⟩ := row_node hr1 (part_at (k := k) hlt)
      have RS := Lib.hid (row_set4 hr1 (part_at (k := k) hlt) ⟨-1, false, k, k⟩)
      have KM := Lib.hid (part_more hlt)
      have bk : (k : Int) < (n : Int) + 2 := by omega
      have dk : decide ((k : Int) < (n : Int) + 2) = true := by simp; omega
      clear hr0 hr1
      generalize (if k < k then (⟨-1, false, k, k⟩ : Nd) else ⟨0, false, 0, 0⟩) = f0 at *
      go_wp2
      go_roundw
      case rel =>
        refine ⟨k + 1, by omega, rfl, ?_, ?_, ?_⟩
        · exact (((H0.out.far (p := ⟨w.heap.size + 1, _, none⟩) (by simp) _).far (p := ⟨w.heap.size + 1, _, none⟩) (by simp) _).far (p := ⟨w.heap.size + 1, _, none⟩) (by simp) _).far (p := ⟨w.heap.size + 1, _, none⟩) (by simp) _
        · have := RS.out
          rw [KM.out] at this
          exact this
        · exact (((HO.out.new (by omega) _ _).new (by omega) _ _).new (by omega) _ _).new (by omega) _ _
      case measure => simp [intOf]; omega
    · have hk : k = n + 2 := by omega
      subst hk
      clear hr0 hr1
      have dk : decide (((n + 2 : Nat) : Int) < (n : Int) + 2) = false := by simp
      have ek : ((n + 2 : Nat) : Int) = (n : Int) + 2 := rfl
      go_wp2
      go_ret2
      have P1 := H1.out
      rw [part_all] at P1
      exact ⟨w.heap.size, w.heap.size + 1, rfl, ⟨FN.out, _, ⟨H0.out, P1, by simp [fresh, newSh], h3, by show bot ≤ 64; omega, by omega⟩, rep_new⟩, Nat.le_refl _, by omega, HO.out⟩

theorem new_no (n bot : Int) (w : World) (h : ¬ (1 ≤ n ∧ n ≤ 64 ∧ 1 ≤ bot ∧ bot ≤ n)) :
    Calls Tryz.prog 39 #[.int .i64 n, .int .i64 bot] w fun e w' => e = .returned (.tuple #[.pointer none, .int .i64 1]) ∧ w = w' := by
  by_cases h1 : n < 1
  · have d1 : decide (n < 1) = true := by simpa using h1
    clear h
    go_enter Tryz.func39, Tryz.ntmps39
    go_wp2
    go_ret2
    exact ⟨rfl, rfl⟩
  · have d1 : decide (n < 1) = false := by simpa using h1
    by_cases h2 : 64 < n
    · have d2 : decide (64 < n) = true := by simpa using h2
      clear h
      go_enter Tryz.func39, Tryz.ntmps39
      go_wp2
      go_ret2
      exact ⟨rfl, rfl⟩
    · have d2 : decide (64 < n) = false := by simpa using h2
      by_cases h3 : bot < 1
      · have d3 : decide (bot < 1) = true := by simpa using h3
        clear h
        go_enter Tryz.func39, Tryz.ntmps39
        go_wp2
        go_ret2
        exact ⟨rfl, rfl⟩
      · have d3 : decide (bot < 1) = false := by simpa using h3
        have d4 : decide (n < bot) = true := by simp; omega
        clear h
        go_enter Tryz.func39, Tryz.ntmps39
        go_wp2
        go_ret2
        exact ⟨rfl, rfl⟩
end Go.Proofs.YtlfnncahhbbmpaaGreatDoor

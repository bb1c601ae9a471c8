/- What the small functions of layer 2 answer: the bits of a float64 and back, isNaN, Compare of float64, Cmp, and the document's own key, IsNaN and Cmp. No condition but that the numbers fit their kinds. -/
import Derived.Test.YthknbmjobllonaaRows
import Derived.WalkKit
import Derived.ProofKit
import Derived.Laws.Externs
import Derived.Lib.Hide
import Derived.Test.YthknbmjobllonaaPercent
namespace Go.Proofs.Ythknbmjobllonaa
open Go.RowKit Fl

theorem ret_int {k : IntKind} {a b : Int} (h : a = b) : Ending.returned (.int k a) = .returned (.int k b) := by rw [h]

theorem frombits (n : Nat) (w : World) : (callFunc 20 #[.int .u64 n]).run Try.prog w = .ok (.value (.float .f64 n)) w := by
  rw [run_callFunc_extern Try.func20 (by kernel_rfl) (by kernel_rfl) (by kernel_rfl) (e := Extern.MathFloatBits.float64frombits) (by kernel_rfl)]
  rfl

theorem tobits (n : Nat) (w : World) : (callFunc 29 #[.float .f64 n]).run Try.prog w = .ok (.value (.int .u64 n)) w := by
  rw [run_callFunc_extern Try.func29 (by kernel_rfl) (by kernel_rfl) (by kernel_rfl) (e := Extern.MathFloatBits.float64bits) (by kernel_rfl)]
  rfl

theorem order_self {x : Nat} (h : nan x = false) : Ieee.double.order x x = some .eq := by rw [order_key h h]; simp

theorem isNaN_any (x : Nat) (w : World) : Calls Try.prog 27 #[.float .f64 x] w fun e w' => e = .returned (.bool (nan x)) ∧ w = w' := by
  have h : ((some Ordering.eq : Option Ordering) != some .eq) = false := rfl
  have t : (Ieee.double.order x x != some .eq) = nan x := by
    by_cases c : nan x = true
    · rw [order_nan_left c, c]; rfl
    · have c : nan x = false := by simpa using c
      rw [order_self c, c]; rfl
  have H := Lib.hid t
  go_enter Try.func27, Try.ntmps27
  go_wp2
  go_ret
  exact ⟨by rw [← H.out]; rfl, rfl⟩

theorem compare_any (x y : Nat) (w : World) : Calls Try.prog 19 #[.float .f64 x, .float .f64 y] w fun e w' => e = .returned (.int .i64 (Fl.side (key x) (key y))) ∧ w = w' := by
  by_cases cx : nan x = true
  · have kx := key_nan cx
    by_cases cy : nan y = true
    · have ky := key_nan cy
      have s : Fl.side (key x) (key y) = 0 := by rw [kx, ky]; rfl
      rw [s]
      clear s kx ky
      go_enter Try.func19, Try.ntmps19
      go_wp2_with (go_at_call 27; (with_reducible refine (isNaN_any _ _).mono ?_); rintro e w' ⟨rfl, rfl⟩)
      go_ret
      exact ⟨rfl, rfl⟩
    · have cy : nan y = false := by simpa using cy
      have ky := key_lt cy
      have s : Fl.side (key x) (key y) = -1 := by rw [kx]; unfold Fl.side; rw [if_pos ky]
      rw [s]
      clear s kx ky
      go_enter Try.func19, Try.ntmps19
      go_wp2_with (go_at_call 27; (with_reducible refine (isNaN_any _ _).mono ?_); rintro e w' ⟨rfl, rfl⟩)
      go_ret
      exact ⟨rfl, rfl⟩
  · have cx : nan x = false := by simpa using cx
    have kx := key_lt cx
    by_cases cy : nan y = true
    · have ky := key_nan cy
      have s : Fl.side (key x) (key y) = 1 := by rw [ky]; unfold Fl.side; rw [if_neg (by omega), if_pos kx]
      rw [s]
      clear s kx ky
      go_enter Try.func19, Try.ntmps19
      go_wp2_with (go_at_call 27; (with_reducible refine (isNaN_any _ _).mono ?_); rintro e w' ⟨rfl, rfl⟩)
      go_ret
      exact ⟨rfl, rfl⟩
    · have cy : nan y = false := by simpa using cy
      have o := order_key cx cy
      rcases Int.lt_trichotomy (key x) (key y) with k | k | k
      · have s : Fl.side (key x) (key y) = -1 := by unfold Fl.side; rw [if_pos k]
        rw [s]
        rw [Int.compare_eq_lt.2 k] at o
        have o1 : (FloatKind.f64.format.order x y == some .lt) = true := by show (Ieee.double.order x y == some .lt) = true; rw [o]; rfl
        clear s kx o k
        go_enter Try.func19, Try.ntmps19
        go_wp2_with (go_at_call 27; (with_reducible refine (isNaN_any _ _).mono ?_); rintro e w' ⟨rfl, rfl⟩)
        go_ret
        exact ⟨rfl, rfl⟩
      · have s : Fl.side (key x) (key y) = 0 := by unfold Fl.side; rw [if_neg (by omega), if_neg (by omega)]
        rw [s]
        rw [Int.compare_eq_eq.2 k] at o
        have o1 : (FloatKind.f64.format.order x y == some .lt) = false := by show (Ieee.double.order x y == some .lt) = false; rw [o]; rfl
        have o2 : (FloatKind.f64.format.order x y == some .gt) = false := by show (Ieee.double.order x y == some .gt) = false; rw [o]; rfl
        clear s kx o k
        go_enter Try.func19, Try.ntmps19
        go_wp2_with (go_at_call 27; (with_reducible refine (isNaN_any _ _).mono ?_); rintro e w' ⟨rfl, rfl⟩)
        go_ret
        exact ⟨rfl, rfl⟩
      · have s : Fl.side (key x) (key y) = 1 := by unfold Fl.side; rw [if_neg (by omega), if_pos k]
        rw [s]
        rw [Int.compare_eq_gt.2 k] at o
        have o1 : (FloatKind.f64.format.order x y == some .lt) = false := by show (Ieee.double.order x y == some .lt) = false; rw [o]; rfl
        have o2 : (FloatKind.f64.format.order x y == some .gt) = true := by show (Ieee.double.order x y == some .gt) = true; rw [o]; rfl
        clear s kx o k
        go_enter Try.func19, Try.ntmps19
        go_wp2_with (go_at_call 27; (with_reducible refine (isNaN_any _ _).mono ?_); rintro e w' ⟨rfl, rfl⟩)
        go_ret
        exact ⟨rfl, rfl⟩

theorem cmp_any (a b : Nat) (w : World) : Calls Try.prog 11 #[.int .u64 a, .int .u64 b] w fun e w' => e = .returned (.int .i64 (Fl.side (key a) (key b))) ∧ w = w' := by
  have ha := frombits a
  have hb := frombits b
  go_enter Try.func11, Try.ntmps11
  go_wp2_with (go_at_call 19; (with_reducible refine (compare_any _ _ _).mono ?_); rintro e w' ⟨rfl, rfl⟩)
  go_ret
  exact ⟨rfl, rfl⟩

theorem nan_lit (x : Nat) : decide ((9218868437227405312 : Int) < ((x % 9223372036854775808 : Nat) : Int)) = nan x := by
  unfold nan rung; rw [Bool.eq_iff_iff, decide_eq_true_eq, decide_eq_true_eq]; omega

theorem isNaN_ref (x : Nat) (hx : x < 18446744073709551616) (w : World) : Calls Try.prog 15 #[.int .u64 x] w fun e w' => e = .returned (.bool (nan x)) ∧ w = w' := by
  have t := Lib.hid (nan_lit x)
  go_enter Try.func15, Try.ntmps15
  go_wp2
  go_ret
  exact ⟨by rw [← t.out]; rfl, rfl⟩
end Go.Proofs.Ythknbmjobllonaa

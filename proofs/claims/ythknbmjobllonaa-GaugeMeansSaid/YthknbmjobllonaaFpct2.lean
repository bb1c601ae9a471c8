/- What Percent answers of numbers from 0 to 1, and of all; what the document's own one answers. No condition but that the number fits its kind. -/
import Derived.Test.YthknbmjobllonaaFpct
namespace Go.Proofs.Ythknbmjobllonaa
open Go.RowKit Fl

theorem conv_int (b : Nat) (n : Int) (h : floatToIntVal .f64 b .i64 = some n) (w : World) : (convert 35 3 (.float .f64 b)).run Try.prog w = .ok (.int .i64 n) w :=
  run_convert_float_int w _ _ .f64 .i64 b n (by rw [Try.underlying35]; rfl) Try.underlying3 h

theorem pct_mid (x : Nat) (h : nan x = false) (s : sgn x = false) (l : rung x ≤ 4607182418800017408) (w : World) :
    Calls Try.prog 16 #[.int .u64 x] w (Kept (.int .i64 (whole (times x))) w) := by
  have hmf : ∀ (fn : Fn) (first cap : Array Value) (w : World), (Instr.makeFunc fn first cap).run Try.prog w = .ok (.func fn first cap) w := fun _ _ _ _ => rfl
  have hb := frombits x
  have k : key x = rung x := by rw [key_sg' h s]
  have o := (f_order h (show nan 0 = false by decide)).1
  rw [decide_eq_false (show ¬ key x < key 0 by show ¬ key x < 0; omega)] at o
  have o2 := (f_order h (show nan 4607182418800017408 = false by decide)).2.1
  rw [decide_eq_false (show ¬ key 4607182418800017408 < key x by show ¬ (4607182418800017408 : Int) < key x; omega)] at o2
  have t := times_le l
  have m : Ieee.double.mul 4636737291354636288 x = _ := mul_hundred h
  rw [s] at m
  have hm := fun t w => @mul_some Try.prog _ _ _ m t w
  have hr : Ieee.double.read (Ieee.double.word false (times x)) = .number false (mant (times x)) (least + ex (times x)) := by
    have := read_finite (x := Ieee.double.word false (times x)) (by rw [rung_word (by omega)]; omega)
    rw [rung_word (by omega), sgn_word (by omega)] at this
    exact this
  have wl : whole (times x) < 101 := by
    have := whole_le t
    rw [whole_hundred] at this
    omega
  have hc := conv_int _ _ (small_back _ wl)
  have hf := Lib.hid (floor_any _ _ hr)
  clear hr m t k l s
  generalize FloatKind.f64.encode (.number false (whole (times x)) 0) = q at *
  generalize Ieee.double.word false (times x) = p at *
  generalize whole (times x) = n at *
  have WL := Lib.hid wl
  clear wl
  go_enter_defers Try.func16, Try.ntmps16
  go_wp2_with (first | (go_at_call 25; (with_reducible refine (number_num _ h _).mono ?_); rintro e w' ⟨rfl, rfl⟩) | (go_at_call 26; (with_reducible refine (hf.out _).mono ?_); rintro e w' ⟨rfl, rfl⟩))
  refine leaves_cons (f := 24) (args := #[.pointer (some ⟨w.heap.size, 0, none⟩)]) (by simp) (by simp [go_sem]) ?_
  refine (pct_idle ⟨w.heap.size, 0, none⟩ _).mono ?_
  rintro e u' w'' ⟨rfl, rfl, rfl⟩
  simp only [Leaves, settle]
  refine ⟨.int .i64 n, by simp [results, Try.results16, go_sem], rfl, ?_⟩
  first | exact below_one _ _ _ | exact Below.setCell (below_one _ _ _) (by simp) _

/-- -0 -/
theorem pct_minus (x : Nat) (hx : x = 9223372036854775808) (w : World) : Calls Try.prog 16 #[.int .u64 x] w (Kept (.int .i64 0) w) := by
  have hmf : ∀ (fn : Fn) (first cap : Array Value) (w : World), (Instr.makeFunc fn first cap).run Try.prog w = .ok (.func fn first cap) w := fun _ _ _ _ => rfl
  have hb := frombits x
  have h : nan x = false := by rw [hx]; decide
  have o := (f_order h (show nan 0 = false by decide)).1
  have o2 := (f_order h (show nan 4607182418800017408 = false by decide)).2.1
  rw [decide_eq_false (by rw [hx]; decide)] at o
  rw [decide_eq_false (by rw [hx]; decide)] at o2
  have m : Ieee.double.mul 4636737291354636288 x = some x := by rw [hx]; decide +kernel
  have hm := fun t w => @mul_some Try.prog _ _ _ m t w
  have hc := conv_int x 0 (by rw [hx]; decide +kernel)
  have hf := floor_zero
  rw [← hx] at hf
  have hf := Lib.hid hf
  have H := Lib.hid h
  clear h m hx
  go_enter_defers Try.func16, Try.ntmps16
  go_wp2_with (first | (go_at_call 25; (with_reducible refine (number_num _ H.out _).mono ?_); rintro e w' ⟨rfl, rfl⟩) | (go_at_call 26; (with_reducible refine (hf.out _).mono ?_); rintro e w' ⟨rfl, rfl⟩))
  refine leaves_cons (f := 24) (args := #[.pointer (some ⟨w.heap.size, 0, none⟩)]) (by simp) (by simp [go_sem]) ?_
  refine (pct_idle ⟨w.heap.size, 0, none⟩ _).mono ?_
  rintro e u' w'' ⟨rfl, rfl, rfl⟩
  simp only [Leaves, settle]
  refine ⟨.int .i64 0, by simp [results, Try.results16, go_sem], rfl, ?_⟩
  first | exact below_one _ _ _ | exact Below.setCell (below_one _ _ _) (by simp) _

theorem pct_any (x : Nat) (hx : x < 18446744073709551616) (w : World) : Calls Try.prog 16 #[.int .u64 x] w (Kept (.int .i64 (pct x)) w) := by
  by_cases n : nan x = true
  · have e : pct x = 0 := by unfold pct; rw [if_pos (Or.inl n)]
    rw [e]; exact pct_nan x n w
  · have n : nan x = false := by simpa using n
    by_cases s : sgn x = true
    · have e : pct x = 0 := by unfold pct; rw [if_pos (Or.inr s)]
      rw [e]
      by_cases z : rung x = 0
      · have e : x = 9223372036854775808 := by
          have := word_self hx
          rw [s, z] at this
          rw [← this]; decide +kernel
        exact pct_minus x e w
      · refine pct_below x n ?_ w
        unfold key; rw [n, s]; simp; omega
    · have s : sgn x = false := by simpa using s
      have e : pct x = min 100 (whole (times x)) := by unfold pct; rw [if_neg (by rw [n, s]; simp)]
      by_cases l : rung x ≤ 4607182418800017408
      · have t := whole_le (times_le l)
        rw [whole_hundred] at t
        rw [e, Nat.min_eq_right t]
        exact pct_mid x n s l w
      · have t := whole_le (le_times (show 4607182418800017408 ≤ rung x by omega))
        rw [whole_hundred] at t
        rw [e, Nat.min_eq_left t]
        refine pct_above x n ?_ w
        rw [key_sg' n s]; omega
end Go.Proofs.Ythknbmjobllonaa

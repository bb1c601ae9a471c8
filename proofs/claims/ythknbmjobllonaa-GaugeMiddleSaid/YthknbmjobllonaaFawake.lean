/- The fixed answers that every statement of layer 2 asks first: all are as asked. -/
import Derived.Test.YthknbmjobllonaaFbestr
import Derived.Test.YthknbmjobllonaaFpct3
namespace Go.Proofs.Ythknbmjobllonaa
open Go.RowKit Fl

theorem or_sign : bits .or .u64 9218868437227405312 9223372036854775808 = 18442240474082181120 := by decide +kernel

theorem kept_lit {f : FuncId} {args : Array Value} {k : IntKind} {x y : Int} (h : ∀ w, Calls Try.prog f args w (Kept (.int k x) w)) (e : x = y) : ∀ w, Calls Try.prog f args w (Kept (.int k y) w) := by subst e; exact h
theorem same_lit {f : FuncId} {args : Array Value} {k : IntKind} {x y : Int} (h : ∀ w, Calls Try.prog f args w fun e w' => e = .returned (.int k x) ∧ w = w') (e : x = y) : ∀ w, Calls Try.prog f args w fun e w' => e = .returned (.int k y) ∧ w = w' := by subst e; exact h

set_option maxHeartbeats 4000000 in
set_option maxRecDepth 100000 in
theorem awake_any (w : World) : Calls Try.prog 8 #[] w (Kept (.bool true) w) := by
  have O := or_sign
  have B1 := Lib.hid (show ∀ W : World, Lies W w.heap.size 0 [9221120237041090561, 4598175219545276416, 9218868437227405312, 9218868437227405312] →
      Calls Try.prog 9 #[.slice (some ⟨w.heap.size, 0, none⟩) 4 4] W fun e w' => e = .returned (.tuple #[.int .i64 2, .bool true]) ∧ W = w' from
    fun W h => by
      have := best_any w.heap.size 0 4 4 _ W (by decide) (by decide) (by decide) h
      rw [show bst (keys [9221120237041090561, 4598175219545276416, 9218868437227405312, 9218868437227405312]) 4 = 2 by decide +kernel] at this
      exact this)
  have R1 := Lib.hid (show ∀ w, Calls Try.prog 18 #[.int .u64 1, .int .u64 4] w (Kept (.int .u64 4598175219545276416) w) from
    kept_lit (x := ((rate 1 4 : Nat) : Int)) (rate_any 1 4) (by rw [show rate 1 4 = 4598175219545276416 by decide +kernel]; rfl))
  have R2 := Lib.hid (show ∀ w, Calls Try.prog 18 #[.int .u64 0, .int .u64 0] w (Kept (.int .u64 9221120237041090561) w) from
    kept_lit (x := ((rate 0 0 : Nat) : Int)) (rate_any 0 0) (by rw [show rate 0 0 = 9221120237041090561 by decide +kernel]; rfl))
  have R3 := Lib.hid (show ∀ w, Calls Try.prog 18 #[.int .u64 1, .int .u64 0] w (Kept (.int .u64 9218868437227405312) w) from
    kept_lit (x := ((rate 1 0 : Nat) : Int)) (rate_any 1 0) (by rw [show rate 1 0 = 9218868437227405312 by decide +kernel]; rfl))
  have P1 := Lib.hid (show ∀ w, Calls Try.prog 16 #[.int .u64 4598175219545276416] w (Kept (.int .i64 25) w) from
    kept_lit (x := ((pct 4598175219545276416 : Nat) : Int)) (pct_any 4598175219545276416 (by decide)) (by rw [show pct 4598175219545276416 = 25 by decide +kernel]; rfl))
  have P2 := Lib.hid (show ∀ w, Calls Try.prog 16 #[.int .u64 9221120237041090561] w (Kept (.int .i64 0) w) from
    kept_lit (x := ((pct 9221120237041090561 : Nat) : Int)) (pct_any 9221120237041090561 (by decide)) (by rw [show pct 9221120237041090561 = 0 by decide +kernel]; rfl))
  have P3 := Lib.hid (show ∀ w, Calls Try.prog 16 #[.int .u64 9218868437227405312] w (Kept (.int .i64 100) w) from
    kept_lit (x := ((pct 9218868437227405312 : Nat) : Int)) (pct_any 9218868437227405312 (by decide)) (by rw [show pct 9218868437227405312 = 100 by decide +kernel]; rfl))
  have M1 := Lib.hid (show ∀ w, Calls Try.prog 13 #[.int .u64 9218868437227405312, .int .u64 18442240474082181120] w (Kept (.int .u64 9221120237041090561) w) from
    kept_lit (x := ((mean 9218868437227405312 18442240474082181120 : Nat) : Int)) (mean_any 9218868437227405312 18442240474082181120) (by rw [show mean 9218868437227405312 18442240474082181120 = 9221120237041090561 by decide +kernel]; rfl))
  have C1 := Lib.hid (show ∀ w, Calls Try.prog 11 #[.int .u64 9223372036854775808, .int .u64 0] w fun e w' => e = .returned (.int .i64 0) ∧ w = w' from
    same_lit (cmp_any 9223372036854775808 0) (by decide +kernel))
  have C2 := Lib.hid (show ∀ w, Calls Try.prog 11 #[.int .u64 9221120237041090561, .int .u64 18442240474082181120] w fun e w' => e = .returned (.int .i64 (-1)) ∧ w = w' from
    same_lit (cmp_any 9221120237041090561 18442240474082181120) (by decide +kernel))
  go_enter Try.func8, Try.ntmps8
  go_wp2_with fail
  have L : Lies (w.alloc (.cells #[.int .u64 9221120237041090561, .int .u64 4598175219545276416, .int .u64 9218868437227405312, .int .u64 9218868437227405312] 22)) w.heap.size 0 [9221120237041090561, 4598175219545276416, 9218868437227405312, 9218868437227405312] := by
    intro j hj
    match j, hj with
    | 0, _ => simp [go_sem]
    | 1, _ => simp [go_sem]
    | 2, _ => simp [go_sem]
    | 3, _ => simp [go_sem]
  have LB := Lib.hid L
  clear L
  (with_reducible refine (B1.out _ LB.out).mono ?_)
  rintro e w' ⟨rfl, rfl⟩
  have H0 := Lib.hid ((Below.refl w.heap.size w).alloc (Nat.le_refl _) (.cells #[.int .u64 9221120237041090561, .int .u64 4598175219545276416, .int .u64 9218868437227405312, .int .u64 9218868437227405312] 22))
  clear LB B1
  generalize w.alloc (.cells #[.int .u64 9221120237041090561, .int .u64 4598175219545276416, .int .u64 9218868437227405312, .int .u64 9218868437227405312] 22) = w0 at *
  go_wp2_with fail
  (with_reducible refine (best_empty _ _ _).mono ?_)
  rintro e w' ⟨rfl, rfl⟩
  go_wp2_with fail
  (with_reducible refine (R1.out _).mono ?_)
  rintro e w1 ⟨rfl, hb1⟩
  have H1 := Lib.hid (H0.out.trans (hb1.mono H0.out.size))
  clear hb1 H0
  go_wp2_with fail
  (with_reducible refine (R2.out _).mono ?_)
  rintro e w2 ⟨rfl, hb2⟩
  have H2 := Lib.hid (H1.out.trans (hb2.mono H1.out.size))
  clear hb2 H1
  go_wp2_with fail
  (with_reducible refine (R3.out _).mono ?_)
  rintro e w3 ⟨rfl, hb3⟩
  have H3 := Lib.hid (H2.out.trans (hb3.mono H2.out.size))
  clear hb3 H2
  go_wp2_with fail
  (with_reducible refine (C1.out _).mono ?_)
  rintro e w' ⟨rfl, rfl⟩
  go_wp2_with fail
  (with_reducible refine (C2.out _).mono ?_)
  rintro e w' ⟨rfl, rfl⟩
  go_wp2_with fail
  (with_reducible refine (P1.out _).mono ?_)
  rintro e w4 ⟨rfl, hb4⟩
  have H4 := Lib.hid (H3.out.trans (hb4.mono H3.out.size))
  clear hb4 H3
  go_wp2_with fail
  (with_reducible refine (P2.out _).mono ?_)
  rintro e w5 ⟨rfl, hb5⟩
  have H5 := Lib.hid (H4.out.trans (hb5.mono H4.out.size))
  clear hb5 H4
  go_wp2_with fail
  (with_reducible refine (P3.out _).mono ?_)
  rintro e w6 ⟨rfl, hb6⟩
  have H6 := Lib.hid (H5.out.trans (hb6.mono H5.out.size))
  clear hb6 H5
  go_wp2_with fail
  (with_reducible refine (M1.out _).mono ?_)
  rintro e w7 ⟨rfl, hb7⟩
  have H7 := Lib.hid (H6.out.trans (hb7.mono H6.out.size))
  clear hb7 H6
  go_wp2
  go_ret
  exact ⟨rfl, H7.out⟩
end Go.Proofs.Ythknbmjobllonaa

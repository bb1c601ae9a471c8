/- The walk through RunAround's own text. -/
import Derived.WalkKit
import Derived.ProofKit
import Derived.OpenShut
import Derived.Below
import Derived.Test.YtobeoknaanbakaaArgs
import Derived.Test.YtobeoknaanbakaaRunAw
import Derived.Test.YtobeoknaanbakaaRa
import Derived.Test.YtobeoknaanbakaaActs13
namespace Go.Proofs.Ytobeoknaanbakaa.runAround
open Go.ChangeShapes Go.WideShapes Go.ChangeAt Go.RowKit
set_option linter.unusedVariables false


set_option maxHeartbeats 1000000 in
set_option maxRecDepth 100000 in
theorem walk (w : World) (ad0 : Option Addr) (len0 cap0 : Nat) (xs0 : List Int) (max0 : len0 ≤ maxLen) (el0 : xs0.length = len0) (hold0 : Holds w ad0 1 one xs0) (wf0 : ∀ x ∈ xs0, True) (ad1 : Option Addr) (len1 cap1 : Nat) (xs1 : List Int) (max1 : len1 ≤ maxLen) (el1 : xs1.length = len1) (hold1 : Holds w ad1 1 one xs1) (wf1 : ∀ x ∈ xs1, True) (a : Ask1) (wa : a.Wf) :
    Calls Try.prog 3 #[.slice ad0 len0 cap0, .slice ad1 len1 cap1, a.val] w fun e w' => e = .returned (.bool true) ∧ Below w.heap.size w w' := by
  subst el0 el1
  have RX := Lib.hid (Reads.of_holds (cap := cap0) hold0)
  have RY := Lib.hid (Reads.of_holds (cap := cap1) hold1)
  have WA := Lib.hid wa
  clear hold0 hold1 wf0 wf1 max0 max1 wa
  by_cases h0 : 300 < xs0.length
  · have t0 : decide ((300 : Int) < (xs0.length : Int)) = true := decide_eq_true (by omega)
    have t0' : decide (300 < xs0.length) = true := decide_eq_true h0
    clear h0
    go_enter Try.func3, Try.ntmps3
    go_wp2_with fail
    have O0 := Lib.hid ((Only.refl none_ w).alloc (.cells #[.int .i64 a.b, .int .i64 a.m, .int .i64 a.r] 24))
    (with_reducible refine (awake_any _).mono ?_)
    rintro e w1 ⟨rfl, o⟩
    have O1 := Lib.hid (O0.out.same o)
    clear o O0
    go_wp2_with fail
    go_ret
    exact ⟨rfl, O1.out.to_below13⟩
  by_cases h1 : 300 < xs1.length
  · have t0 : decide ((300 : Int) < (xs0.length : Int)) = false := decide_eq_false (by omega)
    have t0' : decide (300 < xs0.length) = false := decide_eq_false h0
    have t1 : decide ((300 : Int) < (xs1.length : Int)) = true := decide_eq_true (by omega)
    have t1' : decide (300 < xs1.length) = true := decide_eq_true h1
    clear h0 h1
    go_enter Try.func3, Try.ntmps3
    go_wp2_with fail
    have O0 := Lib.hid ((Only.refl none_ w).alloc (.cells #[.int .i64 a.b, .int .i64 a.m, .int .i64 a.r] 24))
    (with_reducible refine (awake_any _).mono ?_)
    rintro e w1 ⟨rfl, o⟩
    have O1 := Lib.hid (O0.out.same o)
    clear o O0
    go_wp2_with fail
    go_ret
    exact ⟨rfl, O1.out.to_below13⟩
  have t0 : decide ((300 : Int) < (xs0.length : Int)) = false := decide_eq_false (by omega)
  have t0' : decide (300 < xs0.length) = false := decide_eq_false h0
  have t1 : decide ((300 : Int) < (xs1.length : Int)) = false := decide_eq_false (by omega)
  have t1' : decide (300 < xs1.length) = false := decide_eq_false h1
  have CA := Lib.hid (fun (w' : World) (o : Only none_ w w') => around_any _ _ xs0 xs1 a.b a.m a.r w' (RX.out.still o) (RY.out.still o) (by omega) (by omega) WA.out.2.2.2)
  have RA := Lib.hid (fun (w' : World) (o : Only none_ w w') => raround_any _ _ xs0 xs1 a.b a.m a.r w' (RX.out.still o) (RY.out.still o) (by omega) (by omega) WA.out.2.2.2)
  generalize aroundR xs0 xs1 a.b a.m a.r = R at *
  generalize aroundC xs0 xs1 a.b a.m a.r = C at *
  unfold Rn.val at CA RA
  have er := fun w => eq_rn R R w
  simp only [decide_true] at er
  have cc : (C == C) = true := by simp
  clear h0 h1
  go_enter Try.func3, Try.ntmps3
  go_wp2_with fail
  have X0 := Lib.hid (Row.fresh w 24 #[.int .i64 a.b, .int .i64 a.m, .int .i64 a.r])
  have O0 := Lib.hid ((Only.refl none_ w).alloc (.cells #[.int .i64 a.b, .int .i64 a.m, .int .i64 a.r] 24))
  revert X0 O0
  generalize w.alloc (.cells #[.int .i64 a.b, .int .i64 a.m, .int .i64 a.r] 24) = W1
  generalize hg : w.heap.size = g
  intro X0 O0
  have GW := Lib.hid hg
  clear hg
  (with_reducible refine (awake_any _).mono ?_)
  rintro e w1 ⟨rfl, o⟩
  have X1 := Lib.hid (o.still X0.out)
  have O1 := Lib.hid (O0.out.same o)
  clear o X0 O0
  obtain ⟨x0, x1, x2⟩ := X1.out.three
  go_wp2_with fail
  (with_reducible refine (CA.out _ O1.out).mono ?_)
  rintro e w2 ⟨rfl, o⟩
  have X2 := Lib.hid ((o.still X1.out).alloc (.cells #[.int .i64 R.f, .int .i64 R.c] 27))
  have R2 := Lib.hid (Row.fresh w2 27 #[.int .i64 R.f, .int .i64 R.c])
  have O2 := Lib.hid ((O1.out.same o).alloc (.cells #[.int .i64 R.f, .int .i64 R.c] 27))
  clear o X1 O1 x0 x1 x2
  obtain ⟨x0, x1, x2⟩ := X2.out.three
  go_wp2_with fail
  (with_reducible refine (RA.out _ O2.out).mono ?_)
  rintro e w3 ⟨rfl, o⟩
  have R3 := Lib.hid ((o.still R2.out).alloc (.cells #[.int .i64 R.f, .int .i64 R.c] 27))
  have S3 := Lib.hid (Row.fresh w3 27 #[.int .i64 R.f, .int .i64 R.c])
  have O3 := Lib.hid ((O2.out.same o).alloc (.cells #[.int .i64 R.f, .int .i64 R.c] 27))
  clear o X2 O2 x0 x1 x2
  obtain ⟨r0, r1⟩ := R3.out.two
  obtain ⟨s0, s1⟩ := S3.out.two
  go_wp2_with fail
  go_ret
  exact ⟨rfl, O3.out.to_below13⟩



end Go.Proofs.Ytobeoknaanbakaa.runAround

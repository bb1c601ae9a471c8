/- Proved: the statement GaugeWhole of layer 2, for every two counts, on no condition. -/
import Derived.Test.YthknbmjobllonaaRows
import Derived.WalkKit
import Derived.ProofKit
import Derived.OpenShut
import Derived.Below
import Derived.Test.YthknbmjobllonaaFawake
import Derived.Laws.Bits64
import Derived.Laws.Bits64b
namespace Go.Proofs.Ythknbmjobllonaa.gaugeWhole
open Go.ChangeShapes Go.WideShapes Go.ChangeAt Go.RowKit Fl
set_option linter.unusedVariables false

theorem own : ownKnob Try.prog.godebug = none := by kernel_rfl

theorem pct_one : pct 4607182418800017408 = 100 := by decide +kernel
theorem pct_zero : pct 0 = 0 := by decide +kernel

theorem plain (a b : Nat) (ha : a < 18446744073709551616) (hb : b < 18446744073709551616) (w : World) :
    Calls Try.prog 5 #[.int .u64 a, .int .u64 b] w fun e w' => e = .returned (.bool true) ∧ Below w.heap.size w w' := by
  have P1 := Lib.hid (show ∀ w, Calls Try.prog 16 #[.int .u64 4607182418800017408] w (Kept (.int .i64 100) w) from kept_lit (y := 100) (pct_any 4607182418800017408 (by decide)) (by rw [pct_one]; rfl))
  have P0 := Lib.hid (show ∀ w, Calls Try.prog 16 #[.int .u64 0] w (Kept (.int .i64 0) w) from kept_lit (y := 0) (pct_any 0 (by decide)) (by rw [pct_zero]; rfl))
  by_cases h : a < 9223372036854775808 ∧ b < 9223372036854775808
  · have T := rate_any (2 * a) (2 * b)
    rw [rate_twice h.1 h.2] at T
    have T := Lib.hid (show ∀ w, Calls Try.prog 18 #[.int .u64 (2 * a : Int), .int .u64 (2 * b : Int)] w (Kept (.int .u64 (rate a b)) w) from fun w => by have := T w; rw [Int.natCast_mul, Int.natCast_mul] at this; exact this)
    have S := Lib.hid (rate_any a b)
    generalize rate a b = r at *
    obtain ⟨h1, h2⟩ := h
    have t1 : decide ((9223372036854775808 : Int) ≤ (a : Int)) = false := by rw [decide_eq_false_iff_not]; omega
    have t2 : decide ((9223372036854775808 : Int) ≤ (b : Int)) = false := by rw [decide_eq_false_iff_not]; omega
    by_cases z : 0 < a
    · have R1 := rate_any a a
      rw [rate_self z ha] at R1
      have R1 := Lib.hid (show ∀ w, Calls Try.prog 18 #[.int .u64 a, .int .u64 a] w (Kept (.int .u64 4607182418800017408) w) from R1)
      have R0 := rate_any 0 a
      rw [rate_nothing z ha] at R0
      have R0 := Lib.hid (show ∀ w, Calls Try.prog 18 #[.int .u64 0, .int .u64 a] w (Kept (.int .u64 0) w) from R0)
      go_enter Try.func5, Try.ntmps5
      go_wp2_with fail
      (with_reducible refine (awake_any _).mono ?_)
      rintro e w1 ⟨rfl, hb1⟩
      have H1 := Lib.hid hb1
      clear hb1
      go_wp2_with fail
      (with_reducible refine (R1.out _).mono ?_)
      rintro e w2 ⟨rfl, hb2⟩
      have H2 := Lib.hid (H1.out.trans (hb2.mono H1.out.size))
      clear hb2 H1
      go_wp2_with fail
      (with_reducible refine (P1.out _).mono ?_)
      rintro e w3 ⟨rfl, hb3⟩
      have H3 := Lib.hid (H2.out.trans (hb3.mono H2.out.size))
      clear hb3 H2
      go_wp2_with fail
      (with_reducible refine (R0.out _).mono ?_)
      rintro e w4 ⟨rfl, hb4⟩
      have H4 := Lib.hid (H3.out.trans (hb4.mono H3.out.size))
      clear hb4 H3
      go_wp2_with fail
      (with_reducible refine (P0.out _).mono ?_)
      rintro e w5 ⟨rfl, hb5⟩
      have H5 := Lib.hid (H4.out.trans (hb5.mono H4.out.size))
      clear hb5 H4
      go_wp2_with fail
      (with_reducible refine (T.out _).mono ?_)
      rintro e w6 ⟨rfl, hb6⟩
      have H6 := Lib.hid (H5.out.trans (hb6.mono H5.out.size))
      clear hb6 H5
      go_wp2_with fail
      (with_reducible refine (S.out _).mono ?_)
      rintro e w7 ⟨rfl, hb7⟩
      have H7 := Lib.hid (H6.out.trans (hb7.mono H6.out.size))
      clear hb7 H6
      go_wp2_with fail
      go_ret
      exact ⟨by simp, H7.out⟩
    · have t0 : decide (0 < a) = false := by rw [decide_eq_false_iff_not]; omega
      have t00 : decide ((0 : Int) < (a : Int)) = false := by rw [decide_eq_false_iff_not]; omega
      clear z
      go_enter Try.func5, Try.ntmps5
      go_wp2_with fail
      (with_reducible refine (awake_any _).mono ?_)
      rintro e w1 ⟨rfl, hb1⟩
      have H1 := Lib.hid hb1
      clear hb1
      go_wp2_with fail
      (with_reducible refine (T.out _).mono ?_)
      rintro e w2 ⟨rfl, hb2⟩
      have H2 := Lib.hid (H1.out.trans (hb2.mono H1.out.size))
      clear hb2 H1
      go_wp2_with fail
      (with_reducible refine (S.out _).mono ?_)
      rintro e w3 ⟨rfl, hb3⟩
      have H3 := Lib.hid (H2.out.trans (hb3.mono H2.out.size))
      clear hb3 H2
      go_wp2_with fail
      go_ret
      exact ⟨by simp, H3.out⟩
  · by_cases z : 0 < a
    · have R1 := rate_any a a
      rw [rate_self z ha] at R1
      have R1 := Lib.hid (show ∀ w, Calls Try.prog 18 #[.int .u64 a, .int .u64 a] w (Kept (.int .u64 4607182418800017408) w) from R1)
      have R0 := rate_any 0 a
      rw [rate_nothing z ha] at R0
      have R0 := Lib.hid (show ∀ w, Calls Try.prog 18 #[.int .u64 0, .int .u64 a] w (Kept (.int .u64 0) w) from R0)
      by_cases h1 : 9223372036854775808 ≤ a
      · have t1 : decide ((9223372036854775808 : Int) ≤ (a : Int)) = true := by rw [decide_eq_true_eq]; omega
        clear h h1
        go_enter Try.func5, Try.ntmps5
        go_wp2_with fail
        (with_reducible refine (awake_any _).mono ?_)
        rintro e w1 ⟨rfl, hb1⟩
        have H1 := Lib.hid hb1
        clear hb1
        go_wp2_with fail
        (with_reducible refine (R1.out _).mono ?_)
        rintro e w2 ⟨rfl, hb2⟩
        have H2 := Lib.hid (H1.out.trans (hb2.mono H1.out.size))
        clear hb2 H1
        go_wp2_with fail
        (with_reducible refine (P1.out _).mono ?_)
        rintro e w3 ⟨rfl, hb3⟩
        have H3 := Lib.hid (H2.out.trans (hb3.mono H2.out.size))
        clear hb3 H2
        go_wp2_with fail
        (with_reducible refine (R0.out _).mono ?_)
        rintro e w4 ⟨rfl, hb4⟩
        have H4 := Lib.hid (H3.out.trans (hb4.mono H3.out.size))
        clear hb4 H3
        go_wp2_with fail
        (with_reducible refine (P0.out _).mono ?_)
        rintro e w5 ⟨rfl, hb5⟩
        have H5 := Lib.hid (H4.out.trans (hb5.mono H4.out.size))
        clear hb5 H4
        go_wp2_with fail
        go_ret
        exact ⟨by simp, H5.out⟩
      · have t1 : decide ((9223372036854775808 : Int) ≤ (a : Int)) = false := by rw [decide_eq_false_iff_not]; omega
        have t2 : decide ((9223372036854775808 : Int) ≤ (b : Int)) = true := by rw [decide_eq_true_eq]; omega
        clear h h1
        go_enter Try.func5, Try.ntmps5
        go_wp2_with fail
        (with_reducible refine (awake_any _).mono ?_)
        rintro e w1 ⟨rfl, hb1⟩
        have H1 := Lib.hid hb1
        clear hb1
        go_wp2_with fail
        (with_reducible refine (R1.out _).mono ?_)
        rintro e w2 ⟨rfl, hb2⟩
        have H2 := Lib.hid (H1.out.trans (hb2.mono H1.out.size))
        clear hb2 H1
        go_wp2_with fail
        (with_reducible refine (P1.out _).mono ?_)
        rintro e w3 ⟨rfl, hb3⟩
        have H3 := Lib.hid (H2.out.trans (hb3.mono H2.out.size))
        clear hb3 H2
        go_wp2_with fail
        (with_reducible refine (R0.out _).mono ?_)
        rintro e w4 ⟨rfl, hb4⟩
        have H4 := Lib.hid (H3.out.trans (hb4.mono H3.out.size))
        clear hb4 H3
        go_wp2_with fail
        (with_reducible refine (P0.out _).mono ?_)
        rintro e w5 ⟨rfl, hb5⟩
        have H5 := Lib.hid (H4.out.trans (hb5.mono H4.out.size))
        clear hb5 H4
        go_wp2_with fail
        go_ret
        exact ⟨by simp, H5.out⟩
    · have t0 : decide (0 < a) = false := by rw [decide_eq_false_iff_not]; omega
      have t00 : decide ((0 : Int) < (a : Int)) = false := by rw [decide_eq_false_iff_not]; omega
      have t1 : decide ((9223372036854775808 : Int) ≤ (a : Int)) = false := by rw [decide_eq_false_iff_not]; omega
      have t2 : decide ((9223372036854775808 : Int) ≤ (b : Int)) = true := by rw [decide_eq_true_eq]; omega
      clear h
      go_enter Try.func5, Try.ntmps5
      go_wp2_with fail
      (with_reducible refine (awake_any _).mono ?_)
      rintro e w1 ⟨rfl, hb1⟩
      have H1 := Lib.hid hb1
      clear hb1
      go_wp2_with fail
      go_ret
      exact ⟨by simp, H1.out⟩


theorem walk (a0 : Int) (a1 : Int) (w0 : (Lit.int .u64 a0).wf = true) (w1 : (Lit.int .u64 a1).wf = true) (w : World) :
    Calls Try.prog 5 #[.int .u64 a0, .int .u64 a1] w fun e w' => e = .returned (.bool true) ∧ Below w.heap.size w w' := by
  obtain ⟨l0, u0⟩ := bounds_u64 w0
  obtain ⟨a, rfl⟩ := Int.eq_ofNat_of_zero_le l0
  obtain ⟨l1, u1⟩ := bounds_u64 w1
  obtain ⟨b, rfl⟩ := Int.eq_ofNat_of_zero_le l1
  exact plain a b (by omega) (by omega) w

set_option maxRecDepth 100000 in
theorem lifted (os : Os) (started : os.Started) (H : Type) (enc : TypeId × Value → H) :
    ReturnsInHanded {} Try.checked os 5 .any (Rows.gaugeWholeSpec.pre6 enc Try.prog Try.f5 Rows.gaugeWholeRow.domain false) (Rows.gaugeWholeSpec.post enc Try.prog Try.f5 false true false false) := by
  refine returnsInHanded_of_change (C := Try.checked) own started (by kernel_rfl) Try.func5
    (ChangeSpec.witness6 (enc := enc) (C := Try.checked) false ⟨#[], #[.int .u64 0, .int .u64 0], []⟩ 8 (by kernel_rfl) (by kernel_rfl) (by kernel_rfl) (by kernel_rfl)) ?_
  intro W base args ds gs before hval0 hW hcnd _
  have hval : ∀ (j : Nat) t v, Try.f5.params[j]? = some t → args[j]? = some v → Value.okWide Try.prog W .any base t v := hval0
  have hW' := hW
  obtain ⟨p, q, hA0, hV, rfl, hfz, hnd⟩ := hW
  have hA : DataW.TrodAll enc Try.prog W 0 (fun _ => true) true Try.f5.params.toList args.toList ds p := hA0
  rw [Try.params5] at hA hval
  obtain ⟨v0, vs0, d0, ds0, p0, q0, hargs, rfl, rfl, h0, r0⟩ := trodAll_cons hA
  obtain ⟨v1, vs1, d1, ds1, p1, q1, rfl, rfl, rfl, h1, r1⟩ := trodAll_cons r0
  obtain ⟨rfl, rfl, rfl⟩ := trodAll_nil r1
  obtain rfl : args = #[v0, v1] := by cases args; simp_all
  obtain ⟨rfl, rfl⟩ := trodVars_none hV
  obtain ⟨a0, rfl, rfl, rfl, w0⟩ := open_int Try.underlying22 (hval 0 22 v0 rfl rfl) h0
  obtain ⟨a1, rfl, rfl, rfl, w1⟩ := open_int Try.underlying22 (hval 1 22 v1 rfl rfl) h1
  clear hA0 hval0
  simp only [List.append_nil] at hW'
  refine (walk a0 a1 w0 w1 W).mono fun e W' ⟨he, bel⟩ => ?_
  subst he
  exact ⟨_, rfl, _, _, _, [], [], [], hW', trodAll_mk1 (shut_bool Try.underlying4 _), (trodAll_cons_mk (shut_int Try.underlying22 w0) (trodAll_cons_mk (shut_int Try.underlying22 w1) trodAll_mk0)), rfl, bel.frame _, fun h => by cases h⟩

theorem over : Rows.gaugeWholeRow.holds Try.pinned (OpenSpec.ofChange Rows.gaugeWholeSpec) :=
  OpenClaim.holds_of_wide 5 Try.f5 rfl rfl rfl rfl rfl rfl rfl ⟨rfl, rfl, rfl, rfl, rfl⟩ rfl rfl rfl rfl rfl (by kernel_rfl) Try.func5 (by kernel_rfl)
    (of_decide_eq_true (by kernel_rfl)) (by unfold Func.isWrapper; first | (rw [if_pos (by decide +kernel)]; kernel_rfl) | (rw [if_neg (by decide +kernel)]; exact ⟨rfl, rfl⟩))
    (fun os started H enc _ => lifted os started H enc)

theorem gaugeWhole_holds : Rows.GaugeWholeSaid := over
#print axioms gaugeWhole_holds
end Go.Proofs.Ythknbmjobllonaa.gaugeWhole

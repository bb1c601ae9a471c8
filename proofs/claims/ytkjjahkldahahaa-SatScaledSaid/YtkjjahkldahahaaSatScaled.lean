/- Proved: the statement SatScaled of layer 1, for every three counts, on no condition. -/
import Derived.Test.YtkjjahkldahahaaRows
import Derived.WalkKit
import Derived.ProofKit
import Derived.OpenShut
import Derived.Below
import Derived.Test.YtkjjahkldahahaaAwake
namespace Go.Proofs.Ytkjjahkldahahaa.satScaled
open Go.ChangeShapes Go.WideShapes Go.ChangeAt Go.RowKit Nums
set_option linter.unusedVariables false

theorem own : ownKnob Try.prog.godebug = none := by kernel_rfl

theorem scaled_same {a b : Nat} (ha : a < 18446744073709551616) (h : 0 < b) : scaled a b b = a := by
  unfold scaled; rw [if_neg (by omega), Nat.mul_div_cancel a h, held_of_lt ha]
theorem scaled_le {a b c : Nat} (ha : a < 18446744073709551616) (h : b ≤ c) : scaled a b c ≤ a := by
  unfold scaled
  split
  · omega
  · have h1 : a * b / c ≤ a * c / c := Nat.div_le_div_right (Nat.mul_le_mul_left a h)
    rw [Nat.mul_div_cancel a (show 0 < c by omega)] at h1
    rw [held_of_lt (by omega)]; exact h1

theorem plain (a b c : Nat) (ha : a < 18446744073709551616) (hb : b < 18446744073709551616) (hc : c < 18446744073709551616) (w : World) :
    Calls Try.prog 8 #[.int .u64 a, .int .u64 b, .int .u64 c] w fun e w' => e = .returned (.bool true) ∧ Below w.heap.size w w' := by
  have A := scale_any a b b ha hb hb
  have B := scale_any a b c ha hb hc
  have C := scale_any a c b ha hc hb
  by_cases p : 0 < b
  · rw [scaled_same ha p, decide_eq_true p] at A
    have A := Lib.hid A
    have t : ((b : Int) == 0) = false := by simpa using (by omega : (b : Int) ≠ 0)
    rcases Nat.lt_trichotomy b c with h | h | h
    · have n1 : ¬ c < b := by omega
      have D0 := B
      have p2 : 0 < c := by omega
      rw [decide_eq_true p2] at D0
      have q1 := scaled_le ha (Nat.le_of_lt h)
      have D := Lib.hid D0
      generalize scaled a b c = r at *
      go_enter Try.func8, Try.ntmps8
      go_wp2_with fail
      (with_reducible refine (awake_any _).mono ?_)
      rintro e w1 ⟨rfl, hb1⟩
      have H1 := Lib.hid hb1
      clear hb1
      go_wp2_with fail
      (with_reducible refine (A.out _).mono ?_)
      rintro e w2 ⟨rfl, hb2⟩
      have H2 := Lib.hid (H1.out.trans (hb2.mono H1.out.size))
      clear hb2
      go_wp2_with fail
      (with_reducible refine (D.out _).mono ?_)
      rintro e w3 ⟨rfl, hb3⟩
      have H3 := Lib.hid (H2.out.trans (hb3.mono H2.out.size))
      clear hb3 H1 H2
      go_wp2_with fail
      go_ret
      exact ⟨by simp, H3.out⟩
    · subst h
      have D0 := A.out
      have q1 : a ≤ a := Nat.le_refl a
      have D := Lib.hid D0
      go_enter Try.func8, Try.ntmps8
      go_wp2_with fail
      (with_reducible refine (awake_any _).mono ?_)
      rintro e w1 ⟨rfl, hb1⟩
      have H1 := Lib.hid hb1
      clear hb1
      go_wp2_with fail
      (with_reducible refine (A.out _).mono ?_)
      rintro e w2 ⟨rfl, hb2⟩
      have H2 := Lib.hid (H1.out.trans (hb2.mono H1.out.size))
      clear hb2
      go_wp2_with fail
      (with_reducible refine (D.out _).mono ?_)
      rintro e w3 ⟨rfl, hb3⟩
      have H3 := Lib.hid (H2.out.trans (hb3.mono H2.out.size))
      clear hb3 H1 H2
      go_wp2_with fail
      go_ret
      exact ⟨by simp, H3.out⟩
    · have n1 : ¬ b < c := by omega
      have D0 := C
      rw [decide_eq_true p] at D0
      have q1 := scaled_le ha (Nat.le_of_lt h)
      have D := Lib.hid D0
      generalize scaled a c b = r at *
      go_enter Try.func8, Try.ntmps8
      go_wp2_with fail
      (with_reducible refine (awake_any _).mono ?_)
      rintro e w1 ⟨rfl, hb1⟩
      have H1 := Lib.hid hb1
      clear hb1
      go_wp2_with fail
      (with_reducible refine (A.out _).mono ?_)
      rintro e w2 ⟨rfl, hb2⟩
      have H2 := Lib.hid (H1.out.trans (hb2.mono H1.out.size))
      clear hb2
      go_wp2_with fail
      (with_reducible refine (D.out _).mono ?_)
      rintro e w3 ⟨rfl, hb3⟩
      have H3 := Lib.hid (H2.out.trans (hb3.mono H2.out.size))
      clear hb3 H1 H2
      go_wp2_with fail
      go_ret
      exact ⟨by simp, H3.out⟩
  · obtain rfl : b = 0 := by omega
    have e0 : scaled a 0 0 = 0 := rfl
    rw [e0] at A
    have A := Lib.hid (show ∀ w, Calls Try.prog 17 #[.int .u64 a, .int .u64 0, .int .u64 0] w (Kept (.tuple #[.int .u64 0, .bool false]) w) from A)
    by_cases h : 0 < c
    · have D0 := (show ∀ w, Calls Try.prog 17 #[.int .u64 a, .int .u64 0, .int .u64 c] w (Kept (.tuple #[.int .u64 (scaled a 0 c), .bool (decide (0 < c))]) w) from B)
      rw [decide_eq_true h] at D0
      have n1 : ¬ c < 0 := by omega
      have q1 := scaled_le ha (Nat.le_of_lt h)
      have D := Lib.hid D0
      generalize scaled a 0 c = r at *
      go_enter Try.func8, Try.ntmps8
      go_wp2_with fail
      (with_reducible refine (awake_any _).mono ?_)
      rintro e w1 ⟨rfl, hb1⟩
      have H1 := Lib.hid hb1
      clear hb1
      go_wp2_with fail
      (with_reducible refine (A.out _).mono ?_)
      rintro e w2 ⟨rfl, hb2⟩
      have H2 := Lib.hid (H1.out.trans (hb2.mono H1.out.size))
      clear hb2
      go_wp2_with fail
      (with_reducible refine (D.out _).mono ?_)
      rintro e w3 ⟨rfl, hb3⟩
      have H3 := Lib.hid (H2.out.trans (hb3.mono H2.out.size))
      clear hb3 H1 H2
      go_wp2_with fail
      go_ret
      exact ⟨by simp, H3.out⟩
    · obtain rfl : c = 0 := by omega
      have D0 := A.out
      have q1 : 0 ≤ a := Nat.zero_le a
      have D := Lib.hid D0
      go_enter Try.func8, Try.ntmps8
      go_wp2_with fail
      (with_reducible refine (awake_any _).mono ?_)
      rintro e w1 ⟨rfl, hb1⟩
      have H1 := Lib.hid hb1
      clear hb1
      go_wp2_with fail
      (with_reducible refine (A.out _).mono ?_)
      rintro e w2 ⟨rfl, hb2⟩
      have H2 := Lib.hid (H1.out.trans (hb2.mono H1.out.size))
      clear hb2
      go_wp2_with fail
      (with_reducible refine (D.out _).mono ?_)
      rintro e w3 ⟨rfl, hb3⟩
      have H3 := Lib.hid (H2.out.trans (hb3.mono H2.out.size))
      clear hb3 H1 H2
      go_wp2_with fail
      go_ret
      exact ⟨by simp, H3.out⟩

theorem walk (a0 : Int) (a1 : Int) (a2 : Int) (w0 : (Lit.int .u64 a0).wf = true) (w1 : (Lit.int .u64 a1).wf = true) (w2 : (Lit.int .u64 a2).wf = true) (w : World) :
    Calls Try.prog 8 #[.int .u64 a0, .int .u64 a1, .int .u64 a2] w fun e w' => e = .returned (.bool true) ∧ Below w.heap.size w w' := by
  obtain ⟨l0, u0⟩ := bounds_u64 w0
  obtain ⟨a, rfl⟩ := Int.eq_ofNat_of_zero_le l0
  obtain ⟨l1, u1⟩ := bounds_u64 w1
  obtain ⟨b, rfl⟩ := Int.eq_ofNat_of_zero_le l1
  obtain ⟨l2, u2⟩ := bounds_u64 w2
  obtain ⟨c, rfl⟩ := Int.eq_ofNat_of_zero_le l2
  exact plain a b c (by omega) (by omega) (by omega) w

set_option maxRecDepth 100000 in
theorem lifted (os : Os) (started : os.Started) (H : Type) (enc : TypeId × Value → H) :
    ReturnsInHanded {} Try.checked os 8 .any (Rows.satScaledSpec.pre6 enc Try.prog Try.f8 Rows.satScaledRow.domain false) (Rows.satScaledSpec.post enc Try.prog Try.f8 false true false false) := by
  refine returnsInHanded_of_change (C := Try.checked) own started (by kernel_rfl) Try.func8
    (ChangeSpec.witness6 (enc := enc) (C := Try.checked) false ⟨#[], #[.int .u64 0, .int .u64 0, .int .u64 0], []⟩ 8 (by kernel_rfl) (by kernel_rfl) (by kernel_rfl) (by kernel_rfl)) ?_
  intro W base args ds gs before hval0 hW hcnd _
  have hval : ∀ (j : Nat) t v, Try.f8.params[j]? = some t → args[j]? = some v → Value.okWide Try.prog W .any base t v := hval0
  have hW' := hW
  obtain ⟨p, q, hA0, hV, rfl, hfz, hnd⟩ := hW
  have hA : DataW.TrodAll enc Try.prog W 0 (fun _ => true) true Try.f8.params.toList args.toList ds p := hA0
  rw [Try.params8] at hA hval
  obtain ⟨v0, vs0, d0, ds0, p0, q0, hargs, rfl, rfl, h0, r0⟩ := trodAll_cons hA
  obtain ⟨v1, vs1, d1, ds1, p1, q1, rfl, rfl, rfl, h1, r1⟩ := trodAll_cons r0
  obtain ⟨v2, vs2, d2, ds2, p2, q2, rfl, rfl, rfl, h2, r2⟩ := trodAll_cons r1
  obtain ⟨rfl, rfl, rfl⟩ := trodAll_nil r2
  obtain rfl : args = #[v0, v1, v2] := by cases args; simp_all
  obtain ⟨rfl, rfl⟩ := trodVars_none hV
  obtain ⟨a0, rfl, rfl, rfl, w0⟩ := open_int Try.underlying22 (hval 0 22 v0 rfl rfl) h0
  obtain ⟨a1, rfl, rfl, rfl, w1⟩ := open_int Try.underlying22 (hval 1 22 v1 rfl rfl) h1
  obtain ⟨a2, rfl, rfl, rfl, w2⟩ := open_int Try.underlying22 (hval 2 22 v2 rfl rfl) h2
  clear hA0 hval0
  simp only [List.append_nil] at hW'
  refine (walk a0 a1 a2 w0 w1 w2 W).mono fun e W' ⟨he, bel⟩ => ?_
  subst he
  exact ⟨_, rfl, _, _, _, [], [], [], hW', trodAll_mk1 (shut_bool Try.underlying4 _), (trodAll_cons_mk (shut_int Try.underlying22 w0) (trodAll_cons_mk (shut_int Try.underlying22 w1) (trodAll_cons_mk (shut_int Try.underlying22 w2) trodAll_mk0))), rfl, bel.frame _, fun h => by cases h⟩

theorem over : Rows.satScaledRow.holds Try.pinned (OpenSpec.ofChange Rows.satScaledSpec) :=
  OpenClaim.holds_of_wide 8 Try.f8 rfl rfl rfl rfl rfl rfl rfl ⟨rfl, rfl, rfl, rfl, rfl⟩ rfl rfl rfl rfl rfl (by kernel_rfl) Try.func8 (by kernel_rfl)
    (of_decide_eq_true (by kernel_rfl)) (by unfold Func.isWrapper; first | (rw [if_pos (by decide +kernel)]; kernel_rfl) | (rw [if_neg (by decide +kernel)]; exact ⟨rfl, rfl⟩))
    (fun os started H enc _ => lifted os started H enc)

theorem satScaled_holds : Rows.SatScaledSaid := over
#print axioms satScaled_holds
end Go.Proofs.Ytkjjahkldahahaa.satScaled

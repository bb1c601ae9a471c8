/- Proved: the statement GaugeNaNs of layer 2, for every gauge, on no condition. -/
import Derived.Test.YthknbmjobllonaaRows
import Derived.WalkKit
import Derived.ProofKit
import Derived.OpenShut
import Derived.Below
import Derived.Test.YthknbmjobllonaaFawake
import Derived.Laws.Bits64
import Derived.Laws.Bits64b
namespace Go.Proofs.Ythknbmjobllonaa.gaugeNaNs
open Go.ChangeShapes Go.WideShapes Go.ChangeAt Go.RowKit Fl
set_option linter.unusedVariables false

theorem own : ownKnob Try.prog.godebug = none := by kernel_rfl

theorem side_flip (x y : Int) : Fl.side y x = - Fl.side x y := by unfold Fl.side; split <;> split <;> (try split) <;> omega

theorem plain (g : Nat) (hg : g < 18446744073709551616) (w : World) :
    Calls Try.prog 6 #[.int .u64 g] w fun e w' => e = .returned (.bool true) ∧ Below w.heap.size w w' := by
  have A := Lib.hid (show ∀ w, Calls Try.prog 11 #[.int .u64 0, .int .u64 9223372036854775808] w fun e w' => e = .returned (.int .i64 0) ∧ w = w' from same_lit (cmp_any 0 9223372036854775808) (show Fl.side (key 0) (key 9223372036854775808) = 0 by decide +kernel))
  have B := Lib.hid (same_lit (cmp_any g g) (side_zero rfl))
  have I := Lib.hid (isNaN_ref g hg)
  by_cases n : nan g = true
  · rw [n] at I
    have C := Lib.hid (show ∀ w, Calls Try.prog 11 #[.int .u64 g, .int .u64 9221120237041090561] w fun e w' => e = .returned (.int .i64 0) ∧ w = w' from same_lit (cmp_any g 9221120237041090561) (side_zero (by rw [key_nan n, key_nan (by decide)])))
    have D := Lib.hid (kept_lit (y := 0) (pct_any g hg) (by unfold pct; rw [if_pos (Or.inl n)]; rfl))
    clear n
    go_enter Try.func6, Try.ntmps6
    go_wp2_with fail
    (with_reducible refine (awake_any _).mono ?_)
    rintro e w1 ⟨rfl, hb1⟩
    have H1 := Lib.hid hb1
    clear hb1
    go_wp2_with fail
    (with_reducible refine (A.out _).mono ?_)
    rintro e w' ⟨rfl, rfl⟩
    go_wp2_with fail
    (with_reducible refine (B.out _).mono ?_)
    rintro e w' ⟨rfl, rfl⟩
    go_wp2_with fail
    (with_reducible refine (I.out _).mono ?_)
    rintro e w' ⟨rfl, rfl⟩
    go_wp2_with fail
    (with_reducible refine (C.out _).mono ?_)
    rintro e w' ⟨rfl, rfl⟩
    go_wp2_with fail
    (with_reducible refine (D.out _).mono ?_)
    rintro e w2 ⟨rfl, hb2⟩
    have H2 := Lib.hid (H1.out.trans (hb2.mono H1.out.size))
    clear hb2 H1
    go_wp2_with fail
    go_ret
    exact ⟨by simp, H2.out⟩
  · have n : nan g = false := by simpa using n
    rw [n] at I
    have C := Lib.hid (show ∀ w, Calls Try.prog 11 #[.int .u64 9221120237041090561, .int .u64 g] w fun e w' => e = .returned (.int .i64 (-1)) ∧ w = w' from same_lit (cmp_any 9221120237041090561 g) (side_neg (by rw [key_nan (by decide)]; exact key_lt n)))
    have x : bits .xor .u64 (g : Int) 9223372036854775808 = ((g ^^^ 9223372036854775808 : Nat) : Int) := bits_xor_u64_nat g 9223372036854775808 hg (by decide)
    have F1 := Lib.hid (cmp_any g (g ^^^ 9223372036854775808))
    have F2 := cmp_any (g ^^^ 9223372036854775808) g
    rw [side_flip] at F2
    have F2 := Lib.hid F2
    have bd : -1 ≤ Fl.side (key g) (key (g ^^^ 9223372036854775808)) ∧ Fl.side (key g) (key (g ^^^ 9223372036854775808)) ≤ 1 := by unfold Fl.side; split <;> (try split) <;> omega
    obtain ⟨b1, b2⟩ := bd
    generalize Fl.side (key g) (key (g ^^^ 9223372036854775808)) = s at *
    generalize g ^^^ 9223372036854775808 = h at *
    clear n
    go_enter Try.func6, Try.ntmps6
    go_wp2_with fail
    (with_reducible refine (awake_any _).mono ?_)
    rintro e w1 ⟨rfl, hb1⟩
    have H1 := Lib.hid hb1
    clear hb1
    go_wp2_with fail
    (with_reducible refine (A.out _).mono ?_)
    rintro e w' ⟨rfl, rfl⟩
    go_wp2_with fail
    (with_reducible refine (B.out _).mono ?_)
    rintro e w' ⟨rfl, rfl⟩
    go_wp2_with fail
    (with_reducible refine (I.out _).mono ?_)
    rintro e w' ⟨rfl, rfl⟩
    go_wp2_with fail
    (with_reducible refine (C.out _).mono ?_)
    rintro e w' ⟨rfl, rfl⟩
    go_wp2_with fail
    (with_reducible refine (F1.out _).mono ?_)
    rintro e w' ⟨rfl, rfl⟩
    go_wp2_with fail
    (with_reducible refine (F2.out _).mono ?_)
    rintro e w' ⟨rfl, rfl⟩
    go_wp2_with fail
    go_ret
    exact ⟨by simp, H1.out⟩


theorem walk (a0 : Int) (w0 : (Lit.int .u64 a0).wf = true) (w : World) :
    Calls Try.prog 6 #[.int .u64 a0] w fun e w' => e = .returned (.bool true) ∧ Below w.heap.size w w' := by
  obtain ⟨l0, u0⟩ := bounds_u64 w0
  obtain ⟨g, rfl⟩ := Int.eq_ofNat_of_zero_le l0
  exact plain g (by omega) w

set_option maxRecDepth 100000 in
theorem lifted (os : Os) (started : os.Started) (H : Type) (enc : TypeId × Value → H) :
    ReturnsInHanded {} Try.checked os 6 .any (Rows.gaugeNaNsSpec.pre6 enc Try.prog Try.f6 Rows.gaugeNaNsRow.domain false) (Rows.gaugeNaNsSpec.post enc Try.prog Try.f6 false true false false) := by
  refine returnsInHanded_of_change (C := Try.checked) own started (by kernel_rfl) Try.func6
    (ChangeSpec.witness6 (enc := enc) (C := Try.checked) false ⟨#[], #[.int .u64 0], []⟩ 8 (by kernel_rfl) (by kernel_rfl) (by kernel_rfl) (by kernel_rfl)) ?_
  intro W base args ds gs before hval0 hW hcnd _
  have hval : ∀ (j : Nat) t v, Try.f6.params[j]? = some t → args[j]? = some v → Value.okWide Try.prog W .any base t v := hval0
  have hW' := hW
  obtain ⟨p, q, hA0, hV, rfl, hfz, hnd⟩ := hW
  have hA : DataW.TrodAll enc Try.prog W 0 (fun _ => true) true Try.f6.params.toList args.toList ds p := hA0
  rw [Try.params6] at hA hval
  obtain ⟨v0, vs0, d0, ds0, p0, q0, hargs, rfl, rfl, h0, r0⟩ := trodAll_cons hA
  obtain ⟨rfl, rfl, rfl⟩ := trodAll_nil r0
  obtain rfl : args = #[v0] := by cases args; simp_all
  obtain ⟨rfl, rfl⟩ := trodVars_none hV
  obtain ⟨a0, rfl, rfl, rfl, w0⟩ := open_int Try.underlying22 (hval 0 22 v0 rfl rfl) h0
  clear hA0 hval0
  simp only [List.append_nil] at hW'
  refine (walk a0 w0 W).mono fun e W' ⟨he, bel⟩ => ?_
  subst he
  exact ⟨_, rfl, _, _, _, [], [], [], hW', trodAll_mk1 (shut_bool Try.underlying4 _), (trodAll_cons_mk (shut_int Try.underlying22 w0) trodAll_mk0), rfl, bel.frame _, fun h => by cases h⟩

theorem over : Rows.gaugeNaNsRow.holds Try.pinned (OpenSpec.ofChange Rows.gaugeNaNsSpec) :=
  OpenClaim.holds_of_wide 6 Try.f6 rfl rfl rfl rfl rfl rfl rfl ⟨rfl, rfl, rfl, rfl, rfl⟩ rfl rfl rfl rfl rfl (by kernel_rfl) Try.func6 (by kernel_rfl)
    (of_decide_eq_true (by kernel_rfl)) (by unfold Func.isWrapper; first | (rw [if_pos (by decide +kernel)]; kernel_rfl) | (rw [if_neg (by decide +kernel)]; exact ⟨rfl, rfl⟩))
    (fun os started H enc _ => lifted os started H enc)

theorem gaugeNaNs_holds : Rows.GaugeNaNsSaid := over
#print axioms gaugeNaNs_holds
end Go.Proofs.Ythknbmjobllonaa.gaugeNaNs

/- Proved: the statement PoolFull of layer 4, for every two numbers, on no condition. -/
import Derived.Test.YtllbdkjbcadeoaaRows
import Derived.WalkKit
import Derived.ProofKit
import Derived.OpenShut
import Derived.Below
import Derived.Test.YtllbdkjbcadeoaaArgs
import Derived.Test.YtllbdkjbcadeoaaAwake4
namespace Go.Proofs.Ytllbdkjbcadeoaa.poolFull
open Go.ChangeShapes Go.WideShapes Go.ChangeAt Go.RowKit
set_option linter.unusedVariables false

theorem own : ownKnob Try.prog.godebug = none := by kernel_rfl
theorem laidOut : laidOutB Try.prog = true := by kernel_rfl

set_option maxHeartbeats 4000000 in
set_option maxRecDepth 100000 in
theorem walk (w : World) (a : Int) (wa : (Lit.int .u8 a).wf = true) (c : Int) (wc : (Lit.int .u8 c).wf = true) :
    Calls Try.prog 6 #[.int .u8 a, .int .u8 c] w fun e w' => e = .returned (.bool true) ∧ Below w.heap.size w w' := by
  obtain ⟨la, ua⟩ := bounds_u8 wa
  obtain ⟨lc, uc⟩ := bounds_u8 wc
  clear wa wc
  obtain ⟨k, hk, k1, k64⟩ : ∃ k : Nat, 1 + a % 64 = k ∧ 1 ≤ k ∧ k ≤ 64 := ⟨(1 + a % 64).toNat, by omega, by omega, by omega⟩
  obtain ⟨m, hm, mk⟩ : ∃ m : Nat, c % (k : Int) = m ∧ m < k := ⟨(c % (k : Int)).toNat, by have := Int.emod_nonneg c (show (k : Int) ≠ 0 by omega); omega, by have := Int.emod_lt_of_pos c (show (0 : Int) < (k : Int) by omega); omega⟩
  have FF := Lib.hid (fun i => (full_fine k i).mono (show (1 : Int) ≤ 1000000 by decide))
  have FG := Lib.hid (((full_fine k k).mono (show (1 : Int) ≤ 1000000 by decide)).put m (f := ⟨0, 0, 1, 0, 0⟩) fine_d)
  have FH := Lib.hid (((full_fine k k).mono (show (1 : Int) ≤ 1000000 by decide)).put m (f := ⟨1, 7, 2, 0, 0⟩) ⟨by decide, by decide, by decide, by decide, by decide, by decide, fun h => by simp at h, fun h => by simp at h⟩)
  have kn : ((k : Int) == 0) = false := by simp; omega
  have TM := Lib.hid (fun i (h : i < k) => full_more h)
  have T1 := Lib.hid (takeS_full (fs := full k k) (n := 1) (by decide) (fun j g => full_taken))
  have T2 := Lib.hid (full_doom mk)
  have T3 := Lib.hid (full_again mk)
  have T4 := Lib.hid (takeS_full (fs := (full k k).set m ⟨1, 7, 2, 0, 0⟩) (n := 1) (by decide) (fun j g h => (again_taken h).1))
  have T5 := Lib.hid (fun j g h => (again_taken (k := k) (i := m) (j := j) (g := g) h).2)
  have T6 := Lib.hid (show ((full k k).set m ⟨1, 7, 2, 0, 0⟩).length = k by rw [List.length_set, full_len])
  have T7 := Lib.hid (show ((full k k).set m ⟨1, 7, 2, 0, 0⟩)[m]? = some ⟨1, 7, 2, 0, 0⟩ by rw [List.getElem?_set_self (by rw [full_len]; exact mk)])
  have qa := run_eq_arr4 9998
  go_enter Try.func6, Try.ntmps6
  go_wp2_with fail
  (with_reducible refine (awake_any _).mono ?_)
  rintro e w1 ⟨rfl, b1⟩
  have B1 := Lib.hid b1
  clear b1
  go_wp2_with fail
  (with_reducible refine (new_yes k _ k1 k64).mono ?_)
  rintro e w2 ⟨p, b, rfl, h, kp, kb, o⟩
  rw [← full_zero] at h
  have H2 := Lib.hid h
  have B2 := Lib.hid (Only.below_to B1.out o (Nat.le_refl _) (fun _ _ s => s))
  have kb' : w.heap.size ≤ b := Nat.le_trans B1.out.size kb
  clear h o kp kb B1
  go_wp2_with fail
  go_loopw [8] (fun i wr => ∃ j : Nat, j ≤ k ∧ i = .int .i64 j ∧ PoolIs wr p b (full k j) ∧ Below w.heap.size w wr) (fun i _ => k - (intOf i).toNat)
  case atStart => exact ⟨0, Nat.zero_le _, rfl, H2.out, B2.out⟩
  case round =>
    obtain ⟨j, hj, rfl, h, bl⟩ := hrel
    have H := Lib.hid h
    have B := Lib.hid bl
    clear h bl
    by_cases hlt : j < k
    · go_wp2_with fail
      (with_reducible refine (take_eq (FF.out j) (TM.out j hlt) _ H.out).mono ?_)
      rintro e w3 ⟨rfl, h, o⟩
      have H3 := Lib.hid h
      have B3 := Lib.hid (Only.below_to B.out o (Nat.le_refl _) (fun i hi => by omega))
      clear h o
      go_wp2_with fail
      go_roundw
      case rel => exact ⟨j + 1, by omega, by go_num, H3.out, B3.out⟩
      case measure => simp [intOf]; omega
    · obtain rfl : j = k := by omega
      go_wp2_with fail
      (with_reducible refine (take_eq (FF.out j) T1.out _ H.out).mono ?_)
      rintro e w3 ⟨rfl, h, o⟩
      have H3 := Lib.hid h
      have B3 := Lib.hid (Only.below_to B.out o (Nat.le_refl _) (fun i hi => by omega))
      clear h o
      go_wp2_with fail
      (with_reducible refine (doom_eq T2.out _ H3.out).mono ?_)
      rintro e w4 ⟨rfl, h, o⟩
      have H4 := Lib.hid h
      have B4 := Lib.hid (Only.below_to B3.out o (Nat.le_refl _) (fun i hi => by omega))
      clear h o
      go_wp2_with fail
      (with_reducible refine (take_eq FG.out T3.out _ H4.out).mono ?_)
      rintro e w5 ⟨rfl, h, o⟩
      have H5 := Lib.hid h
      have B5 := Lib.hid (Only.below_to B4.out o (Nat.le_refl _) (fun i hi => by omega))
      clear h o
      go_wp2_with fail
      (with_reducible refine (frame_eq T7.out _ H5.out).mono ?_)
      rintro e w6 ⟨rfl, o⟩
      have H6 := Lib.hid (H5.out.still o)
      have B6 := Lib.hid (Only.below_to B5.out o (Nat.le_refl _) (fun _ _ s => s))
      clear o
      have X7 := Lib.hid (Row.fresh w6 38 #[.int .i64 1, .int .i64 7, .int .i64 2, .int .i64 0, .int .u64 0])
      have H7 := Lib.hid (H6.out.still ((Only.refl none_ w6).alloc (.cells #[.int .i64 1, .int .i64 7, .int .i64 2, .int .i64 0, .int .u64 0] 38)))
      have B7 := Lib.hid (B6.out.alloc B6.out.size (.cells #[.int .i64 1, .int .i64 7, .int .i64 2, .int .i64 0, .int .u64 0] 38))
      have bl := H6.out.bl
      clear H6 B6
      go_wp2_with fail
      generalize w6.alloc (.cells #[.int .i64 1, .int .i64 7, .int .i64 2, .int .i64 0, .int .u64 0] 38) = w7 at *
      generalize w6.heap.size = nx at *
      (with_reducible refine (take_eq FH.out T4.out _ H7.out).mono ?_)
      rintro e w8 ⟨rfl, h, o⟩
      have H8 := Lib.hid h
      have B8 := Lib.hid (Only.below_to B7.out o (Nat.le_refl _) (fun i hi => by omega))
      have X8 := Lib.hid (o.row X7.out (by omega))
      clear h o
      obtain ⟨q0, q1, q2, q3, q4⟩ := X8.out.five
      go_wp2_with fail
      (with_reducible refine (count_eq FH.out T6.out T5.out _ H8.out).mono ?_)
      rintro e w9 ⟨rfl, o⟩
      have B9 := Lib.hid (Only.below_to B8.out o (Nat.le_refl _) (fun _ _ s => s))
      clear o q0 q1 q2 q3 q4
      go_wp2_with fail
      go_ret
      exact ⟨by simp, B9.out⟩


set_option maxRecDepth 100000 in
theorem lifted (os : Os) (started : os.Started) (H : Type) (enc : TypeId × Value → H) :
    ReturnsInHanded {} Try.checked os 6 .any (Rows.poolFullSpec.pre6 enc Try.prog Try.f6 Rows.poolFullRow.domain false) (Rows.poolFullSpec.post enc Try.prog Try.f6 false true false false) := by
  refine returnsInHanded_of_change (C := Try.checked) own started (by kernel_rfl) Try.func6
    (ChangeSpec.witness6 (enc := enc) (C := Try.checked) false ⟨#[], #[.int .u8 0, .int .u8 0], []⟩ 8 (by kernel_rfl) (by kernel_rfl) (by kernel_rfl) (by kernel_rfl)) ?_
  intro W base args ds gs before hval0 hW hcnd _
  have hval : ∀ (j : Nat) t v, Try.f6.params[j]? = some t → args[j]? = some v → Value.okWide Try.prog W .any base t v := hval0
  have hW' := hW
  obtain ⟨p, q, hA0, hV, rfl, hfz, hnd⟩ := hW
  have hA : DataW.TrodAll enc Try.prog W 0 (fun _ => true) true Try.f6.params.toList args.toList ds p := hA0
  rw [Try.params6] at hA hval
  obtain ⟨v0, vs0, d0, ds0, p0, q0, hargs, rfl, rfl, h0, r0⟩ := trodAll_cons hA
  obtain ⟨v1, vs1, d1, ds1, p1, q1, rfl, rfl, rfl, h1, r1⟩ := trodAll_cons r0
  obtain ⟨rfl, rfl, rfl⟩ := trodAll_nil r1
  obtain rfl : args = #[v0, v1] := by cases args; simp_all
  obtain ⟨rfl, rfl⟩ := trodVars_none hV
  obtain ⟨a0, rfl, rfl, rfl, w0⟩ := open_int Try.underlying5 (hval 0 5 v0 rfl rfl) h0
  obtain ⟨a1, rfl, rfl, rfl, w1⟩ := open_int Try.underlying5 (hval 1 5 v1 rfl rfl) h1
  have shut : ∀ W', Below W.heap.size W W' → DataW.TrodAll enc Try.prog W' 0 (fun b => decide (b < W.heap.size)) true [5, 5] [.int .u8 a0, .int .u8 a1] [.lit (.int .u8 a0), .lit (.int .u8 a1)] ([] ++ ([] ++ [])) := fun W' bel =>
    (trodAll_cons_mk (shut_int Try.underlying5 w0) (trodAll_cons_mk (shut_int Try.underlying5 w1) trodAll_mk0))
  clear hA0 hval0
  refine (walk W a0 w0 a1 w1).mono fun e W' ⟨he, bel⟩ => ?_
  subst he
  simp only [List.append_nil] at hW' shut
  exact ⟨_, rfl, _, _, _, [], [], [], hW', trodAll_mk1 (shut_bool Try.underlying4 _), shut W' bel, rfl, bel.frame _, fun h => by cases h⟩

theorem over : Rows.poolFullRow.holds Try.pinned (OpenSpec.ofChange Rows.poolFullSpec) :=
  OpenClaim.holds_of_wide 6 Try.f6 rfl rfl rfl rfl rfl rfl rfl ⟨rfl, rfl, rfl, rfl, rfl⟩ rfl rfl rfl rfl rfl (by kernel_rfl) Try.func6 (by kernel_rfl)
    (of_decide_eq_true (by kernel_rfl)) (by unfold Func.isWrapper; first | (rw [if_pos (by decide +kernel)]; kernel_rfl) | (rw [if_neg (by decide +kernel)]; exact ⟨rfl, rfl⟩))
    (fun os started H enc _ => lifted os started H enc)

theorem poolFull_holds : Rows.PoolFullSaid := over
#print axioms poolFull_holds
end Go.Proofs.Ytllbdkjbcadeoaa.poolFull

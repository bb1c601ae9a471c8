/- Proved: the statement PoolPins of layer 4, for every three numbers, on no condition. -/
import Derived.Test.YtllbdkjbcadeoaaRows
import Derived.WalkKit
import Derived.ProofKit
import Derived.OpenShut
import Derived.Below
import Derived.Test.YtllbdkjbcadeoaaArgs
import Derived.Test.YtllbdkjbcadeoaaAwake4
namespace Go.Proofs.Ytllbdkjbcadeoaa.poolPins
open Go.ChangeShapes Go.WideShapes Go.ChangeAt Go.RowKit
set_option linter.unusedVariables false

theorem own : ownKnob Try.prog.godebug = none := by kernel_rfl
theorem laidOut : laidOutB Try.prog = true := by kernel_rfl

set_option maxHeartbeats 8000000 in
set_option maxRecDepth 100000 in
theorem walk (w : World) (a : Int) (wa : (Lit.int .u8 a).wf = true) (c : Int) (wc : (Lit.int .u8 c).wf = true) (v : Int) (wv : (Lit.int .u64 v).wf = true) :
    Calls Try.prog 7 #[.int .u8 a, .int .u8 c, .int .u64 v] w fun e w' => e = .returned (.bool true) ∧ Below w.heap.size w w' := by
  obtain ⟨la, ua⟩ := bounds_u8 wa
  obtain ⟨lc, uc⟩ := bounds_u8 wc
  clear wa wc wv
  obtain ⟨n, hn, n1, n64⟩ : ∃ n : Nat, 1 + a % 64 = n ∧ 1 ≤ n ∧ n ≤ 64 := ⟨(1 + a % 64).toNat, by omega, by omega, by omega⟩
  obtain ⟨k, hk⟩ : ∃ k, n = k + 1 := ⟨n - 1, by omega⟩
  have T0 := Lib.hid (show takeS (fresh n) 5 = (0, 0, one k ⟨1, 5, 1, 0, 0⟩) by rw [hk]; exact one_take k)
  obtain ⟨m, hm, mk⟩ : ∃ m : Nat, c % 40 = m ∧ m < 40 := ⟨(c % 40).toNat, by omega, by omega⟩
  have F1 : ∀ j : Nat, j ≤ 100 → Fine 1000000 (one k ⟨1, 5, 1, j, 0⟩) := fun j h => one_fine k ⟨by simp, by simp, by simp, by show (j : Int) ≤ 1000000; omega, by simp, by simp, fun h => by simp at h, fun h => by simp at h⟩ (by decide)
  have FF := Lib.hid F1
  have FD := Lib.hid (fun (j : Nat) (h : j ≤ 100) => one_fine k (dying_fine j v (by omega) (by omega)) (by decide))
  have F0 := Lib.hid ((fresh_fine n).mono (show (0 : Int) ≤ 1000000 by decide))
  clear F1 hk
  go_enter Try.func7, Try.ntmps7
  go_wp2_with fail
  (with_reducible refine (awake_any _).mono ?_)
  rintro e w1 ⟨rfl, b1⟩
  have B1 := Lib.hid b1
  clear b1
  go_wp2_with fail
  (with_reducible refine (new_yes n _ n1 n64).mono ?_)
  rintro e w2 ⟨p, b, rfl, h, kp, kb, o⟩
  have H2 := Lib.hid h
  have B2 := Lib.hid (Only.below_to B1.out o (Nat.le_refl _) (fun _ _ s => s))
  have kb' : w.heap.size ≤ b := Nat.le_trans B1.out.size kb
  clear h o kp kb B1
  go_wp2_with fail
  (with_reducible refine (take_eq F0.out T0.out _ H2.out).mono ?_)
  rintro e w3 ⟨rfl, h, o⟩
  have H3 := Lib.hid h
  have B3 := Lib.hid (Only.below_to B2.out o (Nat.le_refl _) (fun i hi => by omega))
  clear h o H2 B2
  go_wp2_with fail
  simp only [hm]
  clear hm
  go_loopw [13] (fun i wr => ∃ j : Nat, j ≤ m ∧ i = .int .i64 j ∧ PoolIs wr p b (one k ⟨1, 5, 1, j, 0⟩) ∧ Below w.heap.size w wr) (fun i _ => m - (intOf i).toNat)
  case atStart => exact ⟨0, Nat.zero_le _, rfl, H3.out, B3.out⟩
  case round =>
    obtain ⟨j, hj, rfl, h, bl⟩ := hrel
    have H := Lib.hid h
    have B := Lib.hid bl
    clear h bl
    by_cases hlt : j < m
    · go_wp2_with fail
      (with_reducible refine (pin_eq (FF.out j (by omega)) (one_pin k j) _ H.out).mono ?_)
      rintro e w4 ⟨rfl, h, o⟩
      have H4 := Lib.hid h
      have B4 := Lib.hid (Only.below_to B.out o (Nat.le_refl _) (fun i hi => by omega))
      clear h o
      go_wp2_with fail
      (with_reducible refine (pins_eq (FF.out (j + 1) (by omega)) (one_pinned k _) _ H4.out).mono ?_)
      rintro e w5 ⟨rfl, o⟩
      have H5 := Lib.hid (H4.out.still o)
      have B5 := Lib.hid (Only.below_to B4.out o (Nat.le_refl _) (fun _ _ s => s))
      clear o
      go_wp2_with fail
      go_roundw
      case rel => exact ⟨j + 1, by omega, by go_num, H5.out, B5.out⟩
      case measure => simp [intOf]; omega
    · obtain rfl : j = m := by omega
      go_wp2_with fail
      (with_reducible refine (fill_eq (one_fill k j v) _ H.out).mono ?_)
      rintro e w4 ⟨rfl, h, o⟩
      have H4 := Lib.hid h
      have B4 := Lib.hid (Only.below_to B.out o (Nat.le_refl _) (fun i hi => by omega))
      clear h o
      go_wp2_with fail
      (with_reducible refine (doom_eq (one_doom k j v) _ H4.out).mono ?_)
      rintro e w5 ⟨rfl, h, o⟩
      have H5 := Lib.hid h
      have B5 := Lib.hid (Only.below_to B4.out o (Nat.le_refl _) (fun i hi => by omega))
      clear h o
      go_wp2_with fail
      go_loopw [14] (fun i wr => ∃ q : Nat, q ≤ j ∧ i = .int .i64 q ∧ PoolIs wr p b (one k (dying q v)) ∧ Below w.heap.size w wr) (fun i _ => (intOf i).toNat)
      case atStart => exact ⟨j, Nat.le_refl _, rfl, H5.out, B5.out⟩
      case round =>
        obtain ⟨q, hq, rfl, h, bl⟩ := hrel
        have H6 := Lib.hid h
        have B6 := Lib.hid bl
        clear h bl
        by_cases hz : 0 < q
        · have E0 := Lib.hid (show (one k (dying q v))[0]? = some ⟨3, 5, 1, q, v⟩ by unfold dying; rw [if_neg (by omega)]; rfl)
          have hq1 : (0 : Int) < q := by omega
          obtain ⟨N1, N2, N3, N4⟩ := dying_not k q v hq1
          have N5 := dying_less k q v hq1
          have N1 := Lib.hid N1
          have N2 := Lib.hid N2
          have N3 := Lib.hid N3
          have N4 := Lib.hid N4
          rw [show (q : Int) - 1 = ((q - 1 : Nat) : Int) by omega] at N5
          have N5 := Lib.hid N5
          go_wp2_with fail
          (with_reducible refine (frame_head E0.out _ H6.out).mono ?_)
          rintro e w7 ⟨rfl, o⟩
          have H7 := Lib.hid ((H6.out.still o).still ((Only.refl none_ w7).alloc (.cells #[.int .i64 3, .int .i64 5, .int .i64 1, .int .i64 q, .int .u64 v] 38)))
          have B7 := Lib.hid ((Only.below_to B6.out o (Nat.le_refl _) (fun _ _ s => s)).alloc (Nat.le_trans B6.out.size o.size) (.cells #[.int .i64 3, .int .i64 5, .int .i64 1, .int .i64 q, .int .u64 v] 38))
          have X7 := Lib.hid (Row.fresh w7 38 #[.int .i64 3, .int .i64 5, .int .i64 1, .int .i64 q, .int .u64 v])
          clear o
          go_wp2_with fail
          generalize w7.alloc (.cells #[.int .i64 3, .int .i64 5, .int .i64 1, .int .i64 q, .int .u64 v] 38) = w7a at *
          generalize w7.heap.size = nx at *
          (with_reducible refine (pin_eq (FD.out q (by omega)) N1.out _ H7.out).mono ?_)
          rintro e w8 ⟨rfl, h, o⟩
          have H8 := Lib.hid h
          have B8 := Lib.hid (Only.below_to B7.out o (Nat.le_refl _) (fun i hi => by omega))
          clear h o
          go_wp2_with fail
          (with_reducible refine (doom_eq N2.out w8 H8.out).mono ?_)
          rintro e w9 ⟨rfl, h, o⟩
          have H9 := Lib.hid h
          have B9 := Lib.hid (Only.below_to B8.out o (Nat.le_refl _) (fun i hi => by omega))
          clear h o
          go_wp2_with fail
          (with_reducible refine (fill_eq N3.out w9 H9.out).mono ?_)
          rintro e w10 ⟨rfl, h, o⟩
          have H10 := Lib.hid h
          have B10 := Lib.hid (Only.below_to B9.out o (Nat.le_refl _) (fun i hi => by omega))
          clear h o
          go_wp2_with fail
          (with_reducible refine (unpin_eq (FD.out q (by omega)) N4.out w10 H10.out).mono ?_)
          rintro e w11 ⟨rfl, h, o⟩
          have H11 := Lib.hid h
          have B11 := Lib.hid (Only.below_to B10.out o (Nat.le_refl _) (fun i hi => by omega))
          clear h o
          go_wp2_with fail
          (with_reducible refine (unpin_eq (FD.out q (by omega)) N5.out w11 H11.out).mono ?_)
          rintro e w12 ⟨rfl, h, o⟩
          have H12 := Lib.hid h
          have B12 := Lib.hid (Only.below_to B11.out o (Nat.le_refl _) (fun i hi => by omega))
          clear h o
          go_wp2_with fail
          go_roundw
          case rel => exact ⟨q - 1, by omega, by go_num, H12.out, B12.out⟩
          case measure => simp [intOf]; omega
        · obtain rfl : q = 0 := by omega
          have E0 := Lib.hid (show (one k (dying (0 : Nat) v))[0]? = some ⟨0, 0, 1, 0, 0⟩ from rfl)
          have E1 := Lib.hid (show pinned (one k (dying (0 : Nat) v)) = 0 from one_pinned k _)
          go_wp2_with fail
          (with_reducible refine (frame_head E0.out _ H6.out).mono ?_)
          rintro e w7 ⟨rfl, o⟩
          have H7 := Lib.hid ((H6.out.still o).still ((Only.refl none_ w7).alloc (.cells #[.int .i64 0, .int .i64 0, .int .i64 1, .int .i64 0, .int .u64 0] 38)))
          have B7 := Lib.hid ((Only.below_to B6.out o (Nat.le_refl _) (fun _ _ s => s)).alloc (Nat.le_trans B6.out.size o.size) (.cells #[.int .i64 0, .int .i64 0, .int .i64 1, .int .i64 0, .int .u64 0] 38))
          clear o
          go_wp2_with fail
          (with_reducible refine (pins_eq (FD.out 0 (by omega)) E1.out _ H7.out).mono ?_)
          rintro e w8 ⟨rfl, o⟩
          have H8 := Lib.hid (H7.out.still o)
          have B8 := Lib.hid (Only.below_to B7.out o (Nat.le_refl _) (fun _ _ s => s))
          clear o
          go_wp2_with fail
          (with_reducible refine (unpin_eq (FD.out 0 (by omega)) (dying_gone k v) w8 H8.out).mono ?_)
          rintro e w9 ⟨rfl, h, o⟩
          have B9 := Lib.hid (Only.below_to B8.out o (Nat.le_refl _) (fun i hi => by omega))
          clear h o
          go_wp2_with fail
          go_ret
          exact ⟨by simp, B9.out⟩


set_option maxRecDepth 100000 in
theorem lifted (os : Os) (started : os.Started) (H : Type) (enc : TypeId × Value → H) :
    ReturnsInHanded {} Try.checked os 7 .any (Rows.poolPinsSpec.pre6 enc Try.prog Try.f7 Rows.poolPinsRow.domain false) (Rows.poolPinsSpec.post enc Try.prog Try.f7 false true false false) := by
  refine returnsInHanded_of_change (C := Try.checked) own started (by kernel_rfl) Try.func7
    (ChangeSpec.witness6 (enc := enc) (C := Try.checked) false ⟨#[], #[.int .u8 0, .int .u8 0, .int .u64 0], []⟩ 8 (by kernel_rfl) (by kernel_rfl) (by kernel_rfl) (by kernel_rfl)) ?_
  intro W base args ds gs before hval0 hW hcnd _
  have hval : ∀ (j : Nat) t v, Try.f7.params[j]? = some t → args[j]? = some v → Value.okWide Try.prog W .any base t v := hval0
  have hW' := hW
  obtain ⟨p, q, hA0, hV, rfl, hfz, hnd⟩ := hW
  have hA : DataW.TrodAll enc Try.prog W 0 (fun _ => true) true Try.f7.params.toList args.toList ds p := hA0
  rw [Try.params7] at hA hval
  obtain ⟨v0, vs0, d0, ds0, p0, q0, hargs, rfl, rfl, h0, r0⟩ := trodAll_cons hA
  obtain ⟨v1, vs1, d1, ds1, p1, q1, rfl, rfl, rfl, h1, r1⟩ := trodAll_cons r0
  obtain ⟨v2, vs2, d2, ds2, p2, q2, rfl, rfl, rfl, h2, r2⟩ := trodAll_cons r1
  obtain ⟨rfl, rfl, rfl⟩ := trodAll_nil r2
  obtain rfl : args = #[v0, v1, v2] := by cases args; simp_all
  obtain ⟨rfl, rfl⟩ := trodVars_none hV
  obtain ⟨a0, rfl, rfl, rfl, w0⟩ := open_int Try.underlying5 (hval 0 5 v0 rfl rfl) h0
  obtain ⟨a1, rfl, rfl, rfl, w1⟩ := open_int Try.underlying5 (hval 1 5 v1 rfl rfl) h1
  obtain ⟨a2, rfl, rfl, rfl, w2⟩ := open_int Try.underlying31 (hval 2 31 v2 rfl rfl) h2
  have shut : ∀ W', Below W.heap.size W W' → DataW.TrodAll enc Try.prog W' 0 (fun b => decide (b < W.heap.size)) true [5, 5, 31] [.int .u8 a0, .int .u8 a1, .int .u64 a2] [.lit (.int .u8 a0), .lit (.int .u8 a1), .lit (.int .u64 a2)] ([] ++ ([] ++ ([] ++ []))) := fun W' bel =>
    (trodAll_cons_mk (shut_int Try.underlying5 w0) (trodAll_cons_mk (shut_int Try.underlying5 w1) (trodAll_cons_mk (shut_int Try.underlying31 w2) trodAll_mk0)))
  clear hA0 hval0
  refine (walk W a0 w0 a1 w1 a2 w2).mono fun e W' ⟨he, bel⟩ => ?_
  subst he
  simp only [List.append_nil] at hW' shut
  exact ⟨_, rfl, _, _, _, [], [], [], hW', trodAll_mk1 (shut_bool Try.underlying4 _), shut W' bel, rfl, bel.frame _, fun h => by cases h⟩

theorem over : Rows.poolPinsRow.holds Try.pinned (OpenSpec.ofChange Rows.poolPinsSpec) :=
  OpenClaim.holds_of_wide 7 Try.f7 rfl rfl rfl rfl rfl rfl rfl ⟨rfl, rfl, rfl, rfl, rfl⟩ rfl rfl rfl rfl rfl (by kernel_rfl) Try.func7 (by kernel_rfl)
    (of_decide_eq_true (by kernel_rfl)) (by unfold Func.isWrapper; first | (rw [if_pos (by decide +kernel)]; kernel_rfl) | (rw [if_neg (by decide +kernel)]; exact ⟨rfl, rfl⟩))
    (fun os started H enc _ => lifted os started H enc)

theorem poolPins_holds : Rows.PoolPinsSaid := over
#print axioms poolPins_holds
end Go.Proofs.Ytllbdkjbcadeoaa.poolPins

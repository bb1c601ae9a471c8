/- Proved: the statement SarcPulls of layer 7, for every count of frames, every bottom and row of misses, on no condition. -/
import Derived.Test.YtpmhpamajkhhiaaRows
import Derived.WalkKit
import Derived.ProofKit
import Derived.OpenShut
import Derived.Below
import Derived.Test.YtpmhpamajkhhiaaArgs
import Derived.Test.YtpmhpamajkhhiaaLaw7
namespace Go.Proofs.Ytpmhpamajkhhiaa.sarcPulls
open Go.ChangeShapes Go.WideShapes Go.ChangeAt Go.RowKit
set_option linter.unusedVariables false

theorem own : ownKnob Try.prog.godebug = none := by kernel_rfl
theorem laidOut : laidOutB Try.prog = true := by kernel_rfl

set_option maxHeartbeats 4000000 in
set_option maxRecDepth 100000 in
theorem walk (w : World) (a : Int) (wa : (Lit.int .u8 a).wf = true) (bo : Int) (wb : (Lit.int .u8 bo).wf = true) (A : Option Addr) (len cap : Nat) (xs : List Bool) (hmax : len ≤ maxLen) (hlen : xs.length = len) (hold : Holds w A 1 boolC xs) (_ : ∀ a ∈ xs, True) :
    Calls Try.prog 5 #[.int .u8 a, .int .u8 bo, .slice A len cap] w fun e w' => e = .returned (.bool true) ∧ Below w.heap.size w w' := by
  obtain ⟨la, ua⟩ := bd_u8 wa
  obtain ⟨lb0, ub0⟩ := bd_u8 wb
  clear wa wb
  unfold maxLen at hmax
  have HL := Lib.hid hlen
  have HO := Lib.hid hold
  clear hlen hold
  obtain ⟨N, hN, n1, n64⟩ := count_of a la
  obtain ⟨T, hT, t1, tN⟩ := bot_of bo N lb0 n1
  have nz : ((N : Int) == 0) = false := by simp; omega
  have nz2 : (N : Int) ≠ 0 := by omega
  have nz3 : ¬ N = 0 := by omega
  have NW := Lib.hid (fun w => snew_yes N T w t1 tN n64)
  go_enter Try.func5, Try.ntmps5
  go_wp2_with fail
  (with_reducible refine (awake_any _).mono ?_)
  rintro e w1 ⟨rfl, b1⟩
  have B1 := Lib.hid b1
  clear b1
  go_wp2_with fail
  (with_reducible refine (NW.out _).mono ?_)
  rintro e w2 ⟨P, p, b, rfl, h, lP, lp, lb, o⟩
  have H2 := Lib.hid (show SLies w2 P p b (pc N T 0 0) from h)
  have B2 := Lib.hid (Only.below_to B1.out o (Nat.le_refl _) (fun _ _ s => s))
  have lP' : w.heap.size ≤ P := Nat.le_trans B1.out.size lP
  have lb' : w.heap.size ≤ b := Nat.le_trans B1.out.size lb
  clear h o lP lp lb B1
  go_wp2_with fail
  go_loopw [10, 11, 12] (fun u m i wr => ∃ (j want miss : Nat), j ≤ len ∧ j ≤ 300 ∧ i = .int .i64 j ∧ u = .int .i64 want ∧ m = .int .u64 miss ∧ want ≤ N ∧ miss < 64 ∧ SLies wr P p b (pc N T want miss) ∧ Below w.heap.size w wr) (fun _ _ i _ => len - (intOf i).toNat)
  case atStart => exact ⟨0, 0, 0, Nat.zero_le _, Nat.zero_le _, rfl, rfl, rfl, Nat.zero_le _, by decide, H2.out, B2.out⟩
  case round =>
    obtain ⟨j, want, miss, hj, hj2, rfl, rfl, rfl, hw, hm, h, bl⟩ := hrel
    clear H2 B2
    have H := Lib.hid h
    have B := Lib.hid bl
    clear h bl
    have t12 : (j < len ∧ j < 300) ∨ (j < len ∧ 300 ≤ j) ∨ len ≤ j := by omega
    rcases t12 with ⟨q1, q2⟩ | q1
    · obtain ⟨x, hx⟩ : ∃ x, xs[j]? = some x := ⟨_, List.getElem?_eq_getElem (by rw [HL.out]; exact q1)⟩
      obtain ⟨sb, so, hA, hsb, c0⟩ := bool_at HO.out B.out hx
      subst hA
      clear hx
      cases x with
      | false =>
        have MS := miss_any P p b _ 1 wr H.out
        rw [show missC 1 = 0 from by decide, show (pc N T want miss).missS 1 = pc N T want miss from rfl] at MS
        replace MS := Lib.hid MS
        go_wp2_with fail
        (with_reducible refine (MS.out).mono ?_)
        rintro e w3 ⟨rfl, h3, o3⟩
        have H3 := Lib.hid h3
        have B3 := Lib.hid (below_set B.out o3 lP' lb')
        clear h3 o3 MS c0
        go_wp2_with fail
        (with_reducible refine (pol_any P p b _ w3 H3.out).mono ?_)
        rintro e w4 ⟨a0, n0, k0, a1, n1', k1, a2, n2, k2, rfl, _, _, _, o4⟩
        have oa := (Only.refl none_ w4).alloc (.cells #[.slice a0 n0 k0, .slice a1 n1' k1, .slice a2 n2 k2, .int .i64 (want : Nat), .int .u64 (miss : Nat), .int .u64 0] 39)
        have B4 := Lib.hid (below_on7 B3.out o4)
        have H4 := Lib.hid ((H3.out.on o4).still oa)
        have B5 := Lib.hid (Only.below_to B4.out oa (Nat.le_refl _) (fun _ _ s => s))
        clear o4 oa H3 B3
        simp only [show (pc N T (want) (miss)).want = want from rfl, show (pc N T (want) (miss)).miss = miss from rfl, show (pc N T (want) (miss)).hits = 0 from rfl]
        go_wp2_with fail
        go_roundw
        case rel => exact ⟨j + 1, want, miss, by omega, by omega, by go_num, by go_num, by go_num, by omega, by omega, H4.out, B5.out⟩
        case measure => simp [intOf]; omega
      | true =>
        obtain ⟨W', hW⟩ : ∃ W' : Nat, min (want + 1) N = W' := ⟨_, rfl⟩
        have eW : min ((want : Int) + 1) (N : Int) = (W' : Int) := by omega
        have W'N : W' ≤ N := by omega
        have MS := miss_any P p b _ 0 wr H.out
        rw [show missC 0 = 0 from by decide, pc_miss t1 hm hw, hW] at MS
        have uw : IntKind.i64.wrap ((want : Int) + 1) = (want : Int) + 1 := by rw [IntKind.wrap_i64]; omega
        have um : IntKind.u64.wrap ((miss : Int) + 1) = (miss : Int) + 1 := by rw [IntKind.wrap_u64]; omega
        by_cases q : miss + 1 = 64
        · rw [if_pos q] at MS
          have dm : (((miss : Int) + 1) == 64) = true := by simp; omega
          obtain rfl : miss = 63 := by omega
          replace MS := Lib.hid MS
          clear hW dm q
          go_wp2_with fail
          (with_reducible refine (MS.out).mono ?_)
          rintro e w3 ⟨rfl, h3, o3⟩
          have H3 := Lib.hid h3
          have B3 := Lib.hid (below_set B.out o3 lP' lb')
          clear h3 o3 MS c0
          go_wp2_with fail
          (with_reducible refine (pol_any P p b _ w3 H3.out).mono ?_)
          rintro e w4 ⟨a0, n0, k0, a1, n1', k1, a2, n2, k2, rfl, _, _, _, o4⟩
          have oa := (Only.refl none_ w4).alloc (.cells #[.slice a0 n0 k0, .slice a1 n1' k1, .slice a2 n2 k2, .int .i64 (W' : Nat), .int .u64 (32 : Nat), .int .u64 0] 39)
          have B4 := Lib.hid (below_on7 B3.out o4)
          have H4 := Lib.hid ((H3.out.on o4).still oa)
          have B5 := Lib.hid (Only.below_to B4.out oa (Nat.le_refl _) (fun _ _ s => s))
          clear o4 oa H3 B3
          simp only [show (pc N T (W') (32)).want = W' from rfl, show (pc N T (W') (32)).miss = 32 from rfl, show (pc N T (W') (32)).hits = 0 from rfl]
          go_wp2_with fail
          go_roundw
          case rel => exact ⟨j + 1, W', 32, by omega, by omega, by go_num, by go_num, by go_num, by omega, by omega, H4.out, B5.out⟩
          case measure => simp [intOf]; omega
        · rw [if_neg q] at MS
          have dm : (((miss : Int) + 1) == 64) = false := by simp; omega
          have MS2 := Lib.hid (show Calls Try.prog 20 #[.pointer (some ⟨P, 0, none⟩), .int .i64 0] wr fun e w' => e = .returned (.int .i64 0) ∧ SLies w' P p b (pc N T W' (miss + 1)) ∧ Only (two P b) wr w' from MS)
          clear hW MS
          have MS := MS2
          clear MS2
          go_wp2_with fail
          (with_reducible refine (MS.out).mono ?_)
          rintro e w3 ⟨rfl, h3, o3⟩
          have H3 := Lib.hid h3
          have B3 := Lib.hid (below_set B.out o3 lP' lb')
          clear h3 o3 MS c0
          go_wp2_with fail
          (with_reducible refine (pol_any P p b _ w3 H3.out).mono ?_)
          rintro e w4 ⟨a0, n0, k0, a1, n1', k1, a2, n2, k2, rfl, _, _, _, o4⟩
          have oa := (Only.refl none_ w4).alloc (.cells #[.slice a0 n0 k0, .slice a1 n1' k1, .slice a2 n2 k2, .int .i64 (W' : Nat), .int .u64 ((miss + 1) : Nat), .int .u64 0] 39)
          have B4 := Lib.hid (below_on7 B3.out o4)
          have H4 := Lib.hid ((H3.out.on o4).still oa)
          have B5 := Lib.hid (Only.below_to B4.out oa (Nat.le_refl _) (fun _ _ s => s))
          clear o4 oa H3 B3
          simp only [show (pc N T (W') ((miss + 1))).want = W' from rfl, show (pc N T (W') ((miss + 1))).miss = (miss + 1) from rfl, show (pc N T (W') ((miss + 1))).hits = 0 from rfl]
          go_wp2_with fail
          go_roundw
          case rel => exact ⟨j + 1, W', (miss + 1), by omega, by omega, by go_num, by go_num, by go_num, by omega, by omega, H4.out, B5.out⟩
          case measure => simp [intOf]; omega
    · rcases q1 with ⟨q1, q2⟩ | q1
      all_goals
        go_wp2_with fail
        go_ret
        exact ⟨rfl, B.out⟩

set_option maxRecDepth 100000 in
theorem lifted (os : Os) (started : os.Started) (H : Type) (enc : TypeId × Value → H) :
    ReturnsInHanded {} Try.checked os 5 .any (Rows.sarcPullsSpec.pre6 enc Try.prog Try.f5 Rows.sarcPullsRow.domain false) (Rows.sarcPullsSpec.post enc Try.prog Try.f5 false true false false) := by
  refine returnsInHanded_of_change (C := Try.checked) own started (by kernel_rfl) Try.func5
    (ChangeSpec.witness6 (enc := enc) (C := Try.checked) false ⟨#[], #[.int .u8 0, .int .u8 0, .slice none 0 0], []⟩ 8 (by kernel_rfl) (by kernel_rfl) (by kernel_rfl) (by kernel_rfl)) ?_
  intro W base args ds gs before hval0 hW hcnd _
  have hval : ∀ (j : Nat) t v, Try.f5.params[j]? = some t → args[j]? = some v → Value.okWide Try.prog W .any base t v := hval0
  have hW' := hW
  obtain ⟨p, q, hA0, hV, rfl, hfz, hnd⟩ := hW
  have hA : DataW.TrodAll enc Try.prog W 0 (fun _ => true) true Try.f5.params.toList args.toList ds p := hA0
  rw [Try.params5] at hA hval
  obtain ⟨v0, vs0, d0, ds0, p0, q0, hargs, rfl, rfl, h0, r0⟩ := trodAll_cons hA
  obtain ⟨v1, vs1, d1, ds1, p1, q1, rfl, rfl, rfl, h1, r1⟩ := trodAll_cons r0
  obtain ⟨v2, vs2, d2, ds2, p2, q2, rfl, rfl, rfl, h2, r2⟩ := trodAll_cons r1
  obtain ⟨rfl, rfl, rfl⟩ := trodAll_nil r2
  obtain rfl : args = #[v0, v1, v2] := by cases args; simp_all
  obtain ⟨rfl, rfl⟩ := trodVars_none hV
  obtain ⟨a0, rfl, rfl, rfl, w0⟩ := open_int Try.underlying5 (hval 0 5 v0 rfl rfl) h0
  obtain ⟨a1, rfl, rfl, rfl, w1⟩ := open_int Try.underlying5 (hval 1 5 v1 rfl rfl) h1
  have k2 := h2
  have lt2 : ∀ x ∈ p2, x.block < W.heap.size := by obtain ⟨m, hm⟩ := k2; exact DataW.trod_lt m _ _ _ hm
  obtain ⟨ad2, len2, cap2, rfl⟩ := okWide_slice Try.underlying47 (hval 2 47 v2 rfl rfl)
  obtain ⟨fuel2, hf2⟩ := h2
  obtain ⟨max2, xs2, el2, hold2, wf2⟩ := open_bools hf2
  have shut : ∀ W', Below W.heap.size W W' → DataW.TrodAll enc Try.prog W' 0 (fun b => decide (b < W.heap.size)) true [5, 5, 47] [.int .u8 a0, .int .u8 a1, .slice ad2 len2 cap2] [.lit (.int .u8 a0), .lit (.int .u8 a1), d2] ([] ++ ([] ++ (p2 ++ []))) := fun W' bel =>
    (trodAll_cons_mk (shut_int Try.underlying5 w0) (trodAll_cons_mk (shut_int Try.underlying5 w1) (trodAll_cons_mk (Below.trod laidOut (by kernel_rfl) (of_decide_eq_true (by kernel_rfl)) k2 bel lt2) trodAll_mk0)))
  clear hA0 hval0
  refine (walk W a0 w0 a1 w1 ad2 len2 cap2 xs2 max2 el2 hold2 wf2).mono fun e W' ⟨he, bel⟩ => ?_
  subst he
  exact ⟨_, rfl, _, _, _, [], _, [], hW', trodAll_mk1 (shut_bool Try.underlying4 _), shut W' bel, rfl, bel.frame _, fun h => by cases h⟩

theorem over : Rows.sarcPullsRow.holds Try.pinned (OpenSpec.ofChange Rows.sarcPullsSpec) :=
  OpenClaim.holds_of_wide 5 Try.f5 rfl rfl rfl rfl rfl rfl rfl ⟨rfl, rfl, rfl, rfl, rfl⟩ rfl rfl rfl rfl rfl (by kernel_rfl) Try.func5 (by kernel_rfl)
    (of_decide_eq_true (by kernel_rfl)) (by unfold Func.isWrapper; first | (rw [if_pos (by decide +kernel)]; kernel_rfl) | (rw [if_neg (by decide +kernel)]; exact ⟨rfl, rfl⟩))
    (fun os started H enc _ => lifted os started H enc)

theorem sarcPulls_holds : Rows.SarcPullsSaid := over
#print axioms sarcPulls_holds
end Go.Proofs.Ytpmhpamajkhhiaa.sarcPulls

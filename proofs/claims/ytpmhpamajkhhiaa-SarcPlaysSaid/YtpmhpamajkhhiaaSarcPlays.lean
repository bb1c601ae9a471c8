/- Proved: the statement SarcPlays of layer 7, for every count of frames, every bottom and row of steps, on no condition. -/
import Derived.Test.YtpmhpamajkhhiaaRows
import Derived.WalkKit
import Derived.ProofKit
import Derived.OpenShut
import Derived.Below
import Derived.Test.YtpmhpamajkhhiaaArgs
import Derived.Test.YtpmhpamajkhhiaaBoth7
namespace Go.Proofs.Ytpmhpamajkhhiaa.sarcPlays
open Go.ChangeShapes Go.WideShapes Go.ChangeAt Go.RowKit
set_option linter.unusedVariables false

theorem own : ownKnob Try.prog.godebug = none := by kernel_rfl
theorem laidOut : laidOutB Try.prog = true := by kernel_rfl

set_option maxHeartbeats 4000000 in
set_option maxRecDepth 100000 in
theorem walk (w : World) (n : Int) (wn : (Lit.int .i64 n).wf = true) (bot : Int) (wb : (Lit.int .i64 bot).wf = true) (A : Option Addr) (len cap : Nat) (xs : List Act1) (hmax : len ≤ maxLen) (hlen : xs.length = len) (hold : Holds w A 3 Act1.cells xs) (_ : ∀ a ∈ xs, True) :
    Calls Try.prog 3 #[.int .i64 n, .int .i64 bot, .slice A len cap] w fun e w' => e = .returned (.bool true) ∧ Below w.heap.size w w' := by
  clear wn wb
  unfold maxLen at hmax
  have HL := Lib.hid hlen
  have HO := Lib.hid hold
  clear hlen hold
  have MA := may_ref n bot
  cases hmay : mayB n bot with
  | false =>
    rw [hmay] at MA
    replace MA := Lib.hid MA
    have NO := Lib.hid (fun w => snew_no n bot w (fun h => by unfold mayB at hmay; simp at hmay; omega))
    clear hmay
    go_enter Try.func3, Try.ntmps3
    go_wp2_with fail
    (with_reducible refine (awake_any _).mono ?_)
    rintro e w1 ⟨rfl, b1⟩
    have B1 := Lib.hid b1
    clear b1
    go_wp2_with fail
    (with_reducible refine (NO.out _).mono ?_)
    rintro e w' ⟨rfl, rfl⟩
    go_wp2_with fail
    (with_reducible refine (MA.out _).mono ?_)
    rintro e w' ⟨rfl, rfl⟩
    go_wp2_with fail
    go_ret
    exact ⟨rfl, B1.out⟩
  | true =>
    have hm : 1 ≤ n ∧ n ≤ 64 ∧ 1 ≤ bot ∧ bot ≤ n := of_decide_eq_true hmay
    obtain ⟨N, rfl⟩ : ∃ N : Nat, n = N := ⟨n.toNat, by omega⟩
    obtain ⟨T, rfl⟩ : ∃ T : Nat, bot = T := ⟨bot.toNat, by omega⟩
    have n1 : 1 ≤ T := by omega
    have n2 : T ≤ N := by omega
    have n3 : N ≤ 64 := by omega
    rw [hmay] at MA
    replace MA := Lib.hid MA
    clear hmay hm
    go_enter Try.func3, Try.ntmps3
    go_wp2_with fail
    (with_reducible refine (awake_any _).mono ?_)
    rintro e w1 ⟨rfl, b1⟩
    have B1 := Lib.hid b1
    clear b1
    go_wp2_with fail
    (with_reducible refine ((snew_yes N T _ n1 n2 n3)).mono ?_)
    rintro e w2 ⟨P, p, b, rfl, h, lP, lp, lb, o⟩
    have H2 := Lib.hid h
    have B2 := Lib.hid (Only.below_to B1.out o (Nat.le_refl _) (fun _ _ s => s))
    have lP' : w.heap.size ≤ P := Nat.le_trans B1.out.size lP
    have lb' : w.heap.size ≤ b := Nat.le_trans B1.out.size lb
    clear h o lP lp lb B1
    go_wp2_with fail
    (with_reducible refine (MA.out _).mono ?_)
    rintro e w' ⟨rfl, rfl⟩
    go_wp2_with fail
    (with_reducible refine ((snew_ref N T _ n1 n2 n3)).mono ?_)
    rintro e w3 ⟨r, q, hb, base, rfl, h, lr, lq, lh, lb, k1, k2, k3, k4, o⟩
    have H3 := Lib.hid (Both.made H2.out h lr lq lh lb o)
    have B3 := Lib.hid (Only.below_to B2.out o (Nat.le_refl _) (fun _ _ s => s))
    have lr' : w.heap.size ≤ r := Nat.le_trans B2.out.size lr
    have lq' : w.heap.size ≤ q := Nat.le_trans B2.out.size lq
    have lh' : w.heap.size ≤ hb := Nat.le_trans B2.out.size lh
    have lba : w.heap.size ≤ base := Nat.le_trans B2.out.size lb
    clear h o lr lq lh lb k1 k2 k3 k4 B2 H2
    go_wp2_with fail
    go_loopw [10] (fun i wr => ∃ (j : Nat) (c : Sc), j ≤ len ∧ j ≤ 150 ∧ i = .int .i64 j ∧ Both wr P p b r q hb (fun g => base ≤ g) c c ∧ c.us.length ≤ j ∧ Below w.heap.size w wr) (fun i _ => len - (intOf i).toNat)
    case atStart => exact ⟨0, newSc N T, Nat.zero_le _, Nat.zero_le _, rfl, H3.out, Nat.zero_le _, B3.out⟩
    case round =>
      obtain ⟨j, c, hj, hj2, rfl, h, us, bl⟩ := hrel
      clear H3 B3
      have H := Lib.hid h
      have B := Lib.hid bl
      clear h bl
      have us1 : c.us.length < 1000000 := by omega
      have t12 : (j < len ∧ j < 150) ∨ (j < len ∧ 150 ≤ j) ∨ len ≤ j := by omega
      rcases t12 with ⟨t1, t2⟩ | t1
      · obtain ⟨act, hact⟩ : ∃ act, xs[j]? = some act := ⟨_, List.getElem?_eq_getElem (by rw [HL.out]; exact t1)⟩
        obtain ⟨sb, so, hA, hsb, c0, c1, c2⟩ := act_at HO.out B.out hact
        subst hA
        have ST := Lib.hid (step_any P p b r q hb _ c c act wr H.out us1 us1)
        have us2 := stepS_us H.out.one.fine act
        have us3 : (stepS c act).us.length < 1000000 := by omega
        clear hact
        go_wp2_with fail
        (with_reducible refine (ST.out).mono ?_)
        rintro e w4 ⟨t, rfl, ht, h4, o4⟩
        obtain rfl := ht rfl
        have B4 := Lib.hid (Only.below_to B.out o4 (Nat.le_refl _) (fun i hi e => by unfold six two rset at e; omega))
        have H4 := Lib.hid h4
        clear h4 o4 ht ST c0 c1 c2
        go_wp2_with fail
        (with_reducible refine (pol_any P p b _ w4 H4.out.one).mono ?_)
        rintro e w5 ⟨a0, n0, k0, a1, n1', k1, a2, n2', k2, rfl, t0, t1, t2, o5⟩
        have B5 := Lib.hid (below_on7 B4.out o5)
        have H5 := Lib.hid (H4.out.still (below_only o5))
        have SM := Lib.hid (psame_lit r q hb _ _ w5 H5.out.two_ us3 _ _ _ _ _ _ _ _ _ _ _ _ t0 t1 t2)
        clear t0 t1 t2 o5
        go_wp2_with fail
        (with_reducible refine (SM.out).mono ?_)
        rintro e w6 ⟨rfl, o6⟩
        have B6 := Lib.hid (Only.below_to B5.out o6 (Nat.le_refl _) (fun _ _ s => s))
        have H6 := Lib.hid (H5.out.still o6)
        clear o6 SM
        have RM := Lib.hid (room_any P p b _ w6 H6.out.one)
        go_wp2_with fail
        (with_reducible refine (RM.out).mono ?_)
        rintro e w7 ⟨rfl, o7⟩
        have B7 := Lib.hid (below_on7 B6.out o7)
        have H7 := Lib.hid (H6.out.still (below_only o7))
        have RR := Lib.hid (room_ref r q hb _ _ w7 H7.out.two_)
        clear o7 RM
        go_wp2_with fail
        (with_reducible refine (RR.out).mono ?_)
        rintro e w8 ⟨rfl, o8⟩
        have B8 := Lib.hid (Only.below_to B7.out o8 (Nat.le_refl _) (fun _ _ s => s))
        have H8 := Lib.hid (H7.out.still o8)
        clear o8 RR
        go_wp2_with fail
        go_roundw
        case rel => exact ⟨j + 1, stepS c act, by omega, by omega, by go_num, H8.out, by omega, B8.out⟩
        case measure => simp [intOf]; omega
      · rcases t1 with ⟨t1, t2⟩ | t1
        all_goals
          go_wp2_with fail
          (with_reducible refine (pol_any P p b _ wr H.out.one).mono ?_)
          rintro e w5 ⟨a0, n0, k0, a1, n1', k1, a2, n2', k2, rfl, t0, t1, t2, o5⟩
          have B5 := Lib.hid (below_on7 B.out o5)
          have H5 := Lib.hid (H.out.still (below_only o5))
          have SM := Lib.hid (psame_lit r q hb _ _ w5 H5.out.two_ us1 _ _ _ _ _ _ _ _ _ _ _ _ t0 t1 t2)
          clear t0 t1 t2 o5
          go_wp2_with fail
          (with_reducible refine (SM.out).mono ?_)
          rintro e w6 ⟨rfl, o6⟩
          have B6 := Lib.hid (Only.below_to B5.out o6 (Nat.le_refl _) (fun _ _ s => s))
          have H6 := Lib.hid (H5.out.still o6)
          clear o6 SM
          go_wp2_with fail
          go_ret
          exact ⟨rfl, B6.out⟩

set_option maxRecDepth 100000 in
theorem lifted (os : Os) (started : os.Started) (H : Type) (enc : TypeId × Value → H) :
    ReturnsInHanded {} Try.checked os 3 .any (Rows.sarcPlaysSpec.pre6 enc Try.prog Try.f3 Rows.sarcPlaysRow.domain false) (Rows.sarcPlaysSpec.post enc Try.prog Try.f3 false true false false) := by
  refine returnsInHanded_of_change (C := Try.checked) own started (by kernel_rfl) Try.func3
    (ChangeSpec.witness6 (enc := enc) (C := Try.checked) false ⟨#[], #[.int .i64 0, .int .i64 0, .slice none 0 0], []⟩ 8 (by kernel_rfl) (by kernel_rfl) (by kernel_rfl) (by kernel_rfl)) ?_
  intro W base args ds gs before hval0 hW hcnd _
  have hval : ∀ (j : Nat) t v, Try.f3.params[j]? = some t → args[j]? = some v → Value.okWide Try.prog W .any base t v := hval0
  have hW' := hW
  obtain ⟨p, q, hA0, hV, rfl, hfz, hnd⟩ := hW
  have hA : DataW.TrodAll enc Try.prog W 0 (fun _ => true) true Try.f3.params.toList args.toList ds p := hA0
  rw [Try.params3] at hA hval
  obtain ⟨v0, vs0, d0, ds0, p0, q0, hargs, rfl, rfl, h0, r0⟩ := trodAll_cons hA
  obtain ⟨v1, vs1, d1, ds1, p1, q1, rfl, rfl, rfl, h1, r1⟩ := trodAll_cons r0
  obtain ⟨v2, vs2, d2, ds2, p2, q2, rfl, rfl, rfl, h2, r2⟩ := trodAll_cons r1
  obtain ⟨rfl, rfl, rfl⟩ := trodAll_nil r2
  obtain rfl : args = #[v0, v1, v2] := by cases args; simp_all
  obtain ⟨rfl, rfl⟩ := trodVars_none hV
  obtain ⟨a0, rfl, rfl, rfl, w0⟩ := open_int Try.underlying3 (hval 0 3 v0 rfl rfl) h0
  obtain ⟨a1, rfl, rfl, rfl, w1⟩ := open_int Try.underlying3 (hval 1 3 v1 rfl rfl) h1
  have k2 := h2
  have lt2 : ∀ x ∈ p2, x.block < W.heap.size := by obtain ⟨m, hm⟩ := k2; exact DataW.trod_lt m _ _ _ hm
  obtain ⟨ad2, len2, cap2, rfl⟩ := okWide_slice Try.underlying22 (hval 2 22 v2 rfl rfl)
  obtain ⟨fuel2, hf2⟩ := h2
  obtain ⟨max2, xs2, el2, hold2, wf2⟩ := open_acts hf2
  have shut : ∀ W', Below W.heap.size W W' → DataW.TrodAll enc Try.prog W' 0 (fun b => decide (b < W.heap.size)) true [3, 3, 22] [.int .i64 a0, .int .i64 a1, .slice ad2 len2 cap2] [.lit (.int .i64 a0), .lit (.int .i64 a1), d2] ([] ++ ([] ++ (p2 ++ []))) := fun W' bel =>
    (trodAll_cons_mk (shut_int Try.underlying3 w0) (trodAll_cons_mk (shut_int Try.underlying3 w1) (trodAll_cons_mk (Below.trod laidOut (by kernel_rfl) (of_decide_eq_true (by kernel_rfl)) k2 bel lt2) trodAll_mk0)))
  clear hA0 hval0
  refine (walk W a0 w0 a1 w1 ad2 len2 cap2 xs2 max2 el2 hold2 wf2).mono fun e W' ⟨he, bel⟩ => ?_
  subst he
  exact ⟨_, rfl, _, _, _, [], _, [], hW', trodAll_mk1 (shut_bool Try.underlying4 _), shut W' bel, rfl, bel.frame _, fun h => by cases h⟩

theorem over : Rows.sarcPlaysRow.holds Try.pinned (OpenSpec.ofChange Rows.sarcPlaysSpec) :=
  OpenClaim.holds_of_wide 3 Try.f3 rfl rfl rfl rfl rfl rfl rfl ⟨rfl, rfl, rfl, rfl, rfl⟩ rfl rfl rfl rfl rfl (by kernel_rfl) Try.func3 (by kernel_rfl)
    (of_decide_eq_true (by kernel_rfl)) (by unfold Func.isWrapper; first | (rw [if_pos (by decide +kernel)]; kernel_rfl) | (rw [if_neg (by decide +kernel)]; exact ⟨rfl, rfl⟩))
    (fun os started H enc _ => lifted os started H enc)

theorem sarcPlays_holds : Rows.SarcPlaysSaid := over
#print axioms sarcPlays_holds
end Go.Proofs.Ytpmhpamajkhhiaa.sarcPlays

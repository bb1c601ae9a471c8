/- Proved: the statement RingHeld of layer 6, for every count of nodes and every row of marks, on no condition. -/
import Derived.Test.YtgbccaplmafgkaaRows
import Derived.WalkKit
import Derived.ProofKit
import Derived.OpenShut
import Derived.Below
import Derived.Test.YtgbccaplmafgkaaArgs
import Derived.Test.YtgbccaplmafgkaaHeld6
namespace Go.Proofs.Ytgbccaplmafgkaa.ringHeld
open Go.ChangeShapes Go.WideShapes Go.ChangeAt Go.RowKit
set_option linter.unusedVariables false

theorem own : ownKnob Try.prog.godebug = none := by kernel_rfl
theorem laidOut : laidOutB Try.prog = true := by kernel_rfl

set_option maxHeartbeats 16000000 in
set_option maxRecDepth 100000 in
theorem walk (w : World) (a : Int) (wa : (Lit.int .u8 a).wf = true) (A : Option Addr) (len cap : Nat) (xs : List Bool) (hmax : len ≤ maxLen) (hlen : xs.length = len) (hold : Holds w A 1 boolC xs) (hwf : ∀ a ∈ xs, True) :
    Calls Try.prog 6 #[.int .u8 a, .slice A len cap] w fun e w' => e = .returned (.bool true) ∧ Below w.heap.size w w' := by
  obtain ⟨la, ua⟩ := bd_u8 wa
  clear wa
  unfold maxLen at hmax
  have HL := Lib.hid hlen
  have HO := Lib.hid hold
  clear hlen hold hwf
  obtain ⟨N, hN, n1, n64⟩ := count_of a la
  obtain ⟨i0, hy0, hz0, hz1, hz2⟩ := info_parts info_int8
  have I0 := Lib.hid hy0
  have I1 := Lib.hid hz0
  have I2 := Lib.hid hz1
  have I3 := Lib.hid hz2
  clear hy0 hz0 hz1 hz2
  obtain ⟨g, hg⟩ : ∃ g : Nat → Bool, ∀ j, g j = xs.getD j false := ⟨_, fun _ => rfl⟩
  have HG := Lib.hid hg
  clear hg
  go_enter Try.func6, Try.ntmps6
  go_wp2_with fail
  (with_reducible refine (awake_any _).mono ?_)
  rintro e w1 ⟨rfl, b1⟩
  have B1 := Lib.hid b1
  clear b1
  go_wp2_with fail
  (with_reducible refine (new_one N _ n1 n64).mono ?_)
  rintro e w2 ⟨p, b, rfl, h, kp, kb, o⟩
  have H2 := Lib.hid (show Lies w2 p b (gS g N 0 0) from by rw [gS_zero]; exact h)
  have B2 := Lib.hid (Only.below_to B1.out o (Nat.le_refl _) (fun _ _ s => s))
  have kb' : w.heap.size ≤ b := Nat.le_trans B1.out.size kb
  have bb : b < w2.heap.size := h.lt.2
  have BP := Lib.hid (show p < w2.heap.size from h.lt.1)
  have HZ := Lib.hid (show w.heap.size ≤ w2.heap.size from B2.out.size)
  clear h o kp kb B1 hN la ua
  go_wp2_with fail
  go_loopw [8, 9, 10] (fun v0 f i wr => ∃ (j : Nat) (v : Value), j ≤ N ∧ i = .int .i64 j ∧ f = .int .i64 (fI g j) ∧ v = v0 ∧ Lies wr p b (gS g N j j) ∧ OwnsInts wr w2.heap.size v (ints (gL g j)) ∧ w2.heap.size ≤ wr.heap.size ∧ Below w.heap.size w wr) (fun _ _ i _ => N - (intOf i).toNat)
  case atStart => exact ⟨0, _, Nat.zero_le _, rfl, rfl, rfl, H2.out, Owns.start _ _ _ _ _, Nat.le_refl _, B2.out⟩
  case round =>
    obtain ⟨j, v, hj, rfl, rfl, rfl, h, hv, hz, bl⟩ := hrel
    clear H2 B2
    have H := Lib.hid h
    have B := Lib.hid bl
    have V := Lib.hid hv
    clear h bl hv
    by_cases hlt : j < N
    · have FR := front_any p b (gS g N j j) 0 j wr H.out
      rw [gS_front g j hlt] at FR
      have FR := Lib.hid FR
      generalize (gS g N j j).frontC 0 j = fc at *
      go_wp2_with fail
      (with_reducible refine (FR.out).mono ?_)
      rintro e w3 ⟨rfl, h3, o3⟩
      have V3 := Lib.hid (V.out.keep o3 (fun g hg q => by have := (V.out.base_le hg).1; omega))
      have H3 := Lib.hid h3
      have B3 := Lib.hid (below_put B.out o3 kb')
      have hz3 : w2.heap.size ≤ w3.heap.size := Nat.le_trans hz o3.size
      clear h3 o3 FR H B V hz
      cases e : g j with
      | true =>
        have t1 : j < len := by
          have := HG.out j
          rw [e] at this
          rw [← HL.out]
          rcases Nat.lt_or_ge j xs.length with c | c
          · exact c
          · rw [List.getD_eq_getElem?_getD, List.getElem?_eq_none c] at this
            cases this
        have hx : xs[j]? = some true := by
          have := HG.out j
          rw [e, List.getD_eq_getElem?_getD, List.getElem?_eq_getElem (by rw [HL.out]; exact t1)] at this
          rw [List.getElem?_eq_getElem (by rw [HL.out]; exact t1)]
          simp at this
          rw [← this]
        obtain ⟨sb, so, hA, hsb, c0⟩ := bool_at HO.out B3.out hx
        subst hA
        have HD := hold_any p b (gS g N (j + 1) j) j true w3 H3.out
        rw [gS_hold g hlt e] at HD
        have HD := Lib.hid HD
        have FI := Lib.hid (fI_held e)
        have GL := gL_more g j
        rw [if_pos e] at GL
        have GL := Lib.hid GL
        have lg := gL_le g j
        clear hx e
        generalize (gS g N (j + 1) j).liesC j = lc at *
        go_wp2_with fail
        (with_reducible refine (HD.out).mono ?_)
        rintro e w4 ⟨rfl, h4, o4⟩
        have V4 := V3.out.keep o4 (fun g hg q => by have := (V3.out.base_le hg).1; omega)
        have H4 := Lib.hid h4
        have B4 := Lib.hid (below_put B3.out o4 kb')
        have hz4 : w2.heap.size ≤ w4.heap.size := Nat.le_trans hz3 o4.size
        have OO := (Only.refl none_ w4).alloc (.cells #[.int .i64 j] 3)
        have RF := Lib.hid (Row.fresh w4 3 #[.int .i64 j])
        have HW2 := Lib.hid (V4.still OO)
        have B5 := Lib.hid (Only.below_to B4.out OO (Nat.le_refl _) (fun _ _ s => s))
        have H5 := Lib.hid (H4.out.still OO)
        have O5 := Lib.hid OO
        have sz : w2.heap.size ≤ (w4.alloc (.cells #[.int .i64 j] 3)).heap.size := Nat.le_trans hz4 OO.size
        have l1 := Lib.hid (show (ints (gL g j)).length < 9223372036854775807 by rw [ints_len]; omega)
        have l2 := Lib.hid (show ((ints (gL g j)).length + 1) * 8 ≤ 140737488355328 by rw [ints_len]; omega)
        clear h4 o4 OO V4 HD H3 B3 V3 c0
        go_wp2_with (at_builtin; go_loud (refine wpList_append_one rfl (.tmp 50) (.tmp 52) 36 rfl (c := one) i0 _ 8 Try.underlying36 I0.out I1.out I2.out I3.out rfl (by decide) one1 one_one rfl HW2.out (y := (j : Int)) rfl RF.out l1.out l2.out sz ?_; intro v5 w5 hown5 hO5))
        rw [← ints_more, ← GL.out] at hown5
        have W5 := Lib.hid hown5
        have B6 := Lib.hid (Only.below_to B5.out hO5 (Nat.le_refl _) (fun i hi q => by have := HZ.out; omega))
        have H6 := Lib.hid (H5.out.keep hO5 (by have := BP.out; omega) (by omega))
        have hz6 : w2.heap.size ≤ w5.heap.size := Nat.le_trans sz hO5.size
        clear hown5 hO5
        go_wp2_with fail
        go_roundw
        case rel => exact ⟨j + 1, _, by omega, by go_num, by rw [FI.out], rfl, H6.out, W5.out, hz6, B6.out⟩
        case measure => simp [intOf]; omega
      | false =>
        have GL := gL_more g j
        rw [e] at GL
        rw [if_neg (by decide)] at GL
        have V4 := Lib.hid (show OwnsInts w3 w2.heap.size v (ints (gL g (j + 1))) from by rw [GL]; exact V3.out)
        have H4 := Lib.hid (show Lies w3 p b (gS g N (j + 1) (j + 1)) from by rw [← gS_skip g e]; exact H3.out)
        have FI := fI_free e
        have hx : (j < len ∧ xs[j]? = some false) ∨ len ≤ j := by
          rcases Nat.lt_or_ge j xs.length with c | c
          · refine .inl ⟨by rw [← HL.out]; exact c, ?_⟩
            have := HG.out j
            rw [e, List.getD_eq_getElem?_getD, List.getElem?_eq_getElem c] at this
            rw [List.getElem?_eq_getElem c]
            simp at this
            rw [← this]
          · exact .inr (by rw [← HL.out]; exact c)
        have fc' := fI_cases g j
        clear GL e V3 H3
        rcases hx with ⟨t1, hx⟩ | t1
        · obtain ⟨sb, so, hA, hsb, c0⟩ := bool_at HO.out B3.out hx
          subst hA
          clear hx
          rcases fc' with ⟨fe, _⟩ | ⟨q, hq, _, fe, _⟩
          · rw [fe, if_pos (by decide)] at FI
            rw [fe]
            have FI := Lib.hid FI
            clear fe
            go_wp2_with fail
            go_roundw
            case rel => exact ⟨j + 1, _, by omega, by go_num, by rw [FI.out], rfl, H4.out, V4.out, hz3, B3.out⟩
            case measure => simp [intOf]; omega
          · rw [fe, if_neg (by omega)] at FI
            rw [fe]
            have FI := Lib.hid FI
            clear fe
            have q0 : decide ((q : Int) < 0) = false := by simp
            go_wp2_with fail
            go_roundw
            case rel => exact ⟨j + 1, _, by omega, by go_num, by rw [FI.out], rfl, H4.out, V4.out, hz3, B3.out⟩
            case measure => simp [intOf]; omega
        · rcases fc' with ⟨fe, _⟩ | ⟨q, hq, _, fe, _⟩
          · rw [fe, if_pos (by decide)] at FI
            rw [fe]
            have FI := Lib.hid FI
            clear fe
            go_wp2_with fail
            go_roundw
            case rel => exact ⟨j + 1, _, by omega, by go_num, by rw [FI.out], rfl, H4.out, V4.out, hz3, B3.out⟩
            case measure => simp [intOf]; omega
          · rw [fe, if_neg (by omega)] at FI
            rw [fe]
            have FI := Lib.hid FI
            clear fe
            have q0 : decide ((q : Int) < 0) = false := by simp
            go_wp2_with fail
            go_roundw
            case rel => exact ⟨j + 1, _, by omega, by go_num, by rw [FI.out], rfl, H4.out, V4.out, hz3, B3.out⟩
            case measure => simp [intOf]; omega
    · have jN : j = N := by omega
      subst jN
      have LA := (callsIn_wide (n := 5)).1 (last_in p b (gS g j j j) 0 wr H.out)
      rw [gS_last] at LA
      rcases fI_cases g j with ⟨fe, ff⟩ | ⟨q, hq, hgq, fe, ff⟩
      · rw [ff] at LA
        rw [fe]
        have LA := Lib.hid (show Calls Try.prog 17 #[.pointer (some ⟨p, 0, none⟩), .int .i64 0] wr fun e w' => e = .returned (.tuple #[.int .i64 0, .bool false]) ∧ Below wr.heap.size wr w' from LA)
        have HE := fun w' (o : Only none_ wr w') => held_any p b (gS g j j j) w' (H.out.still o)
        simp only [gS_held] at HE
        have HE := Lib.hid HE
        have lg := gL_le g j
        clear fe ff
        go_wp2_with fail
        (with_reducible refine (LA.out).mono ?_)
        rintro e w3 ⟨rfl, o3⟩
        have O3 := Lib.hid (as_only o3)
        have HE2 := Lib.hid (HE.out _ O3.out)
        clear o3
        go_wp2_with fail
        (with_reducible refine (HE2.out).mono ?_)
        rintro e w4 ⟨v4, rfl, hv4, o4⟩
        have O4 := Lib.hid (O3.out.same (as_only o4))
        have IN := Lib.hid (ints_any v4 v _ _ w4 (Reads.of_owns hv4) (Reads.of_owns (V.out.still O4.out)) (by rw [ints_len]; omega) (by rw [ints_len]; omega))
        rw [dec_same] at IN
        clear hv4 o4 HE2
        go_wp2_with fail
        (with_reducible refine (IN.out).mono ?_)
        rintro e w5 ⟨rfl, o5⟩
        have B5 := Lib.hid (below_on B.out (O4.out.same o5).to_below)
        clear o5
        go_wp2_with fail
        go_ret
        exact ⟨rfl, B5.out⟩
      · rw [ff] at LA
        rw [fe]
        have LA := Lib.hid (show Calls Try.prog 17 #[.pointer (some ⟨p, 0, none⟩), .int .i64 0] wr fun e w' => e = .returned (.tuple #[.int .i64 q, .bool true]) ∧ Below wr.heap.size wr w' from LA)
        have lg := gL_le g j
        have q0 : decide ((q : Int) < 0) = false := by simp
        have teq : ((q : Int) == (q : Int)) = true := by simp
        have teq2 : (q == q) = true := by simp
        have QN := Lib.hid hq
        have QG := Lib.hid hgq
        clear fe ff hq hgq
        go_wp2_with fail
        (with_reducible refine (LA.out).mono ?_)
        rintro e w3 ⟨rfl, o3⟩
        have B3 := Lib.hid (below_on B.out o3)
        have H3 := Lib.hid (H.out.on o3)
        have V3 := Lib.hid (V.out.still (as_only o3))
        have DR := drop_any p b (gS g j j j) q w3 H3.out
        rw [show (gS g j j j).dropS q = gD g j q from rfl] at DR
        have DR := Lib.hid DR
        clear o3 LA H B V
        generalize (gS g j j j).liesC q = lc at *
        go_wp2_with fail
        (with_reducible refine (DR.out).mono ?_)
        rintro e w4 ⟨rfl, h4, o4⟩
        have B4 := Lib.hid (below_put B3.out o4 kb')
        have H4 := Lib.hid h4
        have V4 := Lib.hid (V3.out.keep o4 (fun g hg q => by have := (V3.out.base_le hg).1; omega))
        have WH := where_any p b (gD g j q) q w4 h4
        rw [gD_where g QN.out] at WH
        have WH := Lib.hid WH
        clear h4 o4 DR H3 B3 V3
        go_wp2_with fail
        (with_reducible refine (WH.out).mono ?_)
        rintro e w5 ⟨rfl, o5⟩
        have O5 := Lib.hid (as_only o5)
        have HE := held_any p b (gD g j q) w5 (H4.out.still O5.out)
        rw [gD_held g QN.out QG.out] at HE
        have HE := Lib.hid HE
        clear o5 WH
        go_wp2_with fail
        (with_reducible refine (HE.out).mono ?_)
        rintro e w6 ⟨v6, rfl, hv6, o6⟩
        have O6 := Lib.hid (O5.out.same (as_only o6))
        have IN := Lib.hid (ints_any v6 v _ _ w6 (Reads.of_owns hv6) (Reads.of_owns (V4.out.still O6.out)) (by rw [ints_len]; omega) (by rw [ints_len]; omega))
        rw [dec_same] at IN
        clear hv6 o6 HE
        go_wp2_with fail
        (with_reducible refine (IN.out).mono ?_)
        rintro e w7 ⟨rfl, o7⟩
        have O7 := Lib.hid (O6.out.same o7)
        have LN := (callsIn_wide (n := 5)).1 (len_in p b (gD g j q) 0 w7 (H4.out.still O7.out))
        rw [gD_len g QN.out, show ((j - 1 : Nat) : Int) = (j : Int) - 1 by omega] at LN
        have LN := Lib.hid LN
        have teq3 : ((j : Int) - 1 == (j : Int) - 1) = true := by simp
        clear o7 IN
        go_wp2_with fail
        (with_reducible refine (LN.out).mono ?_)
        rintro e w8 ⟨rfl, o8⟩
        have B8 := Lib.hid (below_on B4.out (O7.out.same (as_only o8)).to_below)
        clear o8
        go_wp2_with fail
        go_ret
        exact ⟨rfl, B8.out⟩

set_option maxRecDepth 100000 in
theorem lifted (os : Os) (started : os.Started) (H : Type) (enc : TypeId × Value → H) :
    ReturnsInHanded {} Try.checked os 6 .any (Rows.ringHeldSpec.pre6 enc Try.prog Try.f6 Rows.ringHeldRow.domain false) (Rows.ringHeldSpec.post enc Try.prog Try.f6 false true false false) := by
  refine returnsInHanded_of_change (C := Try.checked) own started (by kernel_rfl) Try.func6
    (ChangeSpec.witness6 (enc := enc) (C := Try.checked) false ⟨#[], #[.int .u8 0, .slice none 0 0], []⟩ 8 (by kernel_rfl) (by kernel_rfl) (by kernel_rfl) (by kernel_rfl)) ?_
  intro W base args ds gs before hval0 hW hcnd _
  have hval : ∀ (j : Nat) t v, Try.f6.params[j]? = some t → args[j]? = some v → Value.okWide Try.prog W .any base t v := hval0
  have hW' := hW
  obtain ⟨p, q, hA0, hV, rfl, hfz, hnd⟩ := hW
  have hA : DataW.TrodAll enc Try.prog W 0 (fun _ => true) true Try.f6.params.toList args.toList ds p := hA0
  rw [Try.params6] at hA hval
  obtain ⟨v0, vs0, d0, ds0, p0, q0, hargs, rfl, rfl, h0, r0⟩ := trodAll_cons hA
  obtain ⟨v1, vs1, d1, ds1, p1, q1, rfl, rfl, rfl, h1, r1⟩ := trodAll_cons r0
  obtain ⟨rfl, rfl, rfl⟩ := trodAll_nil r1
  obtain rfl : args = #[v0, v1] := by cases args; simp_all
  obtain ⟨rfl, rfl⟩ := trodVars_none hV
  obtain ⟨a0, rfl, rfl, rfl, w0⟩ := open_int Try.underlying5 (hval 0 5 v0 rfl rfl) h0
  have k1 := h1
  have lt1 : ∀ x ∈ p1, x.block < W.heap.size := by obtain ⟨m, hm⟩ := k1; exact DataW.trod_lt m _ _ _ hm
  obtain ⟨ad1, len1, cap1, rfl⟩ := okWide_slice Try.underlying51 (hval 1 51 v1 rfl rfl)
  obtain ⟨fuel1, hf1⟩ := h1
  obtain ⟨max1, xs1, el1, hold1, wf1⟩ := open_bools hf1
  have shut : ∀ W', Below W.heap.size W W' → DataW.TrodAll enc Try.prog W' 0 (fun b => decide (b < W.heap.size)) true [5, 51] [.int .u8 a0, .slice ad1 len1 cap1] [.lit (.int .u8 a0), d1] ([] ++ (p1 ++ [])) := fun W' bel =>
    (trodAll_cons_mk (shut_int Try.underlying5 w0) (trodAll_cons_mk (Below.trod laidOut (by kernel_rfl) (of_decide_eq_true (by kernel_rfl)) k1 bel lt1) trodAll_mk0))
  clear hA0 hval0
  refine (walk W a0 w0 ad1 len1 cap1 xs1 max1 el1 hold1 wf1).mono fun e W' ⟨he, bel⟩ => ?_
  subst he
  exact ⟨_, rfl, _, _, _, [], _, [], hW', trodAll_mk1 (shut_bool Try.underlying4 _), shut W' bel, rfl, bel.frame _, fun h => by cases h⟩

theorem over : Rows.ringHeldRow.holds Try.pinned (OpenSpec.ofChange Rows.ringHeldSpec) :=
  OpenClaim.holds_of_wide 6 Try.f6 rfl rfl rfl rfl rfl rfl rfl ⟨rfl, rfl, rfl, rfl, rfl⟩ rfl rfl rfl rfl rfl (by kernel_rfl) Try.func6 (by kernel_rfl)
    (of_decide_eq_true (by kernel_rfl)) (by unfold Func.isWrapper; first | (rw [if_pos (by decide +kernel)]; kernel_rfl) | (rw [if_neg (by decide +kernel)]; exact ⟨rfl, rfl⟩))
    (fun os started H enc _ => lifted os started H enc)

theorem ringHeld_holds : Rows.RingHeldSaid := over
#print axioms ringHeld_holds
end Go.Proofs.Ytgbccaplmafgkaa.ringHeld

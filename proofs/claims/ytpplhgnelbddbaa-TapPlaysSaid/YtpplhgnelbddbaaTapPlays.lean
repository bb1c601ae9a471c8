/- Proved: the statement TapPlays of layer 8, for every size, every life and every row of looks, on no condition. -/
import Derived.Test.YtpplhgnelbddbaaRows
import Derived.WalkKit
import Derived.ProofKit
import Derived.OpenShut
import Derived.Below
import Derived.Test.YtpplhgnelbddbaaArgs
import Derived.Test.YtpplhgnelbddbaaActs8
import Derived.Deep.RegionHeld3
namespace Go.Proofs.Ytpplhgnelbddbaa.tapPlays
open Go.ChangeShapes Go.WideShapes Go.ChangeAt Go.RowKit
set_option linter.unusedVariables false

theorem own : ownKnob Try.prog.godebug = none := by kernel_rfl
theorem laidOut : laidOutB Try.prog = true := by kernel_rfl

set_option maxHeartbeats 1000000 in
set_option maxRecDepth 100000 in
theorem walk (w : World) (size : Int) (ws : (Lit.int .i64 size).wf = true) (life : Int) (wl : (Lit.int .i64 life).wf = true) (A : Option Addr) (len cap : Nat) (xs : List Look1) (hmax : len ≤ maxLen) (hlen : xs.length = len) (hold : Holds w A 2 Look1.cells xs) (_ : ∀ a ∈ xs, True) :
    Calls Try.prog 3 #[.int .i64 size, .int .i64 life, .slice A len cap] w fun e w' => e = .returned (.bool true) ∧ Below w.heap.size w w' := by
  clear ws wl
  unfold maxLen at hmax
  have HL := Lib.hid hlen
  have HO := Lib.hid hold
  clear hlen hold
  have MA := fun w => may8_any size life w
  by_cases hmay : 1 ≤ size ∧ size ≤ 32 ∧ 1 ≤ life ∧ life ≤ 64
  · rw [decide_eq_true hmay] at MA
    obtain ⟨S, rfl⟩ : ∃ S : Nat, size = S := ⟨size.toNat, by omega⟩
    obtain ⟨T, rfl⟩ : ∃ T : Nat, life = T := ⟨life.toNat, by omega⟩
    have MA := Lib.hid MA
    have NW := Lib.hid (fun w => new8_yes S T w (by omega) (by omega) (by omega) (by omega))
    have RN := Lib.hid (fun w => rnew8_any S T w)
    clear hmay
    go_enter Try.func3, Try.ntmps3
    go_wp2_with fail
    (with_reducible refine (awake_any _).mono ?_)
    rintro e w1 ⟨rfl, b1⟩
    have B1 := Lib.hid b1
    clear b1
    go_wp2_with fail
    (with_reducible refine (NW.out _).mono ?_)
    rintro e w2 ⟨p, b, rfl, h, lp, lb, o⟩
    have H2 := Lib.hid h
    have B2 := Lib.hid (below_on8 B1.out o)
    have lp' : w.heap.size ≤ p := Nat.le_trans B1.out.size lp
    have lb' : w.heap.size ≤ b := Nat.le_trans B1.out.size lb
    clear h o lp lb B1
    go_wp2_with fail
    (with_reducible refine (MA.out _).mono ?_)
    rintro e w' ⟨rfl, rfl⟩
    go_wp2_with fail
    (with_reducible refine (RN.out _).mono ?_)
    rintro e w3 ⟨q, rfl, hr, lq, o⟩
    have H3 := Lib.hid (H2.out.still o)
    have R3 := Lib.hid hr
    have B3 := Lib.hid (below_on8 B2.out o)
    have lpq : p < q := Nat.lt_of_lt_of_le H2.out.lt.1 lq
    have lbq : b < q := Nat.lt_of_lt_of_le H2.out.lt.2 lq
    have lq' : w.heap.size ≤ q := by omega
    clear hr o lq B2 H2
    go_wp2_with fail
    go_loopw [10] (fun i wr => ∃ (j L : Nat) (es : List En), j ≤ len ∧ j ≤ 150 ∧ L ≤ j ∧ i = .int .i64 j ∧ Tb wr p b L S T es ∧ RT wr q (fun g => q < g) S T es ∧ Below w.heap.size w wr) (fun i _ => len - (intOf i).toNat)
    case atStart => exact ⟨0, 0, [], Nat.zero_le _, Nat.zero_le _, Nat.le_refl _, rfl, H3.out, R3.out, B3.out⟩
    case round =>
      obtain ⟨j, L, es, hj, hj2, hL, rfl, h, hr, bl⟩ := hrel
      clear H3 R3 B3
      have H := Lib.hid h
      have R := Lib.hid hr
      have B := Lib.hid bl
      clear h hr bl
      have t12 : (j < len ∧ j < 150) ∨ (j < len ∧ 150 ≤ j) ∨ len ≤ j := by omega
      rcases t12 with ⟨t1, t2⟩ | t1
      · obtain ⟨act, hact⟩ : ∃ act, xs[j]? = some act := ⟨_, List.getElem?_eq_getElem (by rw [HL.out]; exact t1)⟩
        obtain ⟨sb, so, hA, hsb, _, _⟩ := look_at HO.out B.out hact
        subst hA
        have LM := Lib.hid (look_more HO.out hact)
        clear hact
        have OD := Lib.hid (Only.refl none_ wr).drew
        have Bd := Lib.hid (below_on8 B.out OD.out)
        have Hd := Lib.hid (H.out.still OD.out)
        have Rd := Lib.hid (R.out.still OD.out)
        have l9 : L < 900000 := by omega
        have K0 := Lib.hid (fun (w' : World) (o : Only (two8 p b) wr.drew w') => LM.out w' (below_two Bd.out o lp' lb'))
        have Od := Lib.hid (Only.refl (two8 p b) wr.drew)
        clear H R B
        go_wp2_with fail
        go_region_held3 (fun w' => w'.cell? ⟨sb, so + j * 2, none⟩ = some (.int .i64 act.first) ∧ w'.cell? ⟨sb, so + j * 2 + 1, none⟩ = some (.int .i64 act.count))
          (first
            | (with_reducible exact K0.out _ O4.out)
            | (with_reducible exact K0.out _ Od.out)
            | fail)
          (first
            | (go_at_call 10; (with_reducible refine (look_any p b L S T es act.first act.count _ Hd.out l9).mono ?_); rintro e w4 ⟨rfl, ⟨L', l1, l2, h4⟩, o4⟩; have O4 := Lib.hid o4; have H4 := Lib.hid h4)
            | fail)
        rename_i hHeld
        have B4 := Lib.hid (below_two Bd.out O4.out lp' lb')
        have R4 := Lib.hid (Rd.out.keep O4.out (fun e => by unfold two8 at e; omega) (fun g hg e => by unfold two8 at e; omega))
        have FE := Lib.hid (show Fine8 S T es from Hd.out.fine)
        clear hHeld h4 o4 K0 Od O4 Hd Rd Bd OD
        have OD := Lib.hid (Only.refl none_ w4).drew
        have Bd := Lib.hid (below_on8 B4.out OD.out)
        have Hd := Lib.hid (H4.out.still OD.out)
        have Rd := Lib.hid (R4.out.still OD.out)
        have K0 := Lib.hid (fun (w' : World) (o : Only (fun k => k = q) w4.drew w') => LM.out w' (Only.below_to Bd.out o (Nat.le_refl _) (fun i hi e => by have e : i = q := e; omega)))
        have Od := Lib.hid (Only.refl (fun k => k = q) w4.drew)
        clear H4 R4 B4
        go_wp2_with fail
        go_region_held3 (fun w' => w'.cell? ⟨sb, so + j * 2, none⟩ = some (.int .i64 act.first) ∧ w'.cell? ⟨sb, so + j * 2 + 1, none⟩ = some (.int .i64 act.count))
          (first
            | (with_reducible exact K0.out _ O5.out)
            | (with_reducible exact K0.out _ Od.out)
            | fail)
          (first
            | (go_at_call 11; (with_reducible refine (rlook_any q S T _ es act.first act.count _ Rd.out FE.out).mono ?_); rintro e w5 ⟨rfl, r5, o5⟩; have O5 := Lib.hid o5; have R5 := Lib.hid r5)
            | fail)
        rename_i hHeld
        have B5 := Lib.hid (Only.below_to Bd.out O5.out (Nat.le_refl _) (fun i hi e => by have e : i = q := e; omega))
        have H5 := Lib.hid (Hd.out.keep O5.out (fun e => by have e : p = q := e; omega) (fun e => by have e : b = q := e; omega))
        clear hHeld r5 o5 K0 Od O5 Hd Rd Bd OD FE
        generalize lookT S T es act.first act.count = fs at *
        generalize lookB S T es act.first act.count = lb0 at *
        generalize lookC act.first act.count = lc at *
        have ne1 : (lb0 != lb0) = false := by simp
        have ne2 : ((lc : Int) != (lc : Int)) = false := by simp
        have f32 := Nat.le_trans H5.out.fine.few H5.out.fine.s32
        have l9 : L' < 1000000 := by omega
        have OD := Lib.hid (Only.refl none_ w5).drew
        have H5d := Lib.hid (H5.out.still OD.out)
        obtain ⟨⟨v7, r7, o7⟩, _, _⟩ := R5.out
        obtain ⟨A7, cap7, rfl, h7, _⟩ := o7.form
        have HH7 := Lib.hid h7
        have K7 := Lib.hid (fun (w' : World) (o : Only none_ w5 w') => (show w'.cell? ⟨q, 2, none⟩ = some (.slice A7 fs.length cap7) by rw [(o.still r7).cell]; rfl))
        have lq7 := r7.lt
        have LQ := Lib.hid (fun (w' : World) (o : Only none_ w5 w') => (show q < w'.heap.size from Nat.lt_of_lt_of_le r7.lt o.size))
        clear r7 o7 h7
        go_wp2_with fail
        go_region_held3 (fun w' => w'.cell? ⟨q, 2, none⟩ = some (.slice A7 fs.length cap7))
          (first
            | (with_reducible exact K7.out _ O7.out)
            | (with_reducible exact K7.out _ O6.out)
            | (with_reducible exact K7.out _ OD.out)
            | fail)
          (first
            | (go_at_call 13; (with_reducible refine (list_any p b L' S T fs _ H5d.out l9).mono ?_); rintro e w6 ⟨A6, cap6, rfl, h6, _, o6⟩; have H6 := Lib.hid h6; have O6 := Lib.hid (OD.out.same o6))
            | (go_at_call 12; (with_reducible refine (same8_self A6 A7 cap6 cap7 fs _ H6.out (HH7.out.still8 O6.out) f32).mono ?_); rintro e w7 ⟨rfl, o7⟩; have O7 := Lib.hid (O6.out.same o7))
            | fail)
        go_wp2_with fail
        go_roundw
        case rel => exact ⟨j + 1, L', fs, by omega, by omega, by omega, by go_num, H5.out.still O7.out, R5.out.still O7.out, below_on8 B5.out O7.out⟩
        case measure => simp [intOf]; omega
      · have FG := Lib.hid (forget_any p b L S T es wr H.out)
        rcases t1 with ⟨t1, t2⟩ | t1
        all_goals
          go_wp2_with fail
          (with_reducible refine (FG.out).mono ?_)
          rintro e w4 ⟨rfl, h4, o4⟩
          have H4 := Lib.hid h4
          have B4 := Lib.hid (below_two B.out o4 lp' lb')
          clear h4 o4
          go_wp2_with fail
          (with_reducible refine (list_any p b L S T [] _ H4.out (by omega)).mono ?_)
          rintro e w5 ⟨A5, cap5, rfl, _, _, o5⟩
          have B5 := Lib.hid (below_on8 B4.out o5)
          clear o5
          go_wp2_with fail
          go_ret
          exact ⟨rfl, B5.out⟩
  · rw [decide_eq_false hmay] at MA
    have MA := Lib.hid MA
    have NO := Lib.hid (fun w => new8_no size life w hmay)
    clear hmay
    go_enter Try.func3, Try.ntmps3
    go_wp2_with fail
    (with_reducible refine (awake_any _).mono ?_)
    rintro e w1 ⟨rfl, b1⟩
    have B1 := Lib.hid b1
    clear b1
    go_wp2_with fail
    (with_reducible refine (NO.out _).mono ?_)
    rintro e w' ⟨rfl, rfl⟩
    go_wp2_with fail
    (with_reducible refine (MA.out _).mono ?_)
    rintro e w' ⟨rfl, rfl⟩
    go_wp2_with fail
    go_ret
    exact ⟨rfl, B1.out⟩

set_option maxRecDepth 100000 in
theorem lifted (os : Os) (started : os.Started) (H : Type) (enc : TypeId × Value → H) :
    ReturnsInHanded {} Try.checked os 3 .any (Rows.tapPlaysSpec.pre6 enc Try.prog Try.f3 Rows.tapPlaysRow.domain false) (Rows.tapPlaysSpec.post enc Try.prog Try.f3 false true false false) := by
  refine returnsInHanded_of_change (C := Try.checked) own started (by kernel_rfl) Try.func3
    (ChangeSpec.witness6 (enc := enc) (C := Try.checked) false ⟨#[], #[.int .i64 0, .int .i64 0, .slice none 0 0], []⟩ 8 (by kernel_rfl) (by kernel_rfl) (by kernel_rfl) (by kernel_rfl)) ?_
  intro W base args ds gs before hval0 hW hcnd _
  have hval : ∀ (j : Nat) t v, Try.f3.params[j]? = some t → args[j]? = some v → Value.okWide Try.prog W .any base t v := hval0
  have hW' := hW
  obtain ⟨p, q, hA0, hV, rfl, hfz, hnd⟩ := hW
  have hA : DataW.TrodAll enc Try.prog W 0 (fun _ => true) true Try.f3.params.toList args.toList ds p := hA0
  rw [Try.params3] at hA hval
  obtain ⟨v0, vs0, d0, ds0, p0, q0, hargs, rfl, rfl, h0, r0⟩ := trodAll_cons hA
  obtain ⟨v1, vs1, d1, ds1, p1, q1, rfl, rfl, rfl, h1, r1⟩ := trodAll_cons r0
  obtain ⟨v2, vs2, d2, ds2, p2, q2, rfl, rfl, rfl, h2, r2⟩ := trodAll_cons r1
  obtain ⟨rfl, rfl, rfl⟩ := trodAll_nil r2
  obtain rfl : args = #[v0, v1, v2] := by cases args; simp_all
  obtain ⟨rfl, rfl⟩ := trodVars_none hV
  obtain ⟨a0, rfl, rfl, rfl, w0⟩ := open_int Try.underlying3 (hval 0 3 v0 rfl rfl) h0
  obtain ⟨a1, rfl, rfl, rfl, w1⟩ := open_int Try.underlying3 (hval 1 3 v1 rfl rfl) h1
  have k2 := h2
  have lt2 : ∀ x ∈ p2, x.block < W.heap.size := by obtain ⟨m, hm⟩ := k2; exact DataW.trod_lt m _ _ _ hm
  obtain ⟨ad2, len2, cap2, rfl⟩ := okWide_slice Try.underlying22 (hval 2 22 v2 rfl rfl)
  obtain ⟨fuel2, hf2⟩ := h2
  obtain ⟨max2, xs2, el2, hold2, wf2⟩ := open_looks hf2
  have shut : ∀ W', Below W.heap.size W W' → DataW.TrodAll enc Try.prog W' 0 (fun b => decide (b < W.heap.size)) true [3, 3, 22] [.int .i64 a0, .int .i64 a1, .slice ad2 len2 cap2] [.lit (.int .i64 a0), .lit (.int .i64 a1), d2] ([] ++ ([] ++ (p2 ++ []))) := fun W' bel =>
    (trodAll_cons_mk (shut_int Try.underlying3 w0) (trodAll_cons_mk (shut_int Try.underlying3 w1) (trodAll_cons_mk (Below.trod laidOut (by kernel_rfl) (of_decide_eq_true (by kernel_rfl)) k2 bel lt2) trodAll_mk0)))
  clear hA0 hval0
  refine (walk W a0 w0 a1 w1 ad2 len2 cap2 xs2 max2 el2 hold2 wf2).mono fun e W' ⟨he, bel⟩ => ?_
  subst he
  exact ⟨_, rfl, _, _, _, [], _, [], hW', trodAll_mk1 (shut_bool Try.underlying4 _), shut W' bel, rfl, bel.frame _, fun h => by cases h⟩

theorem over : Rows.tapPlaysRow.holds Try.pinned (OpenSpec.ofChange Rows.tapPlaysSpec) :=
  OpenClaim.holds_of_wide 3 Try.f3 rfl rfl rfl rfl rfl rfl rfl ⟨rfl, rfl, rfl, rfl, rfl⟩ rfl rfl rfl rfl rfl (by kernel_rfl) Try.func3 (by kernel_rfl)
    (of_decide_eq_true (by kernel_rfl)) (by unfold Func.isWrapper; first | (rw [if_pos (by decide +kernel)]; kernel_rfl) | (rw [if_neg (by decide +kernel)]; exact ⟨rfl, rfl⟩))
    (fun os started H enc _ => lifted os started H enc)

theorem tapPlays_holds : Rows.TapPlaysSaid := over
#print axioms tapPlays_holds
end Go.Proofs.Ytpplhgnelbddbaa.tapPlays

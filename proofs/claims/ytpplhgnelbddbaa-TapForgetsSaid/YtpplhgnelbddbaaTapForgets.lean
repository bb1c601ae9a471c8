/- Proved: the statement TapForgets of layer 8, for every size, every life and any two rows of looks, on no condition. -/
import Derived.Test.YtpplhgnelbddbaaRows
import Derived.WalkKit
import Derived.ProofKit
import Derived.OpenShut
import Derived.Below
import Derived.Test.YtpplhgnelbddbaaArgs
import Derived.Test.YtpplhgnelbddbaaPair8
import Derived.Deep.RegionHeld3
namespace Go.Proofs.Ytpplhgnelbddbaa.tapForgets
open Go.ChangeShapes Go.WideShapes Go.ChangeAt Go.RowKit
set_option linter.unusedVariables false

theorem own : ownKnob Try.prog.godebug = none := by kernel_rfl
theorem laidOut : laidOutB Try.prog = true := by kernel_rfl

set_option maxHeartbeats 1000000 in
set_option maxRecDepth 100000 in
theorem walk (w : World) (pa : Int) (wpa : (Lit.int .u8 pa).wf = true) (pb : Int) (wpb : (Lit.int .u8 pb).wf = true) (A : Option Addr) (len cap : Nat) (xs : List Look1) (hmax : len ≤ maxLen) (hlen : xs.length = len) (hold : Holds w A 2 Look1.cells xs) (_ : ∀ a ∈ xs, True) (A' : Option Addr) (len' cap' : Nat) (ys : List Look1) (hmax' : len' ≤ maxLen) (hlen' : ys.length = len') (hold' : Holds w A' 2 Look1.cells ys) (_ : ∀ a ∈ ys, True) :
    Calls Try.prog 5 #[.agg #[.int .u8 pa, .int .u8 pb], .slice A len cap, .slice A' len' cap'] w fun e w' => e = .returned (.bool true) ∧ Below w.heap.size w w' := by
  obtain ⟨lpa, upa⟩ := bd_u8 wpa
  obtain ⟨lpb, upb⟩ := bd_u8 wpb
  clear wpa wpb
  unfold maxLen at hmax hmax'
  have HL := Lib.hid hlen
  have HO := Lib.hid hold
  have HL' := Lib.hid hlen'
  have HO' := Lib.hid hold'
  clear hlen hold hlen' hold'
  obtain ⟨S, hS, s1, s32⟩ := size_of pa lpa
  obtain ⟨T, hT, t1, t64⟩ := life_of pb lpb
  have NW := Lib.hid (fun w => new8_yes S T w s1 s32 t1 t64)
  go_enter Try.func5, Try.ntmps5
  go_wp2_with fail
  have oa0 := (Only.refl none_ w).alloc (.cells #[.int .u8 pa, .int .u8 pb] 41)
  have ra0 := Row.fresh w 41 #[.int .u8 pa, .int .u8 pb]
  generalize w.alloc (.cells #[.int .u8 pa, .int .u8 pb] 41) = w0 at *
  have B0 := Lib.hid (oa0.to_below8)
  have R0 := Lib.hid ra0
  clear oa0 ra0
  (with_reducible refine (awake_any _).mono ?_)
  rintro e w1 ⟨rfl, b1⟩
  have B1 := Lib.hid (B0.out.trans (b1.mono B0.out.size))
  have R1 := Lib.hid ((below_only8 b1).still R0.out)
  have pc0 : w1.cell? ⟨w.heap.size, 0, none⟩ = some (.int .u8 pa) := (R1.out.cell 0).trans rfl
  have pc1 : w1.cell? ⟨w.heap.size, 1, none⟩ = some (.int .u8 pb) := (R1.out.cell 1).trans rfl
  clear b1
  go_wp2_with fail
  (with_reducible refine (NW.out _).mono ?_)
  rintro e w2 ⟨p, b, rfl, h, lp, lb, o⟩
  have H2 := Lib.hid h
  have B2 := Lib.hid (below_on8 B1.out o)
  have lp' : w.heap.size ≤ p := Nat.le_trans B1.out.size lp
  have lb' : w.heap.size ≤ b := Nat.le_trans B1.out.size lb
  clear h o lp lb B1 R1 R0 B0 pc0 pc1
  go_wp2_with fail
  (with_reducible refine (NW.out _).mono ?_)
  rintro e w3 ⟨q, c, rfl, h, lq, lc, o⟩
  have U3 := Lib.hid h
  have H3 := Lib.hid (H2.out.still o)
  have B3 := Lib.hid (below_on8 B2.out o)
  have lq' : w.heap.size ≤ q := Nat.le_trans B2.out.size lq
  have lc' : w.heap.size ≤ c := Nat.le_trans B2.out.size lc
  have apart : p ≠ q ∧ p ≠ c ∧ b ≠ q ∧ b ≠ c := by have := H2.out.lt; omega
  have AP := Lib.hid apart
  clear h o lq lc B2 H2 apart
  go_wp2_with fail
  go_loopw [13] (fun i wr => ∃ (j L : Nat) (es : List En), j ≤ len ∧ j ≤ 150 ∧ L ≤ j ∧ i = .int .i64 j ∧ Tb wr p b L S T es ∧ Tb wr q c 0 S T [] ∧ Below w.heap.size w wr) (fun i _ => len - (intOf i).toNat)
  case atStart => exact ⟨0, 0, [], Nat.zero_le _, Nat.zero_le _, Nat.le_refl _, rfl, H3.out, U3.out, B3.out⟩
  case round =>
    obtain ⟨j, L, es, hj, hj2, hL, rfl, h, hu, bl⟩ := hrel
    clear H3 U3 B3
    have H := Lib.hid h
    have U := Lib.hid hu
    have B := Lib.hid bl
    clear h hu bl
    have t12 : (j < len ∧ j < 150) ∨ (j < len ∧ 150 ≤ j) ∨ len ≤ j := by omega
    rcases t12 with ⟨q1, q2⟩ | q1
    · obtain ⟨act, hact⟩ : ∃ act, xs[j]? = some act := ⟨_, List.getElem?_eq_getElem (by rw [HL.out]; exact q1)⟩
      obtain ⟨sb, so, hA, hsb, _, _⟩ := look_at HO.out B.out hact
      subst hA
      have LM := Lib.hid (look_more HO.out hact)
      clear hact
      have OD := Lib.hid (Only.refl none_ wr).drew
      have Bd := Lib.hid (below_on8 B.out OD.out)
      have Hd := Lib.hid (H.out.still OD.out)
      have Ud := Lib.hid (U.out.still OD.out)
      have l9 : L < 900000 := by omega
      have K0 := Lib.hid (fun (w' : World) (o : Only (two8 p b) wr.drew w') => LM.out w' (below_two Bd.out o lp' lb'))
      have Od := Lib.hid (Only.refl (two8 p b) wr.drew)
      clear H B U
      go_wp2_with fail
      go_region_held3 (fun w' => w'.cell? ⟨sb, so + j * 2, none⟩ = some (.int .i64 act.first) ∧ w'.cell? ⟨sb, so + j * 2 + 1, none⟩ = some (.int .i64 act.count))
        (first
          | (with_reducible exact K0.out _ O4.out)
          | (with_reducible exact K0.out _ Od.out)
          | fail)
        (first
          | (go_at_call 10; (with_reducible refine (look_any p b L S T es act.first act.count _ Hd.out l9).mono ?_); rintro e w4 ⟨rfl, ⟨L', l1, l2, h4⟩, o4⟩; have O4 := Lib.hid o4; have H4 := Lib.hid h4)
          | fail)
      rename_i hHeld
      have B4 := Lib.hid (below_two Bd.out O4.out lp' lb')
      have U4 := Lib.hid (Ud.out.keep O4.out (fun e => by have := AP.out; unfold two8 at e; omega) (fun e => by have := AP.out; unfold two8 at e; omega))
      clear hHeld h4 o4 K0 Od O4 Hd Bd OD Ud
      go_wp2_with fail
      go_roundw
      case rel => exact ⟨j + 1, L', _, by omega, by omega, by omega, by go_num, H4.out, U4.out, B4.out⟩
      case measure => simp [intOf]; omega
    · have FG := Lib.hid (forget_any p b L S T es wr H.out)
      have l150 : L ≤ 150 := by omega
      rcases q1 with ⟨q1, q2⟩ | q1
      all_goals
        go_wp2_with fail
        (with_reducible refine (FG.out).mono ?_)
        rintro e w4 ⟨rfl, h4, o4⟩
        have H4 := Lib.hid h4
        have U4 := Lib.hid (U.out.keep o4 (fun e => by have := AP.out; unfold two8 at e; omega) (fun e => by have := AP.out; unfold two8 at e; omega))
        have B4 := Lib.hid (below_two B.out o4 lp' lb')
        clear h4 o4 FG H U B
        go_wp2_with fail
        go_loopw [14] (fun i wr => ∃ (k L M : Nat) (es : List En), k ≤ len' ∧ k ≤ 150 ∧ L ≤ 150 + k ∧ M ≤ k ∧ i = .int .i64 k ∧ Tb wr p b L S T es ∧ Tb wr q c M S T es ∧ Below w.heap.size w wr) (fun i _ => len' - (intOf i).toNat)
        case atStart => exact ⟨0, L, 0, [], Nat.zero_le _, Nat.zero_le _, by omega, Nat.le_refl _, rfl, H4.out, U4.out, B4.out⟩
        case round =>
          obtain ⟨k, L2, M, fs, hk, hk2, hL2, hM, rfl, h, hu, bl⟩ := hrel
          clear H4 U4 B4
          have H := Lib.hid h
          have U := Lib.hid hu
          have B := Lib.hid bl
          have f32 := Nat.le_trans h.fine.few h.fine.s32
          clear h hu bl
          have t12 : (k < len' ∧ k < 150) ∨ (k < len' ∧ 150 ≤ k) ∨ len' ≤ k := by omega
          rcases t12 with ⟨r1, r2⟩ | r1
          · obtain ⟨act, hact⟩ : ∃ act, ys[k]? = some act := ⟨_, List.getElem?_eq_getElem (by rw [HL'.out]; exact r1)⟩
            obtain ⟨sb, so, hA, hsb, _, _⟩ := look_at HO'.out B.out hact
            subst hA
            have LM := Lib.hid (look_more HO'.out hact)
            clear hact
            have l9 : L2 < 900000 := by omega
            have m9 : M < 900000 := by omega
            have GF := Lib.hid (lookT_fine (f := act.first) (c := act.count) H.out.fine)
            have OD := Lib.hid (Only.refl none_ wr).drew
            have Bd := Lib.hid (below_on8 B.out OD.out)
            have Hd := Lib.hid (H.out.still OD.out)
            have Ud := Lib.hid (U.out.still OD.out)
            have K0 := Lib.hid (fun (w' : World) (o : Only (two8 p b) wr.drew w') => LM.out w' (below_two Bd.out o lp' lb'))
            have Od := Lib.hid (Only.refl (two8 p b) wr.drew)
            clear H B U
            go_wp2_with fail
            go_region_held3 (fun w' => w'.cell? ⟨sb, so + k * 2, none⟩ = some (.int .i64 act.first) ∧ w'.cell? ⟨sb, so + k * 2 + 1, none⟩ = some (.int .i64 act.count))
              (first
                | (with_reducible exact K0.out _ O4.out)
                | (with_reducible exact K0.out _ Od.out)
                | fail)
              (first
                | (go_at_call 10; (with_reducible refine (look_any p b L2 S T fs act.first act.count _ Hd.out l9).mono ?_); rintro e w4 ⟨rfl, ⟨L4, l1, l2, h4⟩, o4⟩; have O4 := Lib.hid o4; have H4 := Lib.hid h4)
                | fail)
            rename_i hHeld
            have B := Lib.hid (below_two Bd.out O4.out lp' lb')
            have U := Lib.hid (Ud.out.keep O4.out (fun e => by have := AP.out; unfold two8 at e; omega) (fun e => by have := AP.out; unfold two8 at e; omega))
            clear hHeld h4 o4 K0 Od O4 Hd Bd OD Ud
            have m1 : L4 ≤ 151 + k := by omega
            clear l1 l2
            have OD := Lib.hid (Only.refl none_ w4).drew
            have Bd := Lib.hid (below_on8 B.out OD.out)
            have Hd := Lib.hid (U.out.still OD.out)
            have Ud := Lib.hid (H4.out.still OD.out)
            have K0 := Lib.hid (fun (w' : World) (o : Only (two8 q c) w4.drew w') => LM.out w' (below_two Bd.out o lq' lc'))
            have Od := Lib.hid (Only.refl (two8 q c) w4.drew)
            clear U B H4
            go_wp2_with fail
            go_region_held3 (fun w' => w'.cell? ⟨sb, so + k * 2, none⟩ = some (.int .i64 act.first) ∧ w'.cell? ⟨sb, so + k * 2 + 1, none⟩ = some (.int .i64 act.count))
              (first
                | (with_reducible exact K0.out _ O5.out)
                | (with_reducible exact K0.out _ Od.out)
                | fail)
              (first
                | (go_at_call 10; (with_reducible refine (look_any q c M S T fs act.first act.count _ Hd.out m9).mono ?_); rintro e w5 ⟨rfl, ⟨M5, l1, l2, h4⟩, o4⟩; have O5 := Lib.hid o4; have U5 := Lib.hid h4)
                | fail)
            rename_i hHeld
            have B := Lib.hid (below_two Bd.out O5.out lq' lc')
            have H4 := Lib.hid (Ud.out.keep O5.out (fun e => by have := AP.out; unfold two8 at e; omega) (fun e => by have := AP.out; unfold two8 at e; omega))
            clear hHeld h4 o4 K0 Od O5 Hd Bd OD Ud
            have m2 : M5 ≤ k + 1 := by omega
            clear l1 l2
            have f32 := Nat.le_trans GF.out.few GF.out.s32
            cases hm : mayLook act.first act.count with
            | true =>
              have e1 : lookC act.first act.count = 0 := by unfold lookC; rw [hm]; rfl
              rw [e1]
              clear e1 hm
              generalize lookT S T fs act.first act.count = gs at *
              generalize lookB S T fs act.first act.count = lb0 at *
              have ne1 : (lb0 != lb0) = false := by simp
              have LP := Lib.hid (list_any p b L4 S T gs _ H4.out (by omega))
              go_wp2_with fail
              (with_reducible refine (LP.out).mono ?_)
              rintro e w6 ⟨A6, cap6, rfl, h6, _, o6⟩
              have HH6 := Lib.hid h6
              have O6 := Lib.hid o6
              have LU := Lib.hid (list_any q c M5 S T gs _ (U5.out.still o6) (by omega))
              clear h6 o6 LP
              go_wp2_with fail
              (with_reducible refine (LU.out).mono ?_)
              rintro e w7 ⟨A7, cap7, rfl, h7, _, o7⟩
              have O7 := Lib.hid (O6.out.same o7)
              have SM := Lib.hid (same8_self A6 A7 cap6 cap7 gs _ (HH6.out.still8 o7) h7 f32)
              clear h7 o7 LU
              go_wp2_with fail
              (with_reducible refine (SM.out).mono ?_)
              rintro e w8 ⟨rfl, o8⟩
              have O8 := Lib.hid (O7.out.same o8)
              clear o8 SM
              go_wp2_with fail
              go_roundw
              case rel => exact ⟨k + 1, L4, M5, gs, by omega, by omega, by omega, by omega, by go_num, H4.out.still O8.out, U5.out.still O8.out, below_on8 B.out O8.out⟩
              case measure => simp [intOf]; omega
            | false =>
              have e1 : lookC act.first act.count = 1 := by unfold lookC; rw [hm]; rfl
              have e2 : lookB S T fs act.first act.count = false := by unfold lookB; rw [hm]; rfl
              rw [e1, e2]
              clear e1 e2 hm
              generalize lookT S T fs act.first act.count = gs at *
              have LP := Lib.hid (list_any p b L4 S T gs _ H4.out (by omega))
              go_wp2_with fail
              (with_reducible refine (LP.out).mono ?_)
              rintro e w6 ⟨A6, cap6, rfl, h6, _, o6⟩
              have HH6 := Lib.hid h6
              have O6 := Lib.hid o6
              have LU := Lib.hid (list_any q c M5 S T gs _ (U5.out.still o6) (by omega))
              clear h6 o6 LP
              go_wp2_with fail
              (with_reducible refine (LU.out).mono ?_)
              rintro e w7 ⟨A7, cap7, rfl, h7, _, o7⟩
              have O7 := Lib.hid (O6.out.same o7)
              have SM := Lib.hid (same8_self A6 A7 cap6 cap7 gs _ (HH6.out.still8 o7) h7 f32)
              clear h7 o7 LU
              go_wp2_with fail
              (with_reducible refine (SM.out).mono ?_)
              rintro e w8 ⟨rfl, o8⟩
              have O8 := Lib.hid (O7.out.same o8)
              clear o8 SM
              go_wp2_with fail
              go_roundw
              case rel => exact ⟨k + 1, L4, M5, gs, by omega, by omega, by omega, by omega, by go_num, H4.out.still O8.out, U5.out.still O8.out, below_on8 B.out O8.out⟩
              case measure => simp [intOf]; omega
          · rcases r1 with ⟨r1, r2⟩ | r1
            all_goals
              have LP := Lib.hid (list_any p b L2 S T fs _ H.out (by omega))
              go_wp2_with fail
              (with_reducible refine (LP.out).mono ?_)
              rintro e w6 ⟨A6, cap6, rfl, h6, _, o6⟩
              have HH6 := Lib.hid h6
              have O6 := Lib.hid o6
              have LU := Lib.hid (list_any q c M S T fs _ (U.out.still o6) (by omega))
              clear h6 o6 LP
              go_wp2_with fail
              (with_reducible refine (LU.out).mono ?_)
              rintro e w7 ⟨A7, cap7, rfl, h7, _, o7⟩
              have O7 := Lib.hid (O6.out.same o7)
              have SM := Lib.hid (same8_self A6 A7 cap6 cap7 fs _ (HH6.out.still8 o7) h7 f32)
              clear h7 o7 LU
              go_wp2_with fail
              (with_reducible refine (SM.out).mono ?_)
              rintro e w8 ⟨rfl, o8⟩
              have O8 := Lib.hid (O7.out.same o8)
              clear o8 SM
              go_wp2_with fail
              go_ret
              exact ⟨rfl, below_on8 B.out O8.out⟩

set_option maxRecDepth 100000 in
theorem lifted (os : Os) (started : os.Started) (H : Type) (enc : TypeId × Value → H) :
    ReturnsInHanded {} Try.checked os 5 .any (Rows.tapForgetsSpec.pre6 enc Try.prog Try.f5 Rows.tapForgetsRow.domain false) (Rows.tapForgetsSpec.post enc Try.prog Try.f5 false true false false) := by
  refine returnsInHanded_of_change (C := Try.checked) own started (by kernel_rfl) Try.func5
    (ChangeSpec.witness6 (enc := enc) (C := Try.checked) false ⟨#[], #[.agg #[.int .u8 0, .int .u8 0], .slice none 0 0, .slice none 0 0], []⟩ 8 (by kernel_rfl) (by kernel_rfl) (by kernel_rfl) (by kernel_rfl)) ?_
  intro W base args ds gs before hval0 hW hcnd _
  have hval : ∀ (j : Nat) t v, Try.f5.params[j]? = some t → args[j]? = some v → Value.okWide Try.prog W .any base t v := hval0
  have hW' := hW
  obtain ⟨p, q, hA0, hV, rfl, hfz, hnd⟩ := hW
  have hA : DataW.TrodAll enc Try.prog W 0 (fun _ => true) true Try.f5.params.toList args.toList ds p := hA0
  rw [Try.params5] at hA hval
  obtain ⟨v0, vs0, d0, ds0, p0, q0, hargs, rfl, rfl, h0, r0⟩ := trodAll_cons hA
  obtain ⟨v1, vs1, d1, ds1, p1, q1, rfl, rfl, rfl, h1, r1⟩ := trodAll_cons r0
  obtain ⟨v2, vs2, d2, ds2, p2, q2, rfl, rfl, rfl, h2, r2⟩ := trodAll_cons r1
  obtain ⟨rfl, rfl, rfl⟩ := trodAll_nil r2
  obtain rfl : args = #[v0, v1, v2] := by cases args; simp_all
  obtain ⟨rfl, rfl⟩ := trodVars_none hV
  have o0 := hval 0 41 v0 rfl rfl
  have k0 := h0
  have lt0 : ∀ x ∈ p0, x.block < W.heap.size := by obtain ⟨m, hm⟩ := k0; exact DataW.trod_lt m _ _ _ hm
  obtain ⟨a0, b0, rfl, wa0, wb0⟩ := open_pair W base H enc v0 d0 p0 o0 h0
  have k1 := h1
  have lt1 : ∀ x ∈ p1, x.block < W.heap.size := by obtain ⟨m, hm⟩ := k1; exact DataW.trod_lt m _ _ _ hm
  obtain ⟨ad1, len1, cap1, rfl⟩ := okWide_slice Try.underlying22 (hval 1 22 v1 rfl rfl)
  obtain ⟨fuel1, hf1⟩ := h1
  obtain ⟨max1, xs1, el1, hold1, wf1⟩ := open_looks hf1
  have k2 := h2
  have lt2 : ∀ x ∈ p2, x.block < W.heap.size := by obtain ⟨m, hm⟩ := k2; exact DataW.trod_lt m _ _ _ hm
  obtain ⟨ad2, len2, cap2, rfl⟩ := okWide_slice Try.underlying22 (hval 2 22 v2 rfl rfl)
  obtain ⟨fuel2, hf2⟩ := h2
  obtain ⟨max2, xs2, el2, hold2, wf2⟩ := open_looks hf2
  have shut : ∀ W', Below W.heap.size W W' → DataW.TrodAll enc Try.prog W' 0 (fun b => decide (b < W.heap.size)) true [41, 22, 22] [.agg #[.int .u8 a0, .int .u8 b0], .slice ad1 len1 cap1, .slice ad2 len2 cap2] [d0, d1, d2] (p0 ++ (p1 ++ (p2 ++ []))) := fun W' bel =>
    (trodAll_cons_mk (Below.trod laidOut (by kernel_rfl) (of_decide_eq_true (by kernel_rfl)) k0 bel lt0) (trodAll_cons_mk (Below.trod laidOut (by kernel_rfl) (of_decide_eq_true (by kernel_rfl)) k1 bel lt1) (trodAll_cons_mk (Below.trod laidOut (by kernel_rfl) (of_decide_eq_true (by kernel_rfl)) k2 bel lt2) trodAll_mk0)))
  clear hA0 hval0
  refine (walk W a0 wa0 b0 wb0 ad1 len1 cap1 xs1 max1 el1 hold1 wf1 ad2 len2 cap2 xs2 max2 el2 hold2 wf2).mono fun e W' ⟨he, bel⟩ => ?_
  subst he
  exact ⟨_, rfl, _, _, _, [], _, [], hW', trodAll_mk1 (shut_bool Try.underlying4 _), shut W' bel, rfl, bel.frame _, fun h => by cases h⟩

theorem over : Rows.tapForgetsRow.holds Try.pinned (OpenSpec.ofChange Rows.tapForgetsSpec) :=
  OpenClaim.holds_of_wide 5 Try.f5 rfl rfl rfl rfl rfl rfl rfl ⟨rfl, rfl, rfl, rfl, rfl⟩ rfl rfl rfl rfl rfl (by kernel_rfl) Try.func5 (by kernel_rfl)
    (of_decide_eq_true (by kernel_rfl)) (by unfold Func.isWrapper; first | (rw [if_pos (by decide +kernel)]; kernel_rfl) | (rw [if_neg (by decide +kernel)]; exact ⟨rfl, rfl⟩))
    (fun os started H enc _ => lifted os started H enc)

theorem tapForgets_holds : Rows.TapForgetsSaid := over
#print axioms tapForgets_holds
end Go.Proofs.Ytpplhgnelbddbaa.tapForgets

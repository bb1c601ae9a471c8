/- Proved: the statement SarcOldest of layer 7, for every count of frames, every bottom and row of hits, on no condition. -/
import Derived.Test.YtpmhpamajkhhiaaRows
import Derived.WalkKit
import Derived.ProofKit
import Derived.OpenShut
import Derived.Below
import Derived.Test.YtpmhpamajkhhiaaArgs
import Derived.Test.YtpmhpamajkhhiaaLaw7
import Derived.Test.YtpmhpamajkhhiaaOld7
namespace Go.Proofs.Ytpmhpamajkhhiaa.sarcOldest
open Go.ChangeShapes Go.WideShapes Go.ChangeAt Go.RowKit
set_option linter.unusedVariables false

theorem own : ownKnob Try.prog.godebug = none := by kernel_rfl
theorem laidOut : laidOutB Try.prog = true := by kernel_rfl

set_option maxHeartbeats 4000000 in
set_option maxRecDepth 100000 in
theorem walk (w : World) (a : Int) (wa : (Lit.int .u8 a).wf = true) (bo : Int) (wb : (Lit.int .u8 bo).wf = true) (A : Option Addr) (len cap : Nat) (xs : List Int) (hmax : len ≤ maxLen) (hlen : xs.length = len) (hold : Holds w A 1 byteC xs) (hwf : ∀ a ∈ xs, (0 ≤ a ∧ a ≤ 255)) :
    Calls Try.prog 6 #[.int .u8 a, .int .u8 bo, .slice A len cap] w fun e w' => e = .returned (.bool true) ∧ Below w.heap.size w w' := by
  obtain ⟨la, ua⟩ := bd_u8 wa
  obtain ⟨lb0, ub0⟩ := bd_u8 wb
  clear wa wb
  unfold maxLen at hmax
  have HL := Lib.hid hlen
  have HO := Lib.hid hold
  have HF := Lib.hid hwf
  clear hlen hold hwf
  obtain ⟨N, hN, n1, n64⟩ := count_of a la
  obtain ⟨T, hT, t1, tN⟩ := bot_of bo N lb0 n1
  obtain ⟨i0, hy0, hz0, hz1, hz2⟩ := info_parts info_int8
  have I0 := Lib.hid hy0
  have I1 := Lib.hid hz0
  have I2 := Lib.hid hz1
  have I3 := Lib.hid hz2
  clear hy0 hz0 hz1 hz2
  have nz : ((N : Int) == 0) = false := by simp; omega
  have nz2 : (N : Int) ≠ 0 := by omega
  have nz3 : ¬ N = 0 := by omega
  have NW := Lib.hid (fun w => snew_yes N T w t1 tN n64)
  go_enter Try.func6, Try.ntmps6
  go_wp2_with fail
  (with_reducible refine (awake_any _).mono ?_)
  rintro e w1 ⟨rfl, b1⟩
  have B1 := Lib.hid b1
  clear b1
  go_wp2_with fail
  (with_reducible refine (NW.out _).mono ?_)
  rintro e w2 ⟨P, p, b, rfl, h, lP, lp, lb, o⟩
  have H2 := Lib.hid h
  have B2 := Lib.hid (Only.below_to B1.out o (Nat.le_refl _) (fun _ _ s => s))
  have lP' : w.heap.size ≤ P := Nat.le_trans B1.out.size lP
  have lb' : w.heap.size ≤ b := Nat.le_trans B1.out.size lb
  have ltw := h.raw.lt
  clear h o lP lp lb B1
  go_wp2_with fail
  go_loopw [10, 11] (fun v0 i wr => ∃ (j : Nat) (c : Sc) (v : Value), j ≤ N ∧ i = .int .i64 j ∧ v = v0 ∧ SLies wr P p b c ∧ Old c N (List.range j) ∧ c.us.length ≤ j ∧ OwnsInts wr w2.heap.size v (ints (List.range j)) ∧ w2.heap.size ≤ wr.heap.size ∧ Below w.heap.size w wr) (fun _ i _ => N - (intOf i).toNat)
  case atStart => exact ⟨0, newSc N T, _, Nat.zero_le _, rfl, rfl, H2.out, old_new t1 tN n64, Nat.le_refl _, Owns.start _ _ _ _ _, Nat.le_refl _, B2.out⟩
  case round =>
    obtain ⟨j, c, v, hj, rfl, rfl, h, od, us, hv, hz, bl⟩ := hrel
    clear H2 B2
    have H := Lib.hid h
    have B := Lib.hid bl
    have V := Lib.hid hv
    have OD := Lib.hid od
    clear h bl hv od
    by_cases hlt : j < N
    · have dj : decide ((j : Int) < (N : Int)) = true := decide_eq_true (by omega)
      obtain ⟨q0, q1, q2, q3, q4⟩ := old_enter OD.out hlt (by simp)
      have EA := Lib.hid (show Calls Try.prog 21 #[.pointer (some ⟨P, 0, none⟩), .int .i64 j, .int .i64 1] wr fun e w' => e = .returned (.int .i64 0) ∧ SLies w' P p b (c.enterS (j : Nat) (1 : Nat)) ∧ Only (two P b) wr w' from by
        have := enter_any P p b c (j : Nat) (1 : Nat) wr H.out (by omega)
        rw [q0] at this
        exact this)
      have RA := Lib.hid (fun W (hW : SLies W P p b (c.enterS (j : Nat) (1 : Nat))) => show Calls Try.prog 22 #[.pointer (some ⟨P, 0, none⟩), .int .i64 j] W fun e w' => e = .returned (.int .i64 0) ∧ SLies w' P p b ((c.enterS (j : Nat) (1 : Nat)).readyS j) ∧ Only (two P b) W w' from by
        have := ready_any P p b _ (j : Nat) W hW
        rw [q1] at this
        exact this)
      have Q2 := Lib.hid q2
      clear q0 q1 q2 q3
      go_wp2_with fail
      (with_reducible refine (EA.out).mono ?_)
      rintro e w3 ⟨rfl, h3, o3⟩
      have H3 := Lib.hid h3
      have B3 := Lib.hid (below_set B.out o3 lP' lb')
      have V3 := Lib.hid (V.out.keep o3 (fun g hg e => by have := (V.out.base_le hg).1; unfold two at e; omega))
      have z3 := o3.size
      have RA3 := Lib.hid (RA.out _ h3)
      clear h3 o3 EA RA
      go_wp2_with fail
      (with_reducible refine (RA3.out).mono ?_)
      rintro e w4 ⟨rfl, h4, o4⟩
      have H4 := Lib.hid h4
      have B4 := Lib.hid (below_set B3.out o4 lP' lb')
      have V4 := Lib.hid (V3.out.keep o4 (fun g hg e => by have := (V3.out.base_le hg).1; unfold two at e; omega))
      have z4 := o4.size
      clear h4 o4 RA3
      have OA := Lib.hid ((Only.refl none_ w4).alloc (.cells #[.int .i64 j] 3))
      have RF := Lib.hid (Row.fresh w4 3 #[.int .i64 j])
      have sz : w2.heap.size ≤ (w4.alloc (.cells #[.int .i64 j] 3)).heap.size := by have := OA.out.size; omega
      have l1 : (ints (List.range j)).length < 9223372036854775807 := by rw [ints_len]; simp; omega
      have l2 : ((ints (List.range j)).length + 1) * 8 ≤ 140737488355328 := by rw [ints_len]; simp; omega
      have l1 := Lib.hid l1
      have l2 := Lib.hid l2
      have IR := Lib.hid (show ints (List.range (j + 1)) = ints (List.range j) ++ [(j : Int)] from by rw [List.range_succ, ints_more])
      go_wp2_with (at_builtin; go_loud (refine wpList_append_one rfl (.tmp 52) (.tmp 54) 35 rfl (c := one) i0 _ 8 Try.underlying35 I0.out I1.out I2.out I3.out rfl (by decide) one1 one_one rfl (V4.out.still OA.out) (y := (j : Int)) rfl RF.out l1.out l2.out sz ?_; intro v5 w5 hown5 hO5))
      rw [← IR.out] at hown5
      have z5 := hO5.size
      have H5 := Lib.hid ((H4.out.still OA.out).keep hO5 (by omega) (by omega) (by omega))
      have B5 := Lib.hid (Only.below_to (Only.below_to B4.out OA.out (Nat.le_refl _) (fun _ _ s => s)) hO5 (Nat.le_refl _) (fun i hi e => by omega))
      have V5 := Lib.hid hown5
      have z6 : w2.heap.size ≤ w5.heap.size := by omega
      clear hown5 hO5
      go_wp2_with fail
      go_roundw
      case rel => exact ⟨j + 1, _, _, by omega, by go_num, rfl, H5.out, by rw [List.range_succ]; exact Q2.out, by omega, V5.out, z6, B5.out⟩
      case measure => simp [intOf]; omega
    · obtain rfl : j = N := by omega
      have dj : decide ((j : Int) < (j : Int)) = false := by simp
      go_wp2_with fail
      clear dj hlt hj
      go_loopw [10, 12] (fun v0 i wr => ∃ (q : Nat) (c : Sc) (L : List Nat) (v : Value), q ≤ len ∧ q ≤ 200 ∧ i = .int .i64 q ∧ v = v0 ∧ SLies wr P p b c ∧ Old c j L ∧ (∀ x, x < j → x ∈ L) ∧ L.length = j ∧ c.us.length ≤ 64 + q ∧ OwnsInts wr w2.heap.size v (ints L) ∧ w2.heap.size ≤ wr.heap.size ∧ Below w.heap.size w wr) (fun _ i _ => len - (intOf i).toNat)
      case atStart => exact ⟨0, c, List.range j, _, Nat.zero_le _, Nat.zero_le _, rfl, rfl, H.out, OD.out, fun x hx => List.mem_range.2 hx, by simp, by omega, V.out, hz, B.out⟩
      case round =>
        clear H B V OD us hz
        obtain ⟨q, c, L, v, hq, hq2, rfl, rfl, h, od, all, ln, us, hv, hz, bl⟩ := hrel
        have H := Lib.hid h
        have B := Lib.hid bl
        have V := Lib.hid hv
        have OD := Lib.hid od
        have ALL := Lib.hid all
        clear h bl hv od all
        have t12 : (q < len ∧ q < 200) ∨ (q < len ∧ 200 ≤ q) ∨ len ≤ q := by omega
        rcases t12 with ⟨r1, r2⟩ | r1
        · obtain ⟨x, hx⟩ : ∃ x, xs[q]? = some x := ⟨_, List.getElem?_eq_getElem (by rw [HL.out]; exact r1)⟩
          obtain ⟨sb, so, hA, hsb, c0⟩ := byte_at HO.out B.out hx
          obtain ⟨x0, x255⟩ := HF.out x (List.mem_of_getElem? hx)
          subst hA
          obtain ⟨k, hk, kN⟩ := node_of x j x0 n1
          have km := ALL.out k kN
          obtain ⟨q0, q1, q2⟩ := old_hit OD.out km
          have EA := Lib.hid (erase_all ALL.out ln km)
          have HT := Lib.hid (show Calls Try.prog 23 #[.pointer (some ⟨P, 0, none⟩), .int .i64 k, .int .i64 1] wr fun e w' => e = .returned (.int .i64 0) ∧ SLies w' P p b (c.hitS (k : Nat) (1 : Nat)) ∧ Only (two P b) wr w' from by
            have := hit_any P p b c (k : Nat) (1 : Nat) wr H.out (by omega)
            rw [q0] at this
            exact this)
          have Q1 := Lib.hid q1
          have fe := findI_in km
          have hix : L.idxOf k < L.length := List.idxOf_lt_length_of_mem km
          have ER := Lib.hid (erase_take km)
          clear hx q0 q1
          go_wp2_with fail
          rw [hk]
          clear hk x0 x255 c0
          (with_reducible refine (HT.out).mono ?_)
          rintro e w3 ⟨rfl, h3, o3⟩
          have H3 := Lib.hid h3
          have B3 := Lib.hid (below_set B.out o3 lP' lb')
          have V3 := Lib.hid (V.out.keep o3 (fun g hg e => by have := (V.out.base_le hg).1; unfold two at e; omega))
          have z3 := o3.size
          have FD := find_any v _ k w3 (Reads.of_owns V3.out) (by rw [ints_len]; omega)
          rw [fe] at FD
          replace FD := Lib.hid FD
          have W0 := without_any v (ints L) (L.idxOf k) _ w3 V3.out (by rw [ints_len]; omega) (by rw [ints_len]; exact hix)
          rw [ints_cut, ← ER.out] at W0
          replace W0 := Lib.hid W0
          clear h3 o3 HT fe ER
          generalize L.idxOf k = ix at *
          go_wp2_with fail
          (with_reducible refine (FD.out).mono ?_)
          rintro e w' ⟨rfl, rfl⟩
          go_wp2_with fail
          (with_reducible refine (W0.out).mono ?_)
          rintro e w4 ⟨u, rfl, hu, o4⟩
          have H4 := Lib.hid (H3.out.still o4)
          have B4 := Lib.hid (Only.below_to B3.out o4 (Nat.le_refl _) (fun _ _ s => s))
          have z4 := o4.size
          have V4 := Lib.hid (Owns.lower hu (show w2.heap.size ≤ _ by omega))
          have l64 : (ints (L.erase k)).length ≤ 64 := by rw [ints_len]; have := List.length_erase_le (a := k) (l := L); omega
          clear hu o4 W0 FD
          have OA := Lib.hid ((Only.refl none_ w4).alloc (.cells #[.int .i64 k] 3))
          have RF := Lib.hid (Row.fresh w4 3 #[.int .i64 k])
          have sz : w2.heap.size ≤ (w4.alloc (.cells #[.int .i64 k] 3)).heap.size := by have := OA.out.size; omega
          have l1 := Lib.hid (show (ints (L.erase k)).length < 9223372036854775807 by omega)
          have l2 := Lib.hid (show ((ints (L.erase k)).length + 1) * 8 ≤ 140737488355328 by omega)
          have IR := Lib.hid (show ints (L.erase k ++ [k]) = ints (L.erase k) ++ [(k : Int)] from by rw [ints_more])
          go_wp2_with (at_builtin; go_loud (refine wpList_append_one rfl (.tmp 81) (.tmp 83) 35 rfl (c := one) i0 _ 8 Try.underlying35 I0.out I1.out I2.out I3.out rfl (by decide) one1 one_one rfl (V4.out.still OA.out) (y := (k : Int)) rfl RF.out l1.out l2.out sz ?_; intro v5 w5 hown5 hO5))
          rw [← IR.out] at hown5
          have z5 := hO5.size
          have H5 := Lib.hid ((H4.out.still OA.out).keep hO5 (by omega) (by omega) (by omega))
          have B5 := Lib.hid (Only.below_to (Only.below_to B4.out OA.out (Nat.le_refl _) (fun _ _ s => s)) hO5 (Nat.le_refl _) (fun i hi e => by omega))
          have V5 := Lib.hid hown5
          have z6 : w2.heap.size ≤ w5.heap.size := by omega
          clear hown5 hO5
          go_wp2_with fail
          go_roundw
          case rel => exact ⟨q + 1, _, _, _, by omega, by omega, by go_num, rfl, H5.out, Q1.out, EA.out.1, EA.out.2, by omega, V5.out, z6, B5.out⟩
          case measure => simp [intOf]; omega
        · have dn : (q < len ∧ 200 ≤ q) ∨ len ≤ q := r1
          have us2 : c.us.length < 1000000 := by omega
          obtain ⟨g, cap, rfl, hg, hg2, _, _⟩ := V.out.form (by intro e; have := congrArg List.length e; rw [ints_len] at this; simp at this; subst this; simp at ln; omega)
          rw [ints_len] at V ⊢
          rw [ln] at V ⊢
          rcases r1 with ⟨r1, r2⟩ | r1
          all_goals
            go_wp2_with fail
            go_loopw [14] (fun i wr => ∃ (m : Nat) (c : Sc), m ≤ j ∧ i = .int .i64 m ∧ SLies wr P p b c ∧ Old c j (L.drop m) ∧ c.us.length < 1000000 ∧ OwnsInts wr w2.heap.size (.slice (some ⟨g, 0, none⟩) j cap) (ints L) ∧ Below w.heap.size w wr) (fun i _ => j - (intOf i).toNat)
            case atStart => exact ⟨0, c, Nat.zero_le _, rfl, H.out, OD.out, us2, V.out, B.out⟩
            case round =>
              clear H B V OD us us2
              obtain ⟨m, c, hm, rfl, h, od, us, hv, bl⟩ := hrel
              have H := Lib.hid h
              have B := Lib.hid bl
              have V := Lib.hid hv
              have OD := Lib.hid od
              clear h bl hv od
              by_cases hlt : m < j
              · have dj : decide ((m : Int) < (j : Int)) = true := decide_eq_true (by omega)
                obtain ⟨x, hx⟩ : ∃ x, L[m]? = some x := ⟨_, List.getElem?_eq_getElem (by omega)⟩
                have ed : L.drop m = x :: L.drop (m + 1) := by
                  rw [List.drop_eq_getElem_cons (by omega)]
                  rw [List.getElem?_eq_getElem (by omega)] at hx
                  injection hx with hx
                  rw [hx]
                have OD2 := OD.out
                rw [ed] at OD2
                obtain ⟨ev, od3, eu⟩ := old_victim OD2
                have VA := victim_any P p b c wr H.out us
                rw [ev, show lastV (some x) = .tuple #[.int .i64 x, .bool true] from rfl] at VA
                replace VA := Lib.hid VA
                have OD3 := Lib.hid od3
                have IX := Lib.hid (show (ints L)[m]? = some (x : Int) from by unfold ints; rw [List.getElem?_map, hx]; rfl)
                have bm : (m : Int) < (j : Int) := by omega
                have us3 : c.victimS.us.length < 1000000 := by rw [eu]; exact us
                clear ed OD2 ev od3 hx eu OD
                go_wp2_with fail
                (with_reducible refine (VA.out).mono ?_)
                rintro e w3 ⟨rfl, h3, o3⟩
                have H3 := Lib.hid h3
                have B3 := Lib.hid (below_set B.out o3 lP' lb')
                have V3 := Lib.hid (V.out.keep o3 (fun g hg e => by have := (V.out.base_le hg).1; unfold two at e; omega))
                have cx := cell_own V3.out IX.out
                clear h3 o3 VA
                go_wp2_with fail
                go_roundw
                case rel => exact ⟨m + 1, _, by omega, by go_num, H3.out, OD3.out, us3, V3.out, B3.out⟩
                case measure => simp [intOf]; omega
              · obtain rfl : m = j := by omega
                have dj : decide ((m : Int) < (m : Int)) = false := by simp
                have OD2 := OD.out
                rw [List.drop_of_length_le (by omega)] at OD2
                have VA := victim_any P p b c wr H.out us
                rw [old_none OD2, show lastV none = .tuple #[.int .i64 0, .bool false] from rfl] at VA
                replace VA := Lib.hid VA
                clear OD2 OD
                go_wp2_with fail
                (with_reducible refine (VA.out).mono ?_)
                rintro e w3 ⟨rfl, h3, o3⟩
                have B3 := Lib.hid (below_set B.out o3 lP' lb')
                clear h3 o3
                go_wp2_with fail
                go_ret
                exact ⟨rfl, B3.out⟩

set_option maxRecDepth 100000 in
theorem lifted (os : Os) (started : os.Started) (H : Type) (enc : TypeId × Value → H) :
    ReturnsInHanded {} Try.checked os 6 .any (Rows.sarcOldestSpec.pre6 enc Try.prog Try.f6 Rows.sarcOldestRow.domain false) (Rows.sarcOldestSpec.post enc Try.prog Try.f6 false true false false) := by
  refine returnsInHanded_of_change (C := Try.checked) own started (by kernel_rfl) Try.func6
    (ChangeSpec.witness6 (enc := enc) (C := Try.checked) false ⟨#[], #[.int .u8 0, .int .u8 0, .slice none 0 0], []⟩ 8 (by kernel_rfl) (by kernel_rfl) (by kernel_rfl) (by kernel_rfl)) ?_
  intro W base args ds gs before hval0 hW hcnd _
  have hval : ∀ (j : Nat) t v, Try.f6.params[j]? = some t → args[j]? = some v → Value.okWide Try.prog W .any base t v := hval0
  have hW' := hW
  obtain ⟨p, q, hA0, hV, rfl, hfz, hnd⟩ := hW
  have hA : DataW.TrodAll enc Try.prog W 0 (fun _ => true) true Try.f6.params.toList args.toList ds p := hA0
  rw [Try.params6] at hA hval
  obtain ⟨v0, vs0, d0, ds0, p0, q0, hargs, rfl, rfl, h0, r0⟩ := trodAll_cons hA
  obtain ⟨v1, vs1, d1, ds1, p1, q1, rfl, rfl, rfl, h1, r1⟩ := trodAll_cons r0
  obtain ⟨v2, vs2, d2, ds2, p2, q2, rfl, rfl, rfl, h2, r2⟩ := trodAll_cons r1
  obtain ⟨rfl, rfl, rfl⟩ := trodAll_nil r2
  obtain rfl : args = #[v0, v1, v2] := by cases args; simp_all
  obtain ⟨rfl, rfl⟩ := trodVars_none hV
  obtain ⟨a0, rfl, rfl, rfl, w0⟩ := open_int Try.underlying5 (hval 0 5 v0 rfl rfl) h0
  obtain ⟨a1, rfl, rfl, rfl, w1⟩ := open_int Try.underlying5 (hval 1 5 v1 rfl rfl) h1
  have k2 := h2
  have lt2 : ∀ x ∈ p2, x.block < W.heap.size := by obtain ⟨m, hm⟩ := k2; exact DataW.trod_lt m _ _ _ hm
  obtain ⟨ad2, len2, cap2, rfl⟩ := okWide_slice Try.underlying50 (hval 2 50 v2 rfl rfl)
  obtain ⟨fuel2, hf2⟩ := h2
  obtain ⟨max2, xs2, el2, hold2, wf2⟩ := open_bytes hf2
  have shut : ∀ W', Below W.heap.size W W' → DataW.TrodAll enc Try.prog W' 0 (fun b => decide (b < W.heap.size)) true [5, 5, 50] [.int .u8 a0, .int .u8 a1, .slice ad2 len2 cap2] [.lit (.int .u8 a0), .lit (.int .u8 a1), d2] ([] ++ ([] ++ (p2 ++ []))) := fun W' bel =>
    (trodAll_cons_mk (shut_int Try.underlying5 w0) (trodAll_cons_mk (shut_int Try.underlying5 w1) (trodAll_cons_mk (Below.trod laidOut (by kernel_rfl) (of_decide_eq_true (by kernel_rfl)) k2 bel lt2) trodAll_mk0)))
  clear hA0 hval0
  refine (walk W a0 w0 a1 w1 ad2 len2 cap2 xs2 max2 el2 hold2 wf2).mono fun e W' ⟨he, bel⟩ => ?_
  subst he
  exact ⟨_, rfl, _, _, _, [], _, [], hW', trodAll_mk1 (shut_bool Try.underlying4 _), shut W' bel, rfl, bel.frame _, fun h => by cases h⟩

theorem over : Rows.sarcOldestRow.holds Try.pinned (OpenSpec.ofChange Rows.sarcOldestSpec) :=
  OpenClaim.holds_of_wide 6 Try.f6 rfl rfl rfl rfl rfl rfl rfl ⟨rfl, rfl, rfl, rfl, rfl⟩ rfl rfl rfl rfl rfl (by kernel_rfl) Try.func6 (by kernel_rfl)
    (of_decide_eq_true (by kernel_rfl)) (by unfold Func.isWrapper; first | (rw [if_pos (by decide +kernel)]; kernel_rfl) | (rw [if_neg (by decide +kernel)]; exact ⟨rfl, rfl⟩))
    (fun os started H enc _ => lifted os started H enc)

theorem sarcOldest_holds : Rows.SarcOldestSaid := over
#print axioms sarcOldest_holds
end Go.Proofs.Ytpmhpamajkhhiaa.sarcOldest

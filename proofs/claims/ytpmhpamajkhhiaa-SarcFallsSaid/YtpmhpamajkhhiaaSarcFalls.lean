/- Proved: the statement SarcFalls of layer 7, for every count of frames, with or without a frame of Seq, and every count of hits, on no condition. -/
import Derived.Test.YtpmhpamajkhhiaaRows
import Derived.WalkKit
import Derived.ProofKit
import Derived.OpenShut
import Derived.Below
import Derived.Test.YtpmhpamajkhhiaaArgs
import Derived.Test.YtpmhpamajkhhiaaLaw7
import Derived.Test.YtpmhpamajkhhiaaFal7
namespace Go.Proofs.Ytpmhpamajkhhiaa.sarcFalls
open Go.ChangeShapes Go.WideShapes Go.ChangeAt Go.RowKit
set_option linter.unusedVariables false

theorem own : ownKnob Try.prog.godebug = none := by kernel_rfl
theorem laidOut : laidOutB Try.prog = true := by kernel_rfl

set_option maxHeartbeats 4000000 in
set_option maxRecDepth 100000 in
theorem walk (w : World) (a : Int) (wa : (Lit.int .u8 a).wf = true) (sq : Bool) (hi : Int) (wh : (Lit.int .u8 hi).wf = true) :
    Calls Try.prog 8 #[.int .u8 a, .bool sq, .int .u8 hi] w fun e w' => e = .returned (.bool true) ∧ Below w.heap.size w w' := by
  obtain ⟨la, ua⟩ := bd_u8 wa
  obtain ⟨lh, uh⟩ := bd_u8 wh
  clear wa wh
  obtain ⟨N, hN, n2, n64⟩ : ∃ N : Nat, 2 + a % 63 = (N : Int) ∧ 2 ≤ N ∧ N ≤ 64 := ⟨(2 + a % 63).toNat, by omega, by omega, by omega⟩
  obtain ⟨K, hK, k60⟩ : ∃ K : Nat, hi % 60 = (K : Int) ∧ K < 60 := ⟨(hi % 60).toNat, by omega, by omega⟩
  have NW := Lib.hid (fun w => snew_one N w (by omega) n64)
  go_enter Try.func8, Try.ntmps8
  go_wp2_with fail
  (with_reducible refine (awake_any _).mono ?_)
  rintro e w1 ⟨rfl, b1⟩
  have B1 := Lib.hid b1
  clear b1
  go_wp2_with fail
  (with_reducible refine (NW.out _).mono ?_)
  rintro e w2 ⟨P, p, b, rfl, h, lP, lp, lb, o⟩
  have H2 := Lib.hid h
  have B2 := Lib.hid (Only.below_to B1.out o (Nat.le_refl _) (fun _ _ s => s))
  have lP' : w.heap.size ≤ P := Nat.le_trans B1.out.size lP
  have lb' : w.heap.size ≤ b := Nat.le_trans B1.out.size lb
  clear h o lP lp lb B1
  go_wp2_with fail
  go_loopw [10] (fun i wr => ∃ (j : Nat) (c : Sc), j ≤ N ∧ i = .int .i64 j ∧ SLies wr P p b c ∧ Ent c N j sq ∧ Below w.heap.size w wr) (fun i _ => N - (intOf i).toNat)
  case atStart => exact ⟨0, newSc N 1, Nat.zero_le _, rfl, H2.out, ent_new sq (by omega) n64, B2.out⟩
  case round =>
    obtain ⟨j, c, hj, rfl, h, en, bl⟩ := hrel
    clear H2 B2
    have H := Lib.hid h
    have B := Lib.hid bl
    have EN := Lib.hid en
    clear h bl en
    by_cases hlt : j < N
    · have us : c.us.length < 1000000 := by rw [EN.out.us]; omega
      have dj : decide ((j : Int) < (N : Int)) = true := decide_eq_true (by omega)
      by_cases q : j = 0 ∧ sq = true
      · obtain ⟨rfl, rfl⟩ := q
        have EA := Lib.hid (enter_any P p b c (0 : Nat) (0 : Nat) wr H.out us)
        have EA := Lib.hid (show Calls Try.prog 21 #[.pointer (some ⟨P, 0, none⟩), .int .i64 0, .int .i64 0] wr fun e w' => e = .returned (.int .i64 (c.enterC (0 : Nat) (0 : Nat))) ∧ SLies w' P p b (c.enterS (0 : Nat) (0 : Nat)) ∧ Only (two P b) wr w' from EA.out)
        have E1 := Lib.hid (ent_seq EN.out hlt)
        clear us
        go_wp2_with fail
        (with_reducible refine (EA.out).mono ?_)
        rintro e w3 ⟨rfl, h3, o3⟩
        have H3 := Lib.hid h3
        have B3 := Lib.hid (below_set B.out o3 lP' lb')
        clear h3 o3 EA
        go_wp2_with fail
        go_roundw
        case rel => exact ⟨1, _, by omega, by go_num, H3.out, E1.out, B3.out⟩
        case measure => simp [intOf]; omega
      · have EA := Lib.hid (show Calls Try.prog 21 #[.pointer (some ⟨P, 0, none⟩), .int .i64 j, .int .i64 1] wr fun e w' => e = .returned (.int .i64 (c.enterC (j : Nat) (1 : Nat))) ∧ SLies w' P p b (c.enterS (j : Nat) (1 : Nat)) ∧ Only (two P b) wr w' from enter_any P p b c (j : Nat) (1 : Nat) wr H.out us)
        have E1 := Lib.hid (ent_rand EN.out hlt (fun e => by
          rcases Nat.eq_zero_or_pos j with k | k
          · exact absurd ⟨k, e⟩ q
          · exact k))
        clear us
        by_cases j0 : j = 0
        · have s0 : sq = false := by cases sq with | false => rfl | true => exact absurd ⟨j0, rfl⟩ q
          subst s0
          have d0 : ((j : Int) == 0) = true := by simp [j0]
          clear q j0
          go_wp2_with fail
          (with_reducible refine (EA.out).mono ?_)
          rintro e w3 ⟨rfl, h3, o3⟩
          have H3 := Lib.hid h3
          have B3 := Lib.hid (below_set B.out o3 lP' lb')
          clear h3 o3 EA
          go_wp2_with fail
          go_roundw
          case rel => exact ⟨j + 1, _, by omega, by go_num, H3.out, E1.out, B3.out⟩
          case measure => simp [intOf]; omega
        · have d0 : ((j : Int) == 0) = false := by simp; omega
          have j0' : ¬ (j : Int) = 0 := by omega
          clear q
          go_wp2_with fail
          (with_reducible refine (EA.out).mono ?_)
          rintro e w3 ⟨rfl, h3, o3⟩
          have H3 := Lib.hid h3
          have B3 := Lib.hid (below_set B.out o3 lP' lb')
          clear h3 o3 EA
          go_wp2_with fail
          go_roundw
          case rel => exact ⟨j + 1, _, by omega, by go_num, H3.out, E1.out, B3.out⟩
          case measure => simp [intOf]; omega
    · obtain rfl : j = N := by omega
      have dj : decide ((j : Int) < (j : Int)) = false := by simp
      have FA := Lib.hid (fal_of EN.out n2)
      have us : c.us.length = j := EN.out.us
      clear EN hj hlt
      obtain ⟨d, hd⟩ : ∃ d : Nat, (if sq = true then 1 else 0) = d := ⟨_, rfl⟩
      rw [hd] at FA
      go_wp2_with fail
      clear dj
      go_loopw [12] (fun i wr => ∃ (k : Nat) (c : Sc), k ≤ K ∧ i = .int .i64 k ∧ SLies wr P p b c ∧ Fal c j d k ∧ c.us.length ≤ 64 + k ∧ Below w.heap.size w wr) (fun i _ => K - (intOf i).toNat)
      case atStart => exact ⟨0, c, Nat.zero_le _, rfl, H.out, FA.out, by omega, B.out⟩
      case round =>
        clear H B FA us
        obtain ⟨k, c, hk, rfl, h, fa, us, bl⟩ := hrel
        have H := Lib.hid h
        have B := Lib.hid bl
        have FA := Lib.hid fa
        clear h bl fa
        by_cases hlt : k < K
        · have dk : decide ((k : Int) < (K : Int)) = true := decide_eq_true (by omega)
          obtain ⟨L, x, hL⟩ : ∃ L x, c.s.l1 = L ++ [x] := by
            rcases List.eq_nil_or_concat c.s.l1 with e | ⟨L, x, e⟩
            · exact absurd e FA.out.some
            · exact ⟨L, x, by rw [e]; simp⟩
          have HI := fal_hit FA.out hL (by omega)
          have le := fine_len1 H.out.fine.s
          rw [hL] at le
          have le : L.length + 1 ≤ 64 := by simpa using le
          have PO := Lib.hid (pol_any P p b c wr H.out)
          go_wp2_with fail
          (with_reducible refine (PO.out).mono ?_)
          rintro e w4 ⟨a0, n0, k0, a1, n1, k1, a2, n2', k2, rfl, _, t1, _, o4⟩
          rw [hL] at t1
          obtain ⟨g, cap, ev, hg, hg2, _, _⟩ := t1.form (by unfold ints; simp)
          rw [ints_len, List.length_append, List.length_singleton] at ev
          injection ev with ev1 ev2 ev3
          subst ev1 ev2 ev3
          have cx0 : w4.cell? ⟨g, L.length, none⟩ = some (.int .i64 x) := cell_own t1 (by unfold ints; simp)
          have oa := (Only.refl none_ w4).alloc (.cells #[.slice a0 n0 k0, .slice (some ⟨g, 0, none⟩) (L.length + 1) k1, .slice a2 n2' k2, .int .i64 c.want, .int .u64 c.miss, .int .u64 c.hits] 39)
          have ra := Row.fresh w4 39 #[.slice a0 n0 k0, .slice (some ⟨g, 0, none⟩) (L.length + 1) k1, .slice a2 n2' k2, .int .i64 c.want, .int .u64 c.miss, .int .u64 c.hits]
          have cx := oa.cell cx0 (fun s => s)
          have B4 := Lib.hid (below_on7 B.out o4)
          have H4 := Lib.hid ((H.out.on o4).still oa)
          have B5 := Lib.hid (Only.below_to B4.out oa (Nat.le_refl _) (fun _ _ s => s))
          have RA := Lib.hid ra
          generalize L.length = m at *
          have nz1 : ((m : Int) + 1 == 0) = false := by simp; omega
          have nz2 : ¬ (m : Int) + 1 = 0 := by omega
          have sm : (m : Int) + 1 - 1 = (m : Int) := by omega
          have bm : (m : Int) < (m : Int) + 1 := by omega
          clear o4 oa ra t1 cx0 PO
          obtain ⟨c', hc'⟩ : ∃ c', c.hitS x (1 : Nat) = c' := ⟨_, rfl⟩
          have HT := Lib.hid (fun W (hW : SLies W P p b c) => show Calls Try.prog 23 #[.pointer (some ⟨P, 0, none⟩), .int .i64 x, .int .i64 1] W fun e w' => e = .returned (.int .i64 0) ∧ SLies w' P p b c' ∧ Only (two P b) W w' from by
            have := hit_any P p b c x (1 : Nat) W hW (by omega)
            rw [HI.1, hc'] at this
            exact this)
          have FA' := HI.2.1
          have us' := HI.2.2
          rw [hc'] at FA' us'
          have PO2 := Lib.hid (fun W (hW : SLies W P p b c') => show Calls Try.prog 15 #[.pointer (some ⟨P, 0, none⟩)] W fun e w' => ∃ a0 n0 k0 a1 n1 k1 a2 n2 k2, e = .returned (.agg #[.slice a0 n0 k0, .slice a1 n1 k1, .slice a2 n2 k2, .int .i64 0, .int .u64 0, .int .u64 (k + 1 : Nat)]) ∧ Below W.heap.size W w' from by
            have := pol_any P p b c' W hW
            rw [FA'.hits, FA'.z.1, FA'.z.2] at this
            refine this.mono ?_
            rintro e w' ⟨a0, n0, k0, a1, n1, k1, a2, n2, k2, rfl, _, _, _, o⟩
            exact ⟨a0, n0, k0, a1, n1, k1, a2, n2, k2, rfl, o⟩)
          have FAH := Lib.hid FA'
          have uk : IntKind.i64.wrap ((k : Int) + 1) = (k : Int) + 1 := by rw [IntKind.wrap_i64]; omega
          have uk2 : IntKind.u64.wrap ((k : Int) + 1) = (k : Int) + 1 := by rw [IntKind.wrap_u64]; omega
          have kx : ((k + 1 : Nat) : Int) = (k : Int) + 1 := rfl
          rw [kx] at PO2
          have FH := fun v0 v1 v2 x y z w => field_hits v0 v1 v2 x y z w
          have FW := fun v0 v1 v2 x y z w => field_want v0 v1 v2 x y z w
          clear FA' HI hc' kx hL
          go_wp2_with fail
          (with_reducible refine (HT.out _ H4.out).mono ?_)
          rintro e w5 ⟨rfl, h5, o5⟩
          have H5 := Lib.hid h5
          have B6 := Lib.hid (below_set B5.out o5 lP' lb')
          clear h5 o5 HT cx
          go_wp2_with fail
          (with_reducible refine (PO2.out _ H5.out).mono ?_)
          rintro e w6 ⟨_, _, _, _, _, _, _, _, _, rfl, o6⟩
          have H6 := Lib.hid (H5.out.on o6)
          have B7 := Lib.hid (below_on7 B6.out o6)
          clear o6
          go_wp2_with fail
          (with_reducible refine (PO2.out _ H6.out).mono ?_)
          rintro e w7 ⟨_, _, _, _, _, _, _, _, _, rfl, o7⟩
          have H7 := Lib.hid (H6.out.on o7)
          have B8 := Lib.hid (below_on7 B7.out o7)
          clear o7
          go_wp2_with fail
          go_roundw
          case rel => exact ⟨k + 1, c', by omega, by go_num, H7.out, FAH.out, by omega, B8.out⟩
          case measure => simp [intOf]; omega
        · obtain rfl : k = K := by omega
          have dk : decide ((k : Int) < (k : Int)) = false := by simp
          have FM := fal_miss FA.out (by omega) k60
          have MS := miss_any P p b c 0 wr H.out
          rw [show missC 0 = 0 from by decide] at MS
          replace MS := Lib.hid MS
          have PO := Lib.hid (fun W (hW : SLies W P p b (c.missS 0)) => show Calls Try.prog 15 #[.pointer (some ⟨P, 0, none⟩)] W fun e w' => ∃ a0 n0 k0 a1 n1 k1 a2 n2 k2, e = .returned (.agg #[.slice a0 n0 k0, .slice a1 n1 k1, .slice a2 n2 k2, .int .i64 ((if k * d = 0 then 1 else 0 : Nat) : Nat), .int .u64 1, .int .u64 (k : Nat)]) ∧ Below W.heap.size W w' from by
            have := pol_any P p b _ W hW
            rw [FM.1, FM.2.1, FM.2.2] at this
            refine this.mono ?_
            rintro e w' ⟨a0, n0, k0, a1, n1, k1, a2, n2, k2, rfl, _, _, _, o⟩
            exact ⟨a0, n0, k0, a1, n1, k1, a2, n2, k2, rfl, o⟩)
          generalize c.missS 0 = c' at *
          clear FM hk hlt
          go_wp2_with fail
          (with_reducible refine (MS.out).mono ?_)
          rintro e w5 ⟨rfl, h5, o5⟩
          have H5 := Lib.hid h5
          have B6 := Lib.hid (below_set B.out o5 lP' lb')
          clear h5 o5 MS
          go_wp2_with fail
          (with_reducible refine (PO.out _ H5.out).mono ?_)
          rintro e w6 ⟨a0, n0, k0, a1, n1, k1, a2, n2', k2, rfl, o6⟩
          have B7 := Lib.hid (Only.below_to (below_on7 B6.out o6) ((Only.refl none_ w6).alloc (.cells #[.slice a0 n0 k0, .slice a1 n1 k1, .slice a2 n2' k2, .int .i64 ((if k * d = 0 then 1 else 0 : Nat) : Nat), .int .u64 1, .int .u64 (k : Nat)] 39)) (Nat.le_refl _) (fun _ _ s => s))
          clear o6 PO
          cases sq with
          | false =>
            have hd0 : d = 0 := by rw [← hd]; rfl
            have ew : (if k * d = 0 then 1 else 0 : Nat) = 1 := by rw [hd0, Nat.mul_zero, if_pos rfl]
            rw [ew] at B7 ⊢
            clear hd hd0 ew
            by_cases k0 : k = 0
            · have z0 : ((k : Int) == 0) = true := by simp [k0]
              clear k0
              go_wp2_with fail
              go_ret
              exact ⟨rfl, B7.out⟩
            · have z0 : ((k : Int) == 0) = false := by simp; omega
              go_wp2_with fail
              go_ret
              exact ⟨rfl, B7.out⟩
          | true =>
            have hd0 : d = 1 := by rw [← hd]; rfl
            by_cases k0 : k = 0
            · have ew : (if k * d = 0 then 1 else 0 : Nat) = 1 := by rw [hd0, if_pos (by omega)]
              rw [ew] at B7 ⊢
              have z0 : ((k : Int) == 0) = true := by simp [k0]
              clear k0 hd hd0 ew
              go_wp2_with fail
              go_ret
              exact ⟨rfl, B7.out⟩
            · have ew : (if k * d = 0 then 1 else 0 : Nat) = 0 := by rw [hd0, if_neg (by omega)]
              rw [ew] at B7 ⊢
              have z0 : ((k : Int) == 0) = false := by simp; omega
              clear hd hd0 ew
              go_wp2_with fail
              go_ret
              exact ⟨rfl, B7.out⟩

set_option maxRecDepth 100000 in
theorem lifted (os : Os) (started : os.Started) (H : Type) (enc : TypeId × Value → H) :
    ReturnsInHanded {} Try.checked os 8 .any (Rows.sarcFallsSpec.pre6 enc Try.prog Try.f8 Rows.sarcFallsRow.domain false) (Rows.sarcFallsSpec.post enc Try.prog Try.f8 false true false false) := by
  refine returnsInHanded_of_change (C := Try.checked) own started (by kernel_rfl) Try.func8
    (ChangeSpec.witness6 (enc := enc) (C := Try.checked) false ⟨#[], #[.int .u8 0, .bool false, .int .u8 0], []⟩ 8 (by kernel_rfl) (by kernel_rfl) (by kernel_rfl) (by kernel_rfl)) ?_
  intro W base args ds gs before hval0 hW hcnd _
  have hval : ∀ (j : Nat) t v, Try.f8.params[j]? = some t → args[j]? = some v → Value.okWide Try.prog W .any base t v := hval0
  have hW' := hW
  obtain ⟨p, q, hA0, hV, rfl, hfz, hnd⟩ := hW
  have hA : DataW.TrodAll enc Try.prog W 0 (fun _ => true) true Try.f8.params.toList args.toList ds p := hA0
  rw [Try.params8] at hA hval
  obtain ⟨v0, vs0, d0, ds0, p0, q0, hargs, rfl, rfl, h0, r0⟩ := trodAll_cons hA
  obtain ⟨v1, vs1, d1, ds1, p1, q1, rfl, rfl, rfl, h1, r1⟩ := trodAll_cons r0
  obtain ⟨v2, vs2, d2, ds2, p2, q2, rfl, rfl, rfl, h2, r2⟩ := trodAll_cons r1
  obtain ⟨rfl, rfl, rfl⟩ := trodAll_nil r2
  obtain rfl : args = #[v0, v1, v2] := by cases args; simp_all
  obtain ⟨rfl, rfl⟩ := trodVars_none hV
  obtain ⟨a0, rfl, rfl, rfl, w0⟩ := open_int Try.underlying5 (hval 0 5 v0 rfl rfl) h0
  obtain ⟨a1, rfl, rfl, rfl⟩ := open_bool Try.underlying4 (hval 1 4 v1 rfl rfl) h1
  obtain ⟨a2, rfl, rfl, rfl, w2⟩ := open_int Try.underlying5 (hval 2 5 v2 rfl rfl) h2
  have shut : ∀ W', Below W.heap.size W W' → DataW.TrodAll enc Try.prog W' 0 (fun b => decide (b < W.heap.size)) true [5, 4, 5] [.int .u8 a0, .bool a1, .int .u8 a2] [.lit (.int .u8 a0), .lit (.bool a1), .lit (.int .u8 a2)] ([] ++ ([] ++ ([] ++ []))) := fun W' bel =>
    (trodAll_cons_mk (shut_int Try.underlying5 w0) (trodAll_cons_mk (shut_bool Try.underlying4 a1) (trodAll_cons_mk (shut_int Try.underlying5 w2) trodAll_mk0)))
  clear hA0 hval0
  refine (walk W a0 w0 a1 a2 w2).mono fun e W' ⟨he, bel⟩ => ?_
  subst he
  simp only [List.append_nil] at hW' shut
  exact ⟨_, rfl, _, _, _, [], [], [], hW', trodAll_mk1 (shut_bool Try.underlying4 _), shut W' bel, rfl, bel.frame _, fun h => by cases h⟩

theorem over : Rows.sarcFallsRow.holds Try.pinned (OpenSpec.ofChange Rows.sarcFallsSpec) :=
  OpenClaim.holds_of_wide 8 Try.f8 rfl rfl rfl rfl rfl rfl rfl ⟨rfl, rfl, rfl, rfl, rfl⟩ rfl rfl rfl rfl rfl (by kernel_rfl) Try.func8 (by kernel_rfl)
    (of_decide_eq_true (by kernel_rfl)) (by unfold Func.isWrapper; first | (rw [if_pos (by decide +kernel)]; kernel_rfl) | (rw [if_neg (by decide +kernel)]; exact ⟨rfl, rfl⟩))
    (fun os started H enc _ => lifted os started H enc)

theorem sarcFalls_holds : Rows.SarcFallsSaid := over
#print axioms sarcFalls_holds
end Go.Proofs.Ytpmhpamajkhhiaa.sarcFalls

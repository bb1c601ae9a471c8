/- Proved: the statement SarcFronts of layer 7, for every count of frames, every row of steps and every frame that is hit, on no condition. -/
import Derived.Test.YtpmhpamajkhhiaaRows
import Derived.WalkKit
import Derived.ProofKit
import Derived.OpenShut
import Derived.Below
import Derived.Test.YtpmhpamajkhhiaaArgs
import Derived.Test.YtpmhpamajkhhiaaPair7
namespace Go.Proofs.Ytpmhpamajkhhiaa.sarcFronts
open Go.ChangeShapes Go.WideShapes Go.ChangeAt Go.RowKit
set_option linter.unusedVariables false

theorem own : ownKnob Try.prog.godebug = none := by kernel_rfl
theorem laidOut : laidOutB Try.prog = true := by kernel_rfl

set_option maxHeartbeats 16000000 in
set_option maxRecDepth 100000 in
theorem walk (w : World) (a : Int) (wa : (Lit.int .u8 a).wf = true) (A : Option Addr) (len cap : Nat) (xs : List Act1) (hmax : len ≤ maxLen) (hlen : xs.length = len) (hold : Holds w A 3 Act1.cells xs) (_ : ∀ a ∈ xs, True) (pa : Int) (wpa : (Lit.int .u8 pa).wf = true) (pb : Int) (wpb : (Lit.int .u8 pb).wf = true) :
    Calls Try.prog 7 #[.int .u8 a, .slice A len cap, .agg #[.int .u8 pa, .int .u8 pb]] w fun e w' => e = .returned (.bool true) ∧ Below w.heap.size w w' := by
  obtain ⟨la, ua⟩ := bd_u8 wa
  obtain ⟨lpa, upa⟩ := bd_u8 wpa
  obtain ⟨lpb, upb⟩ := bd_u8 wpb
  clear wa wpa wpb
  unfold maxLen at hmax
  have HL := Lib.hid hlen
  have HO := Lib.hid hold
  clear hlen hold
  obtain ⟨N, hN, n1, n64⟩ := count_of a la
  obtain ⟨F, hF, FN⟩ := node_of pa N lpa n1
  obtain ⟨l, hl, l2⟩ : ∃ l : Nat, pb % 2 = (l : Int) ∧ l < 2 := ⟨(pb % 2).toNat, by omega, by omega⟩
  have nz : ((N : Int) == 0) = false := by simp; omega
  have nz2 : (N : Int) ≠ 0 := by omega
  have nz3 : ¬ N = 0 := by omega
  have NW := Lib.hid (fun w => snew_one N w n1 n64)
  have RN := Lib.hid (fun w => snew_one_ref N w n1 n64)
  obtain ⟨i0, hy0, hz0, hz1, hz2⟩ := info_parts info_int8
  have I0 := Lib.hid hy0
  have I1 := Lib.hid hz0
  have I2 := Lib.hid hz1
  have I3 := Lib.hid hz2
  clear hy0 hz0 hz1 hz2
  go_enter Try.func7, Try.ntmps7
  go_wp2_with fail
  have oa0 := (Only.refl none_ w).alloc (.cells #[.int .u8 pa, .int .u8 pb] 54)
  have ra0 := Row.fresh w 54 #[.int .u8 pa, .int .u8 pb]
  generalize w.alloc (.cells #[.int .u8 pa, .int .u8 pb] 54) = w0 at *
  have B0 := Lib.hid (oa0.to_below)
  have R0 := Lib.hid ra0
  clear oa0 ra0
  (with_reducible refine (awake_any _).mono ?_)
  rintro e w1 ⟨rfl, b1⟩
  have B1 := Lib.hid (B0.out.trans (b1.mono B0.out.size))
  have R1 := Lib.hid ((below_only b1).still R0.out)
  clear b1
  go_wp2_with fail
  (with_reducible refine (NW.out _).mono ?_)
  rintro e w2 ⟨P, p, b, rfl, h, lP, lp, lb, o⟩
  have H2 := Lib.hid h
  have B2 := Lib.hid (Only.below_to B1.out o (Nat.le_refl _) (fun _ _ s => s))
  have R2 := Lib.hid (o.still R1.out)
  have lP' : w.heap.size < P := by have := R1.out.lt; omega
  have lb' : w.heap.size < b := by have := R1.out.lt; omega
  clear h o lP lp lb B1 R1 R0 B0
  go_wp2_with fail
  go_loopw [10] (fun i wr => ∃ (j : Nat) (c : Sc), j ≤ len ∧ j ≤ 150 ∧ i = .int .i64 j ∧ SLies wr P p b c ∧ c.s.n = N ∧ c.us.length ≤ j ∧ Row wr w.heap.size 54 #[.int .u8 pa, .int .u8 pb] ∧ Below w.heap.size w wr) (fun i _ => len - (intOf i).toNat)
  case atStart => exact ⟨0, newSc N 1, Nat.zero_le _, Nat.zero_le _, rfl, H2.out, rfl, Nat.zero_le _, R2.out, B2.out⟩
  case round =>
    obtain ⟨j, c, hj, hj2, rfl, h, cn, us, rp, bl⟩ := hrel
    clear H2 B2 R2
    have H := Lib.hid h
    have B := Lib.hid bl
    have RP := Lib.hid rp
    have CN := Lib.hid cn
    clear h bl cn rp
    have us1 : c.us.length < 1000000 := by omega
    have t12 : (j < len ∧ j < 150) ∨ (j < len ∧ 150 ≤ j) ∨ len ≤ j := by omega
    rcases t12 with ⟨t1, t2⟩ | t1
    · obtain ⟨act, hact⟩ : ∃ act, xs[j]? = some act := ⟨_, List.getElem?_eq_getElem (by rw [HL.out]; exact t1)⟩
      obtain ⟨sb, so, hA, hsb, c0, c1, c2⟩ := act_at HO.out B.out hact
      subst hA
      have AC := Lib.hid (act_more HO.out hact)
      obtain ⟨d, hd⟩ : ∃ d, stepS c act = d := ⟨_, rfl⟩
      have DN := Lib.hid (show d.s.n = N from hd ▸ (stepS_n H.out.fine act).1.trans CN.out)
      have us2 : d.us.length ≤ c.us.length + 1 := hd ▸ stepS_us H.out.fine act
      have U0 : (newSc N 1).us.length < 1000000 := by show 0 < 1000000; decide
      clear hact c0 c1 c2
      go_wp2_with fail
      have OD := Lib.hid ((Only.refl none_ wr).drew)
      have HD := Lib.hid (H.out.still OD.out)
      have BD := Lib.hid (Only.below_to B.out OD.out (Nat.le_refl _) (fun _ _ s => s))
      have z5 := BD.out.size
      have lrp := RP.out.lt
      go_region_held3 (fun w' => w'.cell? ⟨sb, so + j * 3, none⟩ = some (.int .i64 act.kind) ∧ w'.cell? ⟨sb, so + j * 3 + 1, none⟩ = some (.int .i64 act.frame) ∧ w'.cell? ⟨sb, so + j * 3 + 2, none⟩ = some (.int .i64 act.list))
        (first
          | (with_reducible exact AC.out _ BS.out)
          | (with_reducible exact AC.out _ BN.out)
          | (with_reducible exact AC.out _ BD.out)
          | fail)
        (first
          | (go_at_call 12; (with_reducible refine (RN.out _).mono ?_); rintro e w6 ⟨r, q, hb, base, rfl, hr, lr, lq, lh, lba, k1', k2', k3', k4', o6⟩; have ON := Lib.hid (OD.out.same o6); have BN := Lib.hid (Only.below_to BD.out o6 (Nat.le_refl _) (fun _ _ s => s)); have HB := Lib.hid (Both.made HD.out hr lr lq lh lba o6); have GT := Lib.hid (show wr.heap.size ≤ r ∧ wr.heap.size ≤ q ∧ wr.heap.size ≤ hb ∧ wr.heap.size ≤ base from And.intro lr (And.intro lq (And.intro lh lba))))
          | (go_at_call 13; (with_reducible refine (step_any P p b r q hb _ c (newSc N 1) act _ HB.out us1 U0).mono ?_); rintro e w7 ⟨t, rfl, _, h7, o7⟩; have OS := Lib.hid ((ON.out.up (S := six P b r q hb (fun g => base ≤ g))).same o7); have BS := Lib.hid (Only.below_to B.out OS.out (Nat.le_refl _) (fun i hi e => by have := GT.out; have := B.out.size; unfold six two rset at e; omega)); have HS7 := Lib.hid h7.one)
          | fail)
      have RP7 := Lib.hid (OS.out.row RP.out (fun e => by have := GT.out; unfold six two rset at e; omega))
      rw [hd] at HS7
      rename_i hHeld
      clear hHeld RN ON HB GT OS o6 o7 h7 hr BN BD HD OD
      go_wp2_with fail
      go_roundw
      case rel => exact ⟨j + 1, d, by omega, by omega, by go_num, HS7.out, DN.out, by omega, RP7.out, BS.out⟩
      case measure => simp [intOf]; omega
    · have lrp := RP.out.lt
      have pc0 : wr.cell? ⟨w.heap.size, 0, none⟩ = some (.int .u8 pa) := (RP.out.cell 0).trans rfl
      have pc1 : wr.cell? ⟨w.heap.size, 1, none⟩ = some (.int .u8 pb) := (RP.out.cell 1).trans rfl
      have PO := Lib.hid (pol_any P p b c wr H.out)
      have ltw := H.out.raw.lt
      have fn : F < c.s.n := by rw [CN.out]; exact FN
      have le0 := fine_len0 H.out.fine.s
      have le1 := fine_len1 H.out.fine.s
      have leh := held_len7 H.out.fine.s
      rcases t1 with ⟨t1, t2⟩ | t1
      all_goals
        go_wp2_with fail
        (with_reducible refine (PO.out).mono ?_)
        rintro e w4 ⟨a0, n0, k0, a1, n1', k1, a2, n2', k2, rfl, s0, s1, s2, o4⟩
        have oa := (Only.refl none_ w4).alloc (.cells #[.slice a0 n0 k0, .slice a1 n1' k1, .slice a2 n2' k2, .int .i64 c.want, .int .u64 c.miss, .int .u64 c.hits] 39)
        have ra := Row.fresh w4 39 #[.slice a0 n0 k0, .slice a1 n1' k1, .slice a2 n2' k2, .int .i64 c.want, .int .u64 c.miss, .int .u64 c.hits]
        have B5 := Lib.hid (Only.below_to (below_on7 B.out o4) oa (Nat.le_refl _) (fun _ _ s => s))
        have H5 := Lib.hid ((H.out.on o4).still oa)
        have S0 := Lib.hid (s0.still oa)
        have S1 := Lib.hid (s1.still oa)
        have S2 := Lib.hid (s2.still oa)
        have RA := Lib.hid ra
        have lw := o4.size
        have HT := Lib.hid (hit_any P p b c F l _ H5.out us1)
        clear s0 s1 s2 o4 oa ra PO pc0 pc1
        by_cases ql : c.s.lst F = -1
        · obtain ⟨x0, x1, x2⟩ := hit_gone fn l2 ql
          rw [x0] at HT
          clear x0 ql
          go_wp2_with fail
          (with_reducible refine (HT.out).mono ?_)
          rintro e w6 ⟨rfl, _, o6⟩
          have B6 := Lib.hid (below_set B5.out o6 (Nat.le_of_lt lP') (Nat.le_of_lt lb'))
          have rp6 := o6.row RA.out (by unfold two; omega)
          have q0 : w6.cell? ⟨w4.heap.size, 0, none⟩ = some (.slice a0 n0 k0) := (rp6.cell 0).trans rfl
          have q1 : w6.cell? ⟨w4.heap.size, 1, none⟩ = some (.slice a1 n1' k1) := (rp6.cell 1).trans rfl
          have K0 := S0.out.keep o6 (fun g hg e => by have := (S0.out.base_le hg).1; unfold two at e; omega)
          have K1 := S1.out.keep o6 (fun g hg e => by have := (S1.out.base_le hg).1; unfold two at e; omega)
          have F0 := find_any _ _ (F : Int) w6 (Reads.of_owns K0) (by rw [ints_len]; omega)
          have F1 := find_any _ _ (F : Int) w6 (Reads.of_owns K1) (by rw [ints_len]; omega)
          rw [x1] at F0
          rw [x2] at F1
          replace F0 := Lib.hid F0
          replace F1 := Lib.hid F1
          clear o6 rp6 K0 K1 x1 x2 HT
          go_wp2_with fail
          (with_reducible refine (F0.out).mono ?_)
          rintro e w' ⟨rfl, rfl⟩
          go_wp2_with fail
          (with_reducible refine (F1.out).mono ?_)
          rintro e w' ⟨rfl, rfl⟩
          go_wp2_with fail
          go_ret
          exact ⟨rfl, B6.out⟩
        · obtain ⟨x0, s1, s2, s3, s4⟩ := hit_front H.out.fine fn l2 ql
          rw [x0] at HT
          have lm := H.out.fine.miss
          have lh := H.out.fine.hits
          obtain ⟨d, hd⟩ : ∃ d, c.hitS F l = d := ⟨_, rfl⟩
          rw [hd] at HT s1 s2 s3 s4
          have DM := Lib.hid (show ((d.miss : Int) ≤ (c.miss : Int)) from by omega)
          have DH := Lib.hid (show ((d.hits : Int) ≤ (c.hits : Int) + 1) from by omega)
          have LH := Lib.hid (show ((c.hits : Int) < 64) from by omega)
          have S1E := Lib.hid s1
          have S2E := Lib.hid s2
          clear x0 hd ql s1 s2 s3 s4 lm lh
          go_wp2_with fail
          (with_reducible refine (HT.out).mono ?_)
          rintro e w6 ⟨rfl, h6, o6⟩
          have B6 := Lib.hid (below_set B5.out o6 (Nat.le_of_lt lP') (Nat.le_of_lt lb'))
          have RA6 := Lib.hid (o6.row RA.out (by unfold two; omega))
          have K0 := Lib.hid (S0.out.keep o6 (fun g hg e => by have := (S0.out.base_le hg).1; unfold two at e; omega))
          have K1 := Lib.hid (S1.out.keep o6 (fun g hg e => by have := (S1.out.base_le hg).1; unfold two at e; omega))
          have K2 := Lib.hid (S2.out.keep o6 (fun g hg e => by have := (S2.out.base_le hg).1; unfold two at e; omega))
          have PO2 := Lib.hid (pol_any P p b d w6 h6)
          have LD := Lib.hid (show d.s.l0.length ≤ 64 ∧ d.s.l1.length ≤ 64 ∧ d.s.heldL.length ≤ 64 from ⟨fine_len0 h6.fine.s, fine_len1 h6.fine.s, held_len7 h6.fine.s⟩)
          clear o6 h6 HT S0 S1 S2 RA H5 B5
          go_wp2_with fail
          (with_reducible refine (PO2.out).mono ?_)
          rintro e w8 ⟨a3, n3', k3, a4, n4', k4, a5, n5', k5, rfl, s3, s4, s5, o8⟩
          have e3 := own_len s3
          have e4 := own_len s4
          have e5 := own_len s5
          rw [ints_len] at e3 e4 e5
          subst e3 e4 e5
          have oa := (Only.refl none_ w8).alloc (.cells #[.slice a3 d.s.l0.length k3, .slice a4 d.s.l1.length k4, .slice a5 d.s.heldL.length k5, .int .i64 d.want, .int .u64 d.miss, .int .u64 d.hits] 39)
          have rb := Row.fresh w8 39 #[.slice a3 d.s.l0.length k3, .slice a4 d.s.l1.length k4, .slice a5 d.s.heldL.length k5, .int .i64 d.want, .int .u64 d.miss, .int .u64 d.hits]
          have O9 := (below_only o8).same oa
          have B9 := Lib.hid (Only.below_to B6.out O9 (Nat.le_refl _) (fun _ _ s => s))
          have RA9 := Lib.hid (RA6.out |> O9.still)
          have RB9 := Lib.hid rb
          have V0 := Lib.hid (K0.out.still O9)
          have V1 := Lib.hid (K1.out.still O9)
          have V2 := Lib.hid (K2.out.still O9)
          have V3 := Lib.hid (s3.still oa)
          have V4 := Lib.hid (s4.still oa)
          have V5 := Lib.hid (s5.still oa)
          generalize hW : w8.alloc (.cells #[.slice a3 d.s.l0.length k3, .slice a4 d.s.l1.length k4, .slice a5 d.s.heldL.length k5, .int .i64 d.want, .int .u64 d.miss, .int .u64 d.hits] 39) = W9 at *
          have HW := Lib.hid hW
          clear hW O9 oa rb o8 s3 s4 s5 K0 K1 K2 B6 RA6 PO2
          have LC := Lib.hid (show c.s.l0.length ≤ 64 ∧ c.s.l1.length ≤ 64 ∧ c.s.heldL.length ≤ 64 from ⟨le0, le1, leh⟩)
          have l01 : l = 0 ∨ l = 1 := by omega
          rcases l01 with rfl | rfl
          · have E0 := Lib.hid (show d.s.l0 = F :: c.s.l0.erase F from by rw [S1E.out]; rfl)
            have E1 := Lib.hid (show d.s.l1 = c.s.l1.erase F from by rw [S1E.out]; rfl)
            clear S1E
            go_wp2_with fail
            go_loopw [15] (fun kv wx => ∃ K : Nat, K ≤ 2 ∧ kv = .int .i64 K ∧ Only none_ W9 wx) (fun kv _ => 2 - (intOf kv).toNat)
            case atStart => exact ⟨0, by decide, rfl, by rw [HW.out]; exact Only.refl _ _⟩
            case round =>
              obtain ⟨K, hK, rfl, oK⟩ := hrel
              have O := Lib.hid oK
              clear oK
              have t3 : K = 0 ∨ K = 1 ∨ K = 2 := by omega
              rcases t3 with rfl | rfl | rfl
              · have q1 : wr.cell? ⟨w4.heap.size, 0, none⟩ = some (.slice a0 n0 k0) := ((O.out.still RA9.out).cell 0).trans rfl
                have LX := Lib.hid (show (ints c.s.l0).length ≤ 1000000 from by rw [ints_len]; have := LC.out.1; omega)
                have LY := Lib.hid (show (ints d.s.l0).length ≤ 1000000 from by rw [ints_len]; have := LD.out.1; omega)
                have FD := find_any _ _ (F : Int) _ (Reads.of_owns (V0.out.still O.out)) LX.out
                by_cases m : F ∈ c.s.l0
                · rw [findI_in m] at FD
                  replace FD := Lib.hid FD
                  have ix0 : decide (((c.s.l0.idxOf F : Nat) : Int) < 0) = false := by simp
                  have ix1 : decide (0 ≤ ((c.s.l0.idxOf F : Nat) : Int)) = true := by simp
                  have ixl := List.idxOf_lt_length_of_mem m
                  have WO := without_any _ (ints c.s.l0) (c.s.l0.idxOf F) _ _ (V0.out.still O.out) LX.out (by rw [ints_len]; exact ixl)
                  rw [ints_cut, ← erase_take m] at WO
                  replace WO := Lib.hid WO
                  clear ixl m
                  go_wp2_with fail
                  (with_reducible refine (FD.out).mono ?_)
                  rintro e w' ⟨rfl, rfl⟩
                  go_wp2_with fail
                  (with_reducible refine (FD.out).mono ?_)
                  rintro e w' ⟨rfl, rfl⟩
                  go_wp2_with fail
                  (with_reducible refine (WO.out).mono ?_)
                  rintro e w10 ⟨v10, rfl, hv10, o10⟩
                  have O10 := Lib.hid (O.out.same o10)
                  have V10 := Lib.hid hv10
                  clear hv10 o10 WO FD
                  have OA := Lib.hid ((Only.refl none_ w10).alloc (.cells #[.int .i64 F] 3))
                  have RF := Lib.hid (Row.fresh w10 3 #[.int .i64 F])
                  rcases own_cases V10.out with ⟨rfl, eq⟩ | ⟨g, cp, rfl, hg, hg2, hcell⟩
                  · skip
                    have OL := Lib.hid (O10.out.same OA.out)
                    have q3 : (((w10).alloc (.cells #[.int .i64 F] 3))).cell? ⟨w8.heap.size, 0, none⟩ = some (.slice a3 d.s.l0.length k3) := ((OL.out.still RB9.out).cell 0).trans rfl
                    have IN := ints_any (.slice a3 d.s.l0.length k3) (.slice (some ⟨(w10).heap.size, 0, none⟩) 1 1) (ints d.s.l0) (ints d.s.l0) ((w10).alloc (.cells #[.int .i64 F] 3)) (Reads.of_owns (V3.out.still OL.out)) (by rw [E0.out, ints_cons, eq]; exact Reads.of_owns (own_one RF.out)) LY.out LY.out
                    rw [decide_eq_true (Eq.refl (ints d.s.l0))] at IN
                    replace IN := Lib.hid IN
                    clear eq
                    go_wp2_with fail
                    (with_reducible refine (IN.out).mono ?_)
                    rintro e w12 ⟨rfl, o12⟩
                    have O12 := Lib.hid (OL.out.same o12)
                    clear o12 IN
                    go_wp2_with fail
                    go_roundw
                    case rel => exact ⟨1, by omega, by go_num, O12.out⟩
                    case measure => simp [intOf]
                  · skip
                    have X5 := Lib.hid (show (ints (c.s.l0.erase F)).length ≤ 1000000 from by rw [ints_len]; have := List.length_erase_le (a := F) (l := c.s.l0); have := LC.out.1; omega)
                    have HC := Lib.hid (fun a u (ha : ((ints (c.s.l0.erase F)).map (Value.int .i64))[a]? = some u) => OA.out.cell (hcell a u ha) (fun s => s))
                    clear hcell
                    go_wp2_with (at_builtin; go_loud (refine wpList_append_frontN rfl (.tmp 101) (.tmp 102) 35 rfl i0 _ Try.underlying35 I0.out I1.out I2.out I3.out rfl rfl RF.out rfl HC.out X5.out ?_; intro v12 w11 hown12 hO12; have O11 := Lib.hid (O10.out.same (OA.out.trans hO12 (S := none_) (fun i hi q => absurd hi (by omega)))); have q3 : w11.cell? ⟨w8.heap.size, 0, none⟩ = some (.slice a3 d.s.l0.length k3) := ((O11.out.still RB9.out).cell 0).trans rfl))
                    have OL := Lib.hid (O11.out)
                    have q3 : (w11).cell? ⟨w8.heap.size, 0, none⟩ = some (.slice a3 d.s.l0.length k3) := ((OL.out.still RB9.out).cell 0).trans rfl
                    have IN := ints_any (.slice a3 d.s.l0.length k3) v12 (ints d.s.l0) (ints d.s.l0) w11 (Reads.of_owns (V3.out.still OL.out)) (by rw [E0.out]; exact Reads.of_owns hown12) LY.out LY.out
                    rw [decide_eq_true (Eq.refl (ints d.s.l0))] at IN
                    replace IN := Lib.hid IN
                    clear hown12 hO12
                    go_wp2_with fail
                    (with_reducible refine (IN.out).mono ?_)
                    rintro e w12 ⟨rfl, o12⟩
                    have O12 := Lib.hid (OL.out.same o12)
                    clear o12 IN
                    go_wp2_with fail
                    go_roundw
                    case rel => exact ⟨1, by omega, by go_num, O12.out⟩
                    case measure => simp [intOf]
                · rw [findI_no (fun q => m (mem_ints.1 q))] at FD
                  replace FD := Lib.hid FD
                  have EM := Lib.hid (List.erase_of_not_mem m)
                  clear m
                  go_wp2_with fail
                  (with_reducible refine (FD.out).mono ?_)
                  rintro e w10 ⟨rfl, rfl⟩
                  clear FD
                  have VZ := Lib.hid (V0.out.still O.out)
                  have OA := Lib.hid ((Only.refl none_ wr).alloc (.cells #[.int .i64 F] 3))
                  have RF := Lib.hid (Row.fresh wr 3 #[.int .i64 F])
                  rcases own_cases (show OwnsInts wr _ (.slice a0 n0 k0) (ints (c.s.l0.erase F)) from by rw [EM.out]; exact VZ.out) with ⟨qq, eq⟩ | ⟨g, cp, qq, hg, hg2, hcell⟩ <;> injection qq with qa qn qk
                  · skip
                    subst qa qn qk
                    have OL := Lib.hid (O.out.same OA.out)
                    have q3 : (((wr).alloc (.cells #[.int .i64 F] 3))).cell? ⟨w8.heap.size, 0, none⟩ = some (.slice a3 d.s.l0.length k3) := ((OL.out.still RB9.out).cell 0).trans rfl
                    have IN := ints_any (.slice a3 d.s.l0.length k3) (.slice (some ⟨(wr).heap.size, 0, none⟩) 1 1) (ints d.s.l0) (ints d.s.l0) ((wr).alloc (.cells #[.int .i64 F] 3)) (Reads.of_owns (V3.out.still OL.out)) (by rw [E0.out, ints_cons, eq]; exact Reads.of_owns (own_one RF.out)) LY.out LY.out
                    rw [decide_eq_true (Eq.refl (ints d.s.l0))] at IN
                    replace IN := Lib.hid IN
                    clear eq
                    go_wp2_with fail
                    (with_reducible refine (IN.out).mono ?_)
                    rintro e w12 ⟨rfl, o12⟩
                    have O12 := Lib.hid (OL.out.same o12)
                    clear o12 IN
                    go_wp2_with fail
                    go_roundw
                    case rel => exact ⟨1, by omega, by go_num, O12.out⟩
                    case measure => simp [intOf]
                  · skip
                    subst qa qn qk
                    have X5 := Lib.hid (show (ints (c.s.l0.erase F)).length ≤ 1000000 from by rw [ints_len]; have := List.length_erase_le (a := F) (l := c.s.l0); have := LC.out.1; omega)
                    have HC := Lib.hid (fun a u (ha : ((ints (c.s.l0.erase F)).map (Value.int .i64))[a]? = some u) => OA.out.cell (hcell a u ha) (fun s => s))
                    clear hcell
                    go_wp2_with (at_builtin; go_loud (refine wpList_append_frontN rfl (.tmp 101) (.tmp 102) 35 rfl i0 _ Try.underlying35 I0.out I1.out I2.out I3.out rfl rfl RF.out rfl HC.out X5.out ?_; intro v12 w11 hown12 hO12; have O11 := Lib.hid (O.out.same (OA.out.trans hO12 (S := none_) (fun i hi q => absurd hi (by omega)))); have q3 : w11.cell? ⟨w8.heap.size, 0, none⟩ = some (.slice a3 d.s.l0.length k3) := ((O11.out.still RB9.out).cell 0).trans rfl))
                    have OL := Lib.hid (O11.out)
                    have q3 : (w11).cell? ⟨w8.heap.size, 0, none⟩ = some (.slice a3 d.s.l0.length k3) := ((OL.out.still RB9.out).cell 0).trans rfl
                    have IN := ints_any (.slice a3 d.s.l0.length k3) v12 (ints d.s.l0) (ints d.s.l0) w11 (Reads.of_owns (V3.out.still OL.out)) (by rw [E0.out]; exact Reads.of_owns hown12) LY.out LY.out
                    rw [decide_eq_true (Eq.refl (ints d.s.l0))] at IN
                    replace IN := Lib.hid IN
                    clear hown12 hO12
                    go_wp2_with fail
                    (with_reducible refine (IN.out).mono ?_)
                    rintro e w12 ⟨rfl, o12⟩
                    have O12 := Lib.hid (OL.out.same o12)
                    clear o12 IN
                    go_wp2_with fail
                    go_roundw
                    case rel => exact ⟨1, by omega, by go_num, O12.out⟩
                    case measure => simp [intOf]
              · have q1 : wr.cell? ⟨w4.heap.size, 1, none⟩ = some (.slice a1 n1' k1) := ((O.out.still RA9.out).cell 1).trans rfl
                have LX := Lib.hid (show (ints c.s.l1).length ≤ 1000000 from by rw [ints_len]; have := LC.out.2.1; omega)
                have LY := Lib.hid (show (ints d.s.l1).length ≤ 1000000 from by rw [ints_len]; have := LD.out.2.1; omega)
                have FD := find_any _ _ (F : Int) _ (Reads.of_owns (V1.out.still O.out)) LX.out
                by_cases m : F ∈ c.s.l1
                · rw [findI_in m] at FD
                  replace FD := Lib.hid FD
                  have ix0 : decide (((c.s.l1.idxOf F : Nat) : Int) < 0) = false := by simp
                  have ix1 : decide (0 ≤ ((c.s.l1.idxOf F : Nat) : Int)) = true := by simp
                  have ixl := List.idxOf_lt_length_of_mem m
                  have WO := without_any _ (ints c.s.l1) (c.s.l1.idxOf F) _ _ (V1.out.still O.out) LX.out (by rw [ints_len]; exact ixl)
                  rw [ints_cut, ← erase_take m] at WO
                  replace WO := Lib.hid WO
                  clear ixl m
                  go_wp2_with fail
                  (with_reducible refine (FD.out).mono ?_)
                  rintro e w' ⟨rfl, rfl⟩
                  go_wp2_with fail
                  (with_reducible refine (FD.out).mono ?_)
                  rintro e w' ⟨rfl, rfl⟩
                  go_wp2_with fail
                  (with_reducible refine (WO.out).mono ?_)
                  rintro e w10 ⟨v10, rfl, hv10, o10⟩
                  have O10 := Lib.hid (O.out.same o10)
                  have V10 := Lib.hid hv10
                  clear hv10 o10 WO FD
                  have OL := Lib.hid (O10.out)
                  have q3 : (w10).cell? ⟨w8.heap.size, 1, none⟩ = some (.slice a4 d.s.l1.length k4) := ((OL.out.still RB9.out).cell 1).trans rfl
                  have IN := ints_any (.slice a4 d.s.l1.length k4) v10 (ints d.s.l1) (ints d.s.l1) w10 (Reads.of_owns (V4.out.still OL.out)) (by rw [E1.out]; exact Reads.of_owns V10.out) LY.out LY.out
                  rw [decide_eq_true (Eq.refl (ints d.s.l1))] at IN
                  replace IN := Lib.hid IN
                  go_wp2_with fail
                  (with_reducible refine (IN.out).mono ?_)
                  rintro e w12 ⟨rfl, o12⟩
                  have O12 := Lib.hid (OL.out.same o12)
                  clear o12 IN
                  go_wp2_with fail
                  go_roundw
                  case rel => exact ⟨2, by omega, by go_num, O12.out⟩
                  case measure => simp [intOf]
                · rw [findI_no (fun q => m (mem_ints.1 q))] at FD
                  replace FD := Lib.hid FD
                  have EM := Lib.hid (List.erase_of_not_mem m)
                  clear m
                  go_wp2_with fail
                  (with_reducible refine (FD.out).mono ?_)
                  rintro e w10 ⟨rfl, rfl⟩
                  clear FD
                  have OL := Lib.hid (O.out)
                  have q3 : (wr).cell? ⟨w8.heap.size, 1, none⟩ = some (.slice a4 d.s.l1.length k4) := ((OL.out.still RB9.out).cell 1).trans rfl
                  have IN := ints_any (.slice a4 d.s.l1.length k4) (.slice a1 n1' k1) (ints d.s.l1) (ints d.s.l1) wr (Reads.of_owns (V4.out.still OL.out)) (by rw [E1.out, EM.out]; exact Reads.of_owns (V1.out.still O.out)) LY.out LY.out
                  rw [decide_eq_true (Eq.refl (ints d.s.l1))] at IN
                  replace IN := Lib.hid IN
                  go_wp2_with fail
                  (with_reducible refine (IN.out).mono ?_)
                  rintro e w12 ⟨rfl, o12⟩
                  have O12 := Lib.hid (OL.out.same o12)
                  clear o12 IN
                  go_wp2_with fail
                  go_roundw
                  case rel => exact ⟨2, by omega, by go_num, O12.out⟩
                  case measure => simp [intOf]
              · have OD := Lib.hid ((O.out).same (Only.refl none_ wr).drew)
                have KS := Lib.hid (fun w' (o : Only none_ W9 w') => show w'.cell? ⟨w8.heap.size, 2, none⟩ = some (.slice a5 d.s.heldL.length k5) ∧ w'.cell? ⟨w4.heap.size, 2, none⟩ = some (.slice a2 n2' k2) ∧ w'.cell? ⟨w8.heap.size, 4, none⟩ = some (.int .u64 d.miss) ∧ w'.cell? ⟨w4.heap.size, 4, none⟩ = some (.int .u64 c.miss) ∧ w'.cell? ⟨w8.heap.size, 5, none⟩ = some (.int .u64 d.hits) ∧ w'.cell? ⟨w4.heap.size, 5, none⟩ = some (.int .u64 c.hits) from ⟨((o.still RB9.out).cell 2).trans rfl, ((o.still RA9.out).cell 2).trans rfl, ((o.still RB9.out).cell 4).trans rfl, ((o.still RA9.out).cell 4).trans rfl, ((o.still RB9.out).cell 5).trans rfl, ((o.still RA9.out).cell 5).trans rfl⟩)
                have INF := Lib.hid (fun w' (o : Only none_ W9 w') => show Calls Try.prog 25 #[.slice a5 d.s.heldL.length k5, .slice a2 n2' k2] w' fun e w'' => e = .returned (.bool true) ∧ Only none_ w' w'' from by
                  have X := ints_any (.slice a5 d.s.heldL.length k5) (.slice a2 n2' k2) (ints d.s.heldL) (ints d.s.heldL) w' (Reads.of_owns (V5.out.still o)) (by rw [S2E.out]; exact Reads.of_owns (V2.out.still o)) (by rw [ints_len]; have := LD.out.2.2; omega) (by rw [ints_len]; have := LD.out.2.2; omega)
                  rw [decide_eq_true (Eq.refl (ints d.s.heldL))] at X
                  exact X)
                have u1 : IntKind.u64.wrap ((c.hits : Int) + 1) = (c.hits : Int) + 1 := by rw [IntKind.wrap_u64]; have := LH.out; omega
                have dm1 : decide ((d.miss : Int) ≤ (c.miss : Int)) = true := decide_eq_true DM.out
                have dh1 : decide ((d.hits : Int) ≤ (c.hits : Int) + 1) = true := decide_eq_true DH.out
                have dm2 : decide (d.miss ≤ c.miss) = true := decide_eq_true (by have := DM.out; omega)
                have dh2 : decide (d.hits ≤ c.hits + 1) = true := decide_eq_true (by have := DH.out; omega)
                obtain ⟨q1, q2, q3, q4, q5, q6⟩ := KS.out _ O.out
                go_wp2_with fail
                (with_reducible refine (INF.out _ O.out).mono ?_)
                rintro e w12 ⟨rfl, o12⟩
                clear q1 q2 q3 q4 q5 q6
                have O12 := Lib.hid (O.out.same o12)
                obtain ⟨q1, q2, q3, q4, q5, q6⟩ := KS.out _ O12.out
                have B12 := Lib.hid (Only.below_to B9.out O12.out (Nat.le_refl _) (fun _ _ s => s))
                clear o12
                go_wp2_with fail
                go_ret
                exact ⟨rfl, B12.out⟩
          · have E0 := Lib.hid (show d.s.l0 = c.s.l0.erase F from by rw [S1E.out]; rfl)
            have E1 := Lib.hid (show d.s.l1 = F :: c.s.l1.erase F from by rw [S1E.out]; rfl)
            clear S1E
            go_wp2_with fail
            go_loopw [15] (fun kv wx => ∃ K : Nat, K ≤ 2 ∧ kv = .int .i64 K ∧ Only none_ W9 wx) (fun kv _ => 2 - (intOf kv).toNat)
            case atStart => exact ⟨0, by decide, rfl, by rw [HW.out]; exact Only.refl _ _⟩
            case round =>
              obtain ⟨K, hK, rfl, oK⟩ := hrel
              have O := Lib.hid oK
              clear oK
              have t3 : K = 0 ∨ K = 1 ∨ K = 2 := by omega
              rcases t3 with rfl | rfl | rfl
              · have q1 : wr.cell? ⟨w4.heap.size, 0, none⟩ = some (.slice a0 n0 k0) := ((O.out.still RA9.out).cell 0).trans rfl
                have LX := Lib.hid (show (ints c.s.l0).length ≤ 1000000 from by rw [ints_len]; have := LC.out.1; omega)
                have LY := Lib.hid (show (ints d.s.l0).length ≤ 1000000 from by rw [ints_len]; have := LD.out.1; omega)
                have FD := find_any _ _ (F : Int) _ (Reads.of_owns (V0.out.still O.out)) LX.out
                by_cases m : F ∈ c.s.l0
                · rw [findI_in m] at FD
                  replace FD := Lib.hid FD
                  have ix0 : decide (((c.s.l0.idxOf F : Nat) : Int) < 0) = false := by simp
                  have ix1 : decide (0 ≤ ((c.s.l0.idxOf F : Nat) : Int)) = true := by simp
                  have ixl := List.idxOf_lt_length_of_mem m
                  have WO := without_any _ (ints c.s.l0) (c.s.l0.idxOf F) _ _ (V0.out.still O.out) LX.out (by rw [ints_len]; exact ixl)
                  rw [ints_cut, ← erase_take m] at WO
                  replace WO := Lib.hid WO
                  clear ixl m
                  go_wp2_with fail
                  (with_reducible refine (FD.out).mono ?_)
                  rintro e w' ⟨rfl, rfl⟩
                  go_wp2_with fail
                  (with_reducible refine (FD.out).mono ?_)
                  rintro e w' ⟨rfl, rfl⟩
                  go_wp2_with fail
                  (with_reducible refine (WO.out).mono ?_)
                  rintro e w10 ⟨v10, rfl, hv10, o10⟩
                  have O10 := Lib.hid (O.out.same o10)
                  have V10 := Lib.hid hv10
                  clear hv10 o10 WO FD
                  have OL := Lib.hid (O10.out)
                  have q3 : (w10).cell? ⟨w8.heap.size, 0, none⟩ = some (.slice a3 d.s.l0.length k3) := ((OL.out.still RB9.out).cell 0).trans rfl
                  have IN := ints_any (.slice a3 d.s.l0.length k3) v10 (ints d.s.l0) (ints d.s.l0) w10 (Reads.of_owns (V3.out.still OL.out)) (by rw [E0.out]; exact Reads.of_owns V10.out) LY.out LY.out
                  rw [decide_eq_true (Eq.refl (ints d.s.l0))] at IN
                  replace IN := Lib.hid IN
                  go_wp2_with fail
                  (with_reducible refine (IN.out).mono ?_)
                  rintro e w12 ⟨rfl, o12⟩
                  have O12 := Lib.hid (OL.out.same o12)
                  clear o12 IN
                  go_wp2_with fail
                  go_roundw
                  case rel => exact ⟨1, by omega, by go_num, O12.out⟩
                  case measure => simp [intOf]
                · rw [findI_no (fun q => m (mem_ints.1 q))] at FD
                  replace FD := Lib.hid FD
                  have EM := Lib.hid (List.erase_of_not_mem m)
                  clear m
                  go_wp2_with fail
                  (with_reducible refine (FD.out).mono ?_)
                  rintro e w10 ⟨rfl, rfl⟩
                  clear FD
                  have OL := Lib.hid (O.out)
                  have q3 : (wr).cell? ⟨w8.heap.size, 0, none⟩ = some (.slice a3 d.s.l0.length k3) := ((OL.out.still RB9.out).cell 0).trans rfl
                  have IN := ints_any (.slice a3 d.s.l0.length k3) (.slice a0 n0 k0) (ints d.s.l0) (ints d.s.l0) wr (Reads.of_owns (V3.out.still OL.out)) (by rw [E0.out, EM.out]; exact Reads.of_owns (V0.out.still O.out)) LY.out LY.out
                  rw [decide_eq_true (Eq.refl (ints d.s.l0))] at IN
                  replace IN := Lib.hid IN
                  go_wp2_with fail
                  (with_reducible refine (IN.out).mono ?_)
                  rintro e w12 ⟨rfl, o12⟩
                  have O12 := Lib.hid (OL.out.same o12)
                  clear o12 IN
                  go_wp2_with fail
                  go_roundw
                  case rel => exact ⟨1, by omega, by go_num, O12.out⟩
                  case measure => simp [intOf]
              · have q1 : wr.cell? ⟨w4.heap.size, 1, none⟩ = some (.slice a1 n1' k1) := ((O.out.still RA9.out).cell 1).trans rfl
                have LX := Lib.hid (show (ints c.s.l1).length ≤ 1000000 from by rw [ints_len]; have := LC.out.2.1; omega)
                have LY := Lib.hid (show (ints d.s.l1).length ≤ 1000000 from by rw [ints_len]; have := LD.out.2.1; omega)
                have FD := find_any _ _ (F : Int) _ (Reads.of_owns (V1.out.still O.out)) LX.out
                by_cases m : F ∈ c.s.l1
                · rw [findI_in m] at FD
                  replace FD := Lib.hid FD
                  have ix0 : decide (((c.s.l1.idxOf F : Nat) : Int) < 0) = false := by simp
                  have ix1 : decide (0 ≤ ((c.s.l1.idxOf F : Nat) : Int)) = true := by simp
                  have ixl := List.idxOf_lt_length_of_mem m
                  have WO := without_any _ (ints c.s.l1) (c.s.l1.idxOf F) _ _ (V1.out.still O.out) LX.out (by rw [ints_len]; exact ixl)
                  rw [ints_cut, ← erase_take m] at WO
                  replace WO := Lib.hid WO
                  clear ixl m
                  go_wp2_with fail
                  (with_reducible refine (FD.out).mono ?_)
                  rintro e w' ⟨rfl, rfl⟩
                  go_wp2_with fail
                  (with_reducible refine (FD.out).mono ?_)
                  rintro e w' ⟨rfl, rfl⟩
                  go_wp2_with fail
                  (with_reducible refine (WO.out).mono ?_)
                  rintro e w10 ⟨v10, rfl, hv10, o10⟩
                  have O10 := Lib.hid (O.out.same o10)
                  have V10 := Lib.hid hv10
                  clear hv10 o10 WO FD
                  have OA := Lib.hid ((Only.refl none_ w10).alloc (.cells #[.int .i64 F] 3))
                  have RF := Lib.hid (Row.fresh w10 3 #[.int .i64 F])
                  rcases own_cases V10.out with ⟨rfl, eq⟩ | ⟨g, cp, rfl, hg, hg2, hcell⟩
                  · skip
                    have OL := Lib.hid (O10.out.same OA.out)
                    have q3 : (((w10).alloc (.cells #[.int .i64 F] 3))).cell? ⟨w8.heap.size, 1, none⟩ = some (.slice a4 d.s.l1.length k4) := ((OL.out.still RB9.out).cell 1).trans rfl
                    have IN := ints_any (.slice a4 d.s.l1.length k4) (.slice (some ⟨(w10).heap.size, 0, none⟩) 1 1) (ints d.s.l1) (ints d.s.l1) ((w10).alloc (.cells #[.int .i64 F] 3)) (Reads.of_owns (V4.out.still OL.out)) (by rw [E1.out, ints_cons, eq]; exact Reads.of_owns (own_one RF.out)) LY.out LY.out
                    rw [decide_eq_true (Eq.refl (ints d.s.l1))] at IN
                    replace IN := Lib.hid IN
                    clear eq
                    go_wp2_with fail
                    (with_reducible refine (IN.out).mono ?_)
                    rintro e w12 ⟨rfl, o12⟩
                    have O12 := Lib.hid (OL.out.same o12)
                    clear o12 IN
                    go_wp2_with fail
                    go_roundw
                    case rel => exact ⟨2, by omega, by go_num, O12.out⟩
                    case measure => simp [intOf]
                  · skip
                    have X5 := Lib.hid (show (ints (c.s.l1.erase F)).length ≤ 1000000 from by rw [ints_len]; have := List.length_erase_le (a := F) (l := c.s.l1); have := LC.out.2.1; omega)
                    have HC := Lib.hid (fun a u (ha : ((ints (c.s.l1.erase F)).map (Value.int .i64))[a]? = some u) => OA.out.cell (hcell a u ha) (fun s => s))
                    clear hcell
                    go_wp2_with (at_builtin; go_loud (refine wpList_append_frontN rfl (.tmp 101) (.tmp 102) 35 rfl i0 _ Try.underlying35 I0.out I1.out I2.out I3.out rfl rfl RF.out rfl HC.out X5.out ?_; intro v12 w11 hown12 hO12; have O11 := Lib.hid (O10.out.same (OA.out.trans hO12 (S := none_) (fun i hi q => absurd hi (by omega)))); have q3 : w11.cell? ⟨w8.heap.size, 1, none⟩ = some (.slice a4 d.s.l1.length k4) := ((O11.out.still RB9.out).cell 1).trans rfl))
                    have OL := Lib.hid (O11.out)
                    have q3 : (w11).cell? ⟨w8.heap.size, 1, none⟩ = some (.slice a4 d.s.l1.length k4) := ((OL.out.still RB9.out).cell 1).trans rfl
                    have IN := ints_any (.slice a4 d.s.l1.length k4) v12 (ints d.s.l1) (ints d.s.l1) w11 (Reads.of_owns (V4.out.still OL.out)) (by rw [E1.out]; exact Reads.of_owns hown12) LY.out LY.out
                    rw [decide_eq_true (Eq.refl (ints d.s.l1))] at IN
                    replace IN := Lib.hid IN
                    clear hown12 hO12
                    go_wp2_with fail
                    (with_reducible refine (IN.out).mono ?_)
                    rintro e w12 ⟨rfl, o12⟩
                    have O12 := Lib.hid (OL.out.same o12)
                    clear o12 IN
                    go_wp2_with fail
                    go_roundw
                    case rel => exact ⟨2, by omega, by go_num, O12.out⟩
                    case measure => simp [intOf]
                · rw [findI_no (fun q => m (mem_ints.1 q))] at FD
                  replace FD := Lib.hid FD
                  have EM := Lib.hid (List.erase_of_not_mem m)
                  clear m
                  go_wp2_with fail
                  (with_reducible refine (FD.out).mono ?_)
                  rintro e w10 ⟨rfl, rfl⟩
                  clear FD
                  have VZ := Lib.hid (V1.out.still O.out)
                  have OA := Lib.hid ((Only.refl none_ wr).alloc (.cells #[.int .i64 F] 3))
                  have RF := Lib.hid (Row.fresh wr 3 #[.int .i64 F])
                  rcases own_cases (show OwnsInts wr _ (.slice a1 n1' k1) (ints (c.s.l1.erase F)) from by rw [EM.out]; exact VZ.out) with ⟨qq, eq⟩ | ⟨g, cp, qq, hg, hg2, hcell⟩ <;> injection qq with qa qn qk
                  · skip
                    subst qa qn qk
                    have OL := Lib.hid (O.out.same OA.out)
                    have q3 : (((wr).alloc (.cells #[.int .i64 F] 3))).cell? ⟨w8.heap.size, 1, none⟩ = some (.slice a4 d.s.l1.length k4) := ((OL.out.still RB9.out).cell 1).trans rfl
                    have IN := ints_any (.slice a4 d.s.l1.length k4) (.slice (some ⟨(wr).heap.size, 0, none⟩) 1 1) (ints d.s.l1) (ints d.s.l1) ((wr).alloc (.cells #[.int .i64 F] 3)) (Reads.of_owns (V4.out.still OL.out)) (by rw [E1.out, ints_cons, eq]; exact Reads.of_owns (own_one RF.out)) LY.out LY.out
                    rw [decide_eq_true (Eq.refl (ints d.s.l1))] at IN
                    replace IN := Lib.hid IN
                    clear eq
                    go_wp2_with fail
                    (with_reducible refine (IN.out).mono ?_)
                    rintro e w12 ⟨rfl, o12⟩
                    have O12 := Lib.hid (OL.out.same o12)
                    clear o12 IN
                    go_wp2_with fail
                    go_roundw
                    case rel => exact ⟨2, by omega, by go_num, O12.out⟩
                    case measure => simp [intOf]
                  · skip
                    subst qa qn qk
                    have X5 := Lib.hid (show (ints (c.s.l1.erase F)).length ≤ 1000000 from by rw [ints_len]; have := List.length_erase_le (a := F) (l := c.s.l1); have := LC.out.2.1; omega)
                    have HC := Lib.hid (fun a u (ha : ((ints (c.s.l1.erase F)).map (Value.int .i64))[a]? = some u) => OA.out.cell (hcell a u ha) (fun s => s))
                    clear hcell
                    go_wp2_with (at_builtin; go_loud (refine wpList_append_frontN rfl (.tmp 101) (.tmp 102) 35 rfl i0 _ Try.underlying35 I0.out I1.out I2.out I3.out rfl rfl RF.out rfl HC.out X5.out ?_; intro v12 w11 hown12 hO12; have O11 := Lib.hid (O.out.same (OA.out.trans hO12 (S := none_) (fun i hi q => absurd hi (by omega)))); have q3 : w11.cell? ⟨w8.heap.size, 1, none⟩ = some (.slice a4 d.s.l1.length k4) := ((O11.out.still RB9.out).cell 1).trans rfl))
                    have OL := Lib.hid (O11.out)
                    have q3 : (w11).cell? ⟨w8.heap.size, 1, none⟩ = some (.slice a4 d.s.l1.length k4) := ((OL.out.still RB9.out).cell 1).trans rfl
                    have IN := ints_any (.slice a4 d.s.l1.length k4) v12 (ints d.s.l1) (ints d.s.l1) w11 (Reads.of_owns (V4.out.still OL.out)) (by rw [E1.out]; exact Reads.of_owns hown12) LY.out LY.out
                    rw [decide_eq_true (Eq.refl (ints d.s.l1))] at IN
                    replace IN := Lib.hid IN
                    clear hown12 hO12
                    go_wp2_with fail
                    (with_reducible refine (IN.out).mono ?_)
                    rintro e w12 ⟨rfl, o12⟩
                    have O12 := Lib.hid (OL.out.same o12)
                    clear o12 IN
                    go_wp2_with fail
                    go_roundw
                    case rel => exact ⟨2, by omega, by go_num, O12.out⟩
                    case measure => simp [intOf]
              · have OD := Lib.hid ((O.out).same (Only.refl none_ wr).drew)
                have KS := Lib.hid (fun w' (o : Only none_ W9 w') => show w'.cell? ⟨w8.heap.size, 2, none⟩ = some (.slice a5 d.s.heldL.length k5) ∧ w'.cell? ⟨w4.heap.size, 2, none⟩ = some (.slice a2 n2' k2) ∧ w'.cell? ⟨w8.heap.size, 4, none⟩ = some (.int .u64 d.miss) ∧ w'.cell? ⟨w4.heap.size, 4, none⟩ = some (.int .u64 c.miss) ∧ w'.cell? ⟨w8.heap.size, 5, none⟩ = some (.int .u64 d.hits) ∧ w'.cell? ⟨w4.heap.size, 5, none⟩ = some (.int .u64 c.hits) from ⟨((o.still RB9.out).cell 2).trans rfl, ((o.still RA9.out).cell 2).trans rfl, ((o.still RB9.out).cell 4).trans rfl, ((o.still RA9.out).cell 4).trans rfl, ((o.still RB9.out).cell 5).trans rfl, ((o.still RA9.out).cell 5).trans rfl⟩)
                have INF := Lib.hid (fun w' (o : Only none_ W9 w') => show Calls Try.prog 25 #[.slice a5 d.s.heldL.length k5, .slice a2 n2' k2] w' fun e w'' => e = .returned (.bool true) ∧ Only none_ w' w'' from by
                  have X := ints_any (.slice a5 d.s.heldL.length k5) (.slice a2 n2' k2) (ints d.s.heldL) (ints d.s.heldL) w' (Reads.of_owns (V5.out.still o)) (by rw [S2E.out]; exact Reads.of_owns (V2.out.still o)) (by rw [ints_len]; have := LD.out.2.2; omega) (by rw [ints_len]; have := LD.out.2.2; omega)
                  rw [decide_eq_true (Eq.refl (ints d.s.heldL))] at X
                  exact X)
                have u1 : IntKind.u64.wrap ((c.hits : Int) + 1) = (c.hits : Int) + 1 := by rw [IntKind.wrap_u64]; have := LH.out; omega
                have dm1 : decide ((d.miss : Int) ≤ (c.miss : Int)) = true := decide_eq_true DM.out
                have dh1 : decide ((d.hits : Int) ≤ (c.hits : Int) + 1) = true := decide_eq_true DH.out
                have dm2 : decide (d.miss ≤ c.miss) = true := decide_eq_true (by have := DM.out; omega)
                have dh2 : decide (d.hits ≤ c.hits + 1) = true := decide_eq_true (by have := DH.out; omega)
                obtain ⟨q1, q2, q3, q4, q5, q6⟩ := KS.out _ O.out
                go_wp2_with fail
                (with_reducible refine (INF.out _ O.out).mono ?_)
                rintro e w12 ⟨rfl, o12⟩
                clear q1 q2 q3 q4 q5 q6
                have O12 := Lib.hid (O.out.same o12)
                obtain ⟨q1, q2, q3, q4, q5, q6⟩ := KS.out _ O12.out
                have B12 := Lib.hid (Only.below_to B9.out O12.out (Nat.le_refl _) (fun _ _ s => s))
                clear o12
                go_wp2_with fail
                go_ret
                exact ⟨rfl, B12.out⟩

set_option maxRecDepth 100000 in
theorem lifted (os : Os) (started : os.Started) (H : Type) (enc : TypeId × Value → H) :
    ReturnsInHanded {} Try.checked os 7 .any (Rows.sarcFrontsSpec.pre6 enc Try.prog Try.f7 Rows.sarcFrontsRow.domain false) (Rows.sarcFrontsSpec.post enc Try.prog Try.f7 false true false false) := by
  refine returnsInHanded_of_change (C := Try.checked) own started (by kernel_rfl) Try.func7
    (ChangeSpec.witness6 (enc := enc) (C := Try.checked) false ⟨#[], #[.int .u8 0, .slice none 0 0, .agg #[.int .u8 0, .int .u8 0]], []⟩ 8 (by kernel_rfl) (by kernel_rfl) (by kernel_rfl) (by kernel_rfl)) ?_
  intro W base args ds gs before hval0 hW hcnd _
  have hval : ∀ (j : Nat) t v, Try.f7.params[j]? = some t → args[j]? = some v → Value.okWide Try.prog W .any base t v := hval0
  have hW' := hW
  obtain ⟨p, q, hA0, hV, rfl, hfz, hnd⟩ := hW
  have hA : DataW.TrodAll enc Try.prog W 0 (fun _ => true) true Try.f7.params.toList args.toList ds p := hA0
  rw [Try.params7] at hA hval
  obtain ⟨v0, vs0, d0, ds0, p0, q0, hargs, rfl, rfl, h0, r0⟩ := trodAll_cons hA
  obtain ⟨v1, vs1, d1, ds1, p1, q1, rfl, rfl, rfl, h1, r1⟩ := trodAll_cons r0
  obtain ⟨v2, vs2, d2, ds2, p2, q2, rfl, rfl, rfl, h2, r2⟩ := trodAll_cons r1
  obtain ⟨rfl, rfl, rfl⟩ := trodAll_nil r2
  obtain rfl : args = #[v0, v1, v2] := by cases args; simp_all
  obtain ⟨rfl, rfl⟩ := trodVars_none hV
  obtain ⟨a0, rfl, rfl, rfl, w0⟩ := open_int Try.underlying5 (hval 0 5 v0 rfl rfl) h0
  have k1 := h1
  have lt1 : ∀ x ∈ p1, x.block < W.heap.size := by obtain ⟨m, hm⟩ := k1; exact DataW.trod_lt m _ _ _ hm
  obtain ⟨ad1, len1, cap1, rfl⟩ := okWide_slice Try.underlying22 (hval 1 22 v1 rfl rfl)
  obtain ⟨fuel1, hf1⟩ := h1
  obtain ⟨max1, xs1, el1, hold1, wf1⟩ := open_acts hf1
  have o2 := hval 2 54 v2 rfl rfl
  have k2 := h2
  have lt2 : ∀ x ∈ p2, x.block < W.heap.size := by obtain ⟨m, hm⟩ := k2; exact DataW.trod_lt m _ _ _ hm
  obtain ⟨a2, b2, rfl, wa2, wb2⟩ := open_pair W base H enc v2 d2 p2 o2 h2
  have shut : ∀ W', Below W.heap.size W W' → DataW.TrodAll enc Try.prog W' 0 (fun b => decide (b < W.heap.size)) true [5, 22, 54] [.int .u8 a0, .slice ad1 len1 cap1, .agg #[.int .u8 a2, .int .u8 b2]] [.lit (.int .u8 a0), d1, d2] ([] ++ (p1 ++ (p2 ++ []))) := fun W' bel =>
    (trodAll_cons_mk (shut_int Try.underlying5 w0) (trodAll_cons_mk (Below.trod laidOut (by kernel_rfl) (of_decide_eq_true (by kernel_rfl)) k1 bel lt1) (trodAll_cons_mk (Below.trod laidOut (by kernel_rfl) (of_decide_eq_true (by kernel_rfl)) k2 bel lt2) trodAll_mk0)))
  clear hA0 hval0
  refine (walk W a0 w0 ad1 len1 cap1 xs1 max1 el1 hold1 wf1 a2 wa2 b2 wb2).mono fun e W' ⟨he, bel⟩ => ?_
  subst he
  exact ⟨_, rfl, _, _, _, [], _, [], hW', trodAll_mk1 (shut_bool Try.underlying4 _), shut W' bel, rfl, bel.frame _, fun h => by cases h⟩

theorem over : Rows.sarcFrontsRow.holds Try.pinned (OpenSpec.ofChange Rows.sarcFrontsSpec) :=
  OpenClaim.holds_of_wide 7 Try.f7 rfl rfl rfl rfl rfl rfl rfl ⟨rfl, rfl, rfl, rfl, rfl⟩ rfl rfl rfl rfl rfl (by kernel_rfl) Try.func7 (by kernel_rfl)
    (of_decide_eq_true (by kernel_rfl)) (by unfold Func.isWrapper; first | (rw [if_pos (by decide +kernel)]; kernel_rfl) | (rw [if_neg (by decide +kernel)]; exact ⟨rfl, rfl⟩))
    (fun os started H enc _ => lifted os started H enc)

theorem sarcFronts_holds : Rows.SarcFrontsSaid := over
#print axioms sarcFronts_holds
end Go.Proofs.Ytpmhpamajkhhiaa.sarcFronts

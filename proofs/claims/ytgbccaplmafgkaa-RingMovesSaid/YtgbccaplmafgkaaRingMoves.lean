/- Proved: the statement RingMoves of layer 6, for every count of nodes, row of steps and node, on no condition. -/
import Derived.Test.YtgbccaplmafgkaaRows
import Derived.WalkKit
import Derived.ProofKit
import Derived.OpenShut
import Derived.Below
import Derived.Test.YtgbccaplmafgkaaArgs
import Derived.Test.YtgbccaplmafgkaaLaw6
import Derived.Deep.RegionHeld3
namespace Go.Proofs.Ytgbccaplmafgkaa.ringMoves
open Go.ChangeShapes Go.WideShapes Go.ChangeAt Go.RowKit
set_option linter.unusedVariables false

theorem own : ownKnob Try.prog.godebug = none := by kernel_rfl
theorem laidOut : laidOutB Try.prog = true := by kernel_rfl

set_option maxHeartbeats 16000000 in
set_option maxRecDepth 100000 in
theorem walk (w : World) (a : Int) (wa : (Lit.int .u8 a).wf = true) (A : Option Addr) (len cap : Nat) (xs : List Act1) (hmax : len ≤ maxLen) (hlen : xs.length = len) (hold : Holds w A 3 Act1.cells xs) (_ : ∀ a ∈ xs, True) (nd : Int) (wnd : (Lit.int .u8 nd).wf = true) :
    Calls Try.prog 7 #[.int .u8 a, .slice A len cap, .int .u8 nd] w fun e w' => e = .returned (.bool true) ∧ Below w.heap.size w w' := by
  obtain ⟨la, ua⟩ := bd_u8 wa
  obtain ⟨ld, ud⟩ := bd_u8 wnd
  clear wa wnd
  unfold maxLen at hmax
  have HL := Lib.hid hlen
  have HO := Lib.hid hold
  clear hlen hold
  obtain ⟨N, hN, n1, n64⟩ := count_of a la
  obtain ⟨i0, hy0, hz0, hz1, hz2⟩ := info_parts info_int8
  have I0 := Lib.hid hy0
  have I1 := Lib.hid hz0
  have I2 := Lib.hid hz1
  have I3 := Lib.hid hz2
  clear hy0 hz0 hz1 hz2
  go_enter Try.func7, Try.ntmps7
  go_wp2_with fail
  (with_reducible refine (awake_any _).mono ?_)
  rintro e w1 ⟨rfl, b1⟩
  have B1 := Lib.hid b1
  clear b1
  go_wp2_with fail
  (with_reducible refine (new_one N _ n1 n64).mono ?_)
  rintro e w2 ⟨p, b, rfl, h, kp, kb, o⟩
  have H2 := Lib.hid h
  have B2 := Lib.hid (Only.below_to B1.out o (Nat.le_refl _) (fun _ _ s => s))
  have kb' : w.heap.size ≤ b := Nat.le_trans B1.out.size kb
  clear h o kp kb B1 hN la ua
  go_wp2_with fail
  go_loopw [10] (fun i wr => ∃ (j : Nat) (s : Sh), j ≤ len ∧ j ≤ 120 ∧ i = .int .i64 j ∧ s.n = N ∧ Lies wr p b s ∧ Below w.heap.size w wr) (fun i _ => len - (intOf i).toNat)
  case atStart => exact ⟨0, newSh N 1, Nat.zero_le _, Nat.zero_le _, rfl, rfl, H2.out, B2.out⟩
  case round =>
    obtain ⟨j, s, hj, hj2, rfl, hsn, h, bl⟩ := hrel
    clear H2 B2
    have H := Lib.hid h
    have B := Lib.hid bl
    have SN := Lib.hid hsn
    clear h bl hsn
    have t12 : (j < len ∧ j < 120) ∨ (j < len ∧ 120 ≤ j) ∨ len ≤ j := by omega
    rcases t12 with ⟨t1, t2⟩ | t1
    · obtain ⟨act, hact⟩ : ∃ act, xs[j]? = some act := ⟨_, List.getElem?_eq_getElem (by rw [HL.out]; exact t1)⟩
      obtain ⟨sb, so, hA, hsb, c0, c1, c2⟩ := act_at HO.out B.out hact
      subst hA
      clear hact
      have HD := Lib.hid (H.out.still (Only.refl none_ wr).drew)
      have BD := Lib.hid B.out.drew
      have szd : w.heap.size ≤ wr.drew.heap.size := B.out.size
      have d0 : wr.drew.cell? ⟨sb, so + j * 3, none⟩ = some (.int .i64 act.kind) := c0
      have d1 : wr.drew.cell? ⟨sb, so + j * 3 + 1, none⟩ = some (.int .i64 act.list) := c1
      have d2 : wr.drew.cell? ⟨sb, so + j * 3 + 2, none⟩ = some (.int .i64 act.node) := c2
      go_wp2_with fail
      go_region_held3 (fun w' => w'.cell? ⟨sb, so + j * 3, none⟩ = some (.int .i64 act.kind) ∧ w'.cell? ⟨sb, so + j * 3 + 1, none⟩ = some (.int .i64 act.list) ∧ w'.cell? ⟨sb, so + j * 3 + 2, none⟩ = some (.int .i64 act.node))
        (first
          | (go_keep; done)
          | (go_split_ands; exact ⟨o3.cell d0 (fun s => s), o3.cell d1 (fun s => s), o3.cell d2 (fun s => s)⟩)
          | (go_split_ands; exact ⟨o4.cell (o3.cell d0 (fun s => s)) (by show ¬ three_ b q hb sb; unfold three_; omega), o4.cell (o3.cell d1 (fun s => s)) (by show ¬ three_ b q hb sb; unfold three_; omega), o4.cell (o3.cell d2 (fun s => s)) (by show ¬ three_ b q hb sb; unfold three_; omega)⟩))
        (first
          | (go_at_call 11; refine (ref_one N _ n1 n64).mono ?_; rintro e w3 ⟨q, hb, base, rfl, h3, kq, kh, o3⟩; have HB := Lib.hid (Both.made HD.out h3 kq kh o3))
          | (go_at_call 12; refine (step_any p b _ _ _ s (newSh N 1) act _ HB.out).mono ?_; rintro e w4 ⟨t, rfl, _, hb4, o4⟩))
      have B4 := Lib.hid (Only.below_to BD.out (o3.then_ o4) (Nat.le_refl _) (fun i hi e => by unfold three_ at e; omega))
      have H4 := Lib.hid hb4.one
      clear o3 o4 hb4 h3 c0 c1 c2 d0 d1 d2
      go_wp2_with fail
      go_roundw
      case rel => exact ⟨j + 1, stepS s act, by omega, by omega, by go_num, by rw [(stepS_n s act).1, SN.out], H4.out, B4.out⟩
      case measure => simp [intOf]; omega
    · obtain ⟨k, hk, kN⟩ := node_of nd N ld n1
      have nz : ((N : Int) == 0) = false := by simp; omega
      have nz2 : (N : Int) ≠ 0 := by omega
      have nz3 : ¬ N = 0 := by omega
      have W1 := where_any p b s k wr H.out
      have FF := Lib.hid H.out.fine
      have kn : k < s.n := by rw [SN.out]; exact kN
      have KN := Lib.hid kn
      clear kn
      have lc : s.lst k = -1 ∨ s.lst k = 0 ∨ s.lst k = 1 := by
        unfold Sh.lst
        split
        · exact .inr (.inl rfl)
        · split
          · exact .inr (.inr rfl)
          · exact .inl rfl
      have hn : hasN s.n k = true := by unfold hasN; have := KN.out; simp; omega
      have wv : s.whereV k = if s.lst k = -1 then .tuple #[.int .i64 0, .bool false, .bool false] else .tuple #[.int .i64 (s.lst k), .bool (decide ((s.revL (s.lst k)).idxOf k < s.bot)), .bool true] := by
        unfold Sh.whereV Sh.liesC
        rw [hn, if_pos rfl, Int.toNat_natCast]
        by_cases q : s.lst k = -1
        · rw [if_pos q, if_pos q, if_neg (by decide)]
        · rw [if_neg q, if_neg q, if_pos rfl]
      have lv : s.lst k = -1 → s.liesC k = 3 := fun q => by
        unfold Sh.liesC
        rw [hn, if_pos rfl, Int.toNat_natCast, if_pos q]
      rw [wv] at W1
      have LV := Lib.hid lv
      clear wv lv hn
      rcases lc with e | e | e
      · rw [if_pos e] at W1
        have W1 := Lib.hid W1
        have LE := Lib.hid (LV.out e)
        clear LV e
        rcases t1 with ⟨t1, t2⟩ | t1
        all_goals
          go_wp2_with fail
          rw [hk]
          (with_reducible refine (W1.out).mono ?_)
          rintro e w3 ⟨rfl, o3⟩
          have H3 := Lib.hid (H.out.on o3)
          have B3 := Lib.hid (below_on B.out o3)
          have DR := drop_any p b s k w3 H3.out
          rw [LE.out] at DR
          have DR := Lib.hid DR
          clear o3
          go_wp2_with fail
          (with_reducible refine (DR.out).mono ?_)
          rintro e w4 ⟨rfl, h4, o4⟩
          have B4 := Lib.hid (below_put B3.out o4 kb')
          clear h4 o4
          go_wp2_with fail
          go_ret
          exact ⟨rfl, B4.out⟩
      · rw [if_neg (by rw [e]; decide), e] at W1
        have W1 := Lib.hid W1
        obtain ⟨m1, m2, m3, m4, m5⟩ := moves FF.out KN.out (c := 0) (d := 1) e (by decide)
        have M1 := Lib.hid m1
        have M2 := Lib.hid m2
        have M3 := Lib.hid m3
        have M4 := Lib.hid m4
        have M5 := Lib.hid m5
        clear LV e m1 m2 m3 m4 m5
        generalize (decide ((s.revL 0).idxOf k < s.bot)) = lb at *
        have LF := Lib.hid (fun w' (o : Only none_ wr w') => list_any p b s 0 w' (H.out.still o))
        have LT := Lib.hid (fun w' (o : Only none_ wr w') => list_any p b s 1 w' (H.out.still o))
        have HE := Lib.hid (fun w' (o : Only none_ wr w') => held_any p b s w' (H.out.still o))
        rcases t1 with ⟨t1, t2⟩ | t1
        all_goals
          go_wp2_with fail
          rw [hk]
          clear hk
          (with_reducible refine (W1.out).mono ?_)
          rintro e w3 ⟨rfl, o3⟩
          have O3 := Lib.hid (as_only o3)
          have L3 := Lib.hid (LF.out _ O3.out)
          clear o3
          go_wp2_with fail
          (with_reducible refine (L3.out).mono ?_)
          rintro e w4 ⟨v4, rfl, hv4, o4⟩
          have O4 := Lib.hid (O3.out.same (as_only o4))
          have Z34 := Lib.hid o4.size
          have sz4 : b < w3.heap.size := Nat.lt_of_lt_of_le H.out.lt.2 O3.out.size
          have sp4 : p < w3.heap.size := Nat.lt_of_lt_of_le H.out.lt.1 O3.out.size
          have V4 := Lib.hid hv4
          have L4 := Lib.hid (LT.out _ O4.out)
          clear o4 L3 hv4
          go_wp2_with fail
          (with_reducible refine (L4.out).mono ?_)
          rintro e w5 ⟨v5, rfl, hv5, o5⟩
          have O5 := Lib.hid (O4.out.same (as_only o5))
          have Z45 := Lib.hid o5.size
          have V5 := Lib.hid hv5
          have V45 := Lib.hid (V4.out.still (as_only o5))
          have L5 := Lib.hid (HE.out _ O5.out)
          clear o5 L4 hv5 V4
          go_wp2_with fail
          (with_reducible refine (L5.out).mono ?_)
          rintro e w6 ⟨v6, rfl, hv6, o6⟩
          have O6 := Lib.hid (O5.out.same (as_only o6))
          have H6 := Lib.hid (H.out.still O6.out)
          have B6 := Lib.hid (Only.below_to B.out O6.out (Nat.le_refl _) (fun _ _ s => s))
          have V46 := Lib.hid (V45.out.still (as_only o6))
          have V56 := Lib.hid (V5.out.still (as_only o6))
          have V66 := Lib.hid hv6
          have X4 := Lib.hid (show (ints (s.listOf 0)).length ≤ 1000000 by rw [ints_len]; have := listOf_len FF.out 0; omega)
          have X5 := Lib.hid (show (ints (s.listOf 1)).length ≤ 1000000 by rw [ints_len]; have := listOf_len FF.out 1; omega)
          have FD := find_any v4 _ k w6 (Reads.of_owns V46.out) X4.out
          rw [findI_in M5.out] at FD
          have FD := Lib.hid FD
          have ix0 : decide (((s.listOf 0).idxOf k : Int) < 0) = false := by simp
          have ixl := Lib.hid (show (s.listOf 0).idxOf k < (s.listOf 0).length from List.idxOf_lt_length_of_mem M5.out)
          have ix64 : (s.listOf 0).idxOf k ≤ 64 := by have := listOf_len FF.out 0; have := ixl.out; omega
          have FR := front_any p b s 1 k w6 H6.out
          rw [M1.out] at FR
          have FR := Lib.hid FR
          clear o6 hv6 L5 V5 V45
          go_wp2_with fail
          (with_reducible refine (FD.out).mono ?_)
          rintro e w' ⟨rfl, rfl⟩
          go_wp2_with fail
          (with_reducible refine (FR.out).mono ?_)
          rintro e w7 ⟨rfl, h7, o7⟩
          have H7 := Lib.hid h7
          have B7 := Lib.hid (below_put B6.out o7 kb')
          have V47 := Lib.hid (V46.out.keep o7 (fun g hg q => by have := (V46.out.base_le hg).1; omega))
          have V57 := Lib.hid (V56.out.keep o7 (fun g hg q => by have := (V56.out.base_le hg).1; have := Z34.out; omega))
          have V67 := Lib.hid (V66.out.keep o7 (fun g hg q => by have := (V66.out.base_le hg).1; have := Z34.out; have := Z45.out; omega))
          have L7 := list_any p b _ 0 w7 h7
          rw [M2.out] at L7
          have L7 := Lib.hid L7
          clear h7 o7 FD FR V46 V56 V66 H6
          go_wp2_with fail
          (with_reducible refine (L7.out).mono ?_)
          rintro e w8 ⟨v8, rfl, hv8, o8⟩
          have O8 := Lib.hid (as_only o8)
          have WO := without_any v4 (ints (s.listOf 0)) ((s.listOf 0).idxOf k) _ w8 (V47.out.still O8.out) X4.out (by rw [ints_len]; exact ixl.out)
          rw [ints_cut, ← erase_take M5.out] at WO
          have WO := Lib.hid WO
          have V8 := Lib.hid hv8
          clear hv8 o8 L7
          go_wp2_with fail
          (with_reducible refine (WO.out).mono ?_)
          rintro e w9 ⟨v9, rfl, hv9, o9⟩
          have O9 := Lib.hid (O8.out.same o9)
          have Y8 := show (ints ((s.listOf 0).erase k)).length ≤ 1000000 by rw [ints_len]; have := List.length_erase_le (a := k) (l := s.listOf 0); have := listOf_len FF.out 0; omega
          have IN := ints_any v8 v9 _ _ w9 (Reads.of_owns (V8.out.still o9)) (Reads.of_owns hv9) Y8 Y8
          rw [dec_same] at IN
          have IN := Lib.hid IN
          clear hv9 o9 WO Y8
          go_wp2_with fail
          (with_reducible refine (IN.out).mono ?_)
          rintro e w10 ⟨rfl, o10⟩
          have O10 := Lib.hid (O9.out.same o10)
          have L10 := list_any p b _ 1 w10 (H7.out.still O10.out)
          rw [M3.out] at L10
          have L10 := Lib.hid L10
          clear o10 IN
          go_wp2_with fail
          (with_reducible refine (L10.out).mono ?_)
          rintro e w11 ⟨v11, rfl, hv11, o11⟩
          have O11 := Lib.hid (O10.out.same (as_only o11))
          have V11 := Lib.hid hv11
          have V511 := Lib.hid (V57.out.still O11.out)
          have V611 := Lib.hid (V67.out.still O11.out)
          have H11 := Lib.hid (H7.out.still O11.out)
          have B11 := Lib.hid (Only.below_to B7.out O11.out (Nat.le_refl _) (fun _ _ s => s))
          have HE2 := Lib.hid (fun w' (o : Only none_ w11 w') => held_any p b _ w' (H11.out.still o))
          have Y11 := Lib.hid (show (ints (k :: s.listOf 1)).length ≤ 1000000 by rw [ints_len]; have := listOf_len FF.out 1; simp; omega)
          have YH := Lib.hid (show (ints s.heldL).length ≤ 1000000 by rw [ints_len]; have := held_len FF.out; omega)
          have OA := Lib.hid ((Only.refl none_ w11).alloc (.cells #[.int .i64 k] 3))
          have RF := Lib.hid (Row.fresh w11 3 #[.int .i64 k])
          clear hv11 o11 L10 V47 V57 V67 H7 B7
          rcases own_cases V511.out with ⟨rfl, eq⟩ | ⟨g, cp, rfl, hg, hg2, hcell⟩
          · have IN := ints_any v11 (.slice (some ⟨w11.heap.size, 0, none⟩) 1 1) (ints (k :: s.listOf 1)) (ints (k :: s.listOf 1)) (w11.alloc (.cells #[.int .i64 k] 3)) (Reads.of_owns (V11.out.still OA.out)) (by rw [ints_cons, eq]; exact Reads.of_owns (own_one RF.out)) Y11.out Y11.out
            rw [dec_same] at IN
            have IN := Lib.hid IN
            clear eq
            go_wp2_with fail
            (with_reducible refine (IN.out).mono ?_)
            rintro e w12 ⟨rfl, o12⟩
            have O12 := Lib.hid (OA.out.same o12)
            have HE3 := HE2.out _ O12.out
            rw [M4.out] at HE3
            have HE3 := Lib.hid HE3
            clear o12 IN
            go_wp2_with fail
            (with_reducible refine (HE3.out).mono ?_)
            rintro e w13 ⟨v13, rfl, hv13, o13⟩
            have O13 := Lib.hid (O12.out.same (as_only o13))
            have IN := ints_any v13 v6 _ _ w13 (Reads.of_owns hv13) (Reads.of_owns (V611.out.still O13.out)) YH.out YH.out
            rw [dec_same] at IN
            have IN := Lib.hid IN
            clear hv13 o13 HE3
            go_wp2_with fail
            (with_reducible refine (IN.out).mono ?_)
            rintro e w14 ⟨rfl, o14⟩
            have B14 := Lib.hid (Only.below_to B11.out (O13.out.same o14) (Nat.le_refl _) (fun _ _ s => s))
            clear o14
            go_wp2_with fail
            go_ret
            exact ⟨rfl, B14.out⟩
          · have HC := Lib.hid (fun a u (ha : ((ints (s.listOf 1)).map (Value.int .i64))[a]? = some u) => OA.out.cell (hcell a u ha) (fun s => s))
            clear hcell
            go_wp2_with (at_builtin; go_loud (refine wpList_append_front2 rfl (.tmp 102) (.tmp 103) 36 rfl i0 _ Try.underlying36 I0.out I1.out I2.out I3.out rfl rfl RF.out rfl HC.out X5.out ?_; intro v12 w12 hown12 hO12))
            have O12 := Lib.hid (OA.out.trans hO12 (S := none_) (fun i hi q => absurd hi (by omega)))
            have IN := ints_any v11 v12 (ints (k :: s.listOf 1)) (ints (k :: s.listOf 1)) w12 (Reads.of_owns (V11.out.still O12.out)) (Reads.of_owns hown12) Y11.out Y11.out
            rw [dec_same] at IN
            have IN := Lib.hid IN
            clear hown12 hO12
            go_wp2_with fail
            (with_reducible refine (IN.out).mono ?_)
            rintro e w13 ⟨rfl, o13⟩
            have O13 := Lib.hid (O12.out.same o13)
            have HE3 := HE2.out _ O13.out
            rw [M4.out] at HE3
            have HE3 := Lib.hid HE3
            clear o13 IN
            go_wp2_with fail
            (with_reducible refine (HE3.out).mono ?_)
            rintro e w14 ⟨v14, rfl, hv14, o14⟩
            have O14 := Lib.hid (O13.out.same (as_only o14))
            have IN := ints_any v14 v6 _ _ w14 (Reads.of_owns hv14) (Reads.of_owns (V611.out.still O14.out)) YH.out YH.out
            rw [dec_same] at IN
            have IN := Lib.hid IN
            clear hv14 o14 HE3
            go_wp2_with fail
            (with_reducible refine (IN.out).mono ?_)
            rintro e w15 ⟨rfl, o15⟩
            have B15 := Lib.hid (Only.below_to B11.out (O14.out.same o15) (Nat.le_refl _) (fun _ _ s => s))
            clear o15
            go_wp2_with fail
            go_ret
            exact ⟨rfl, B15.out⟩
      · rw [if_neg (by rw [e]; decide), e] at W1
        have W1 := Lib.hid W1
        obtain ⟨m1, m2, m3, m4, m5⟩ := moves FF.out KN.out (c := 1) (d := 0) e (by decide)
        have M1 := Lib.hid m1
        have M2 := Lib.hid m2
        have M3 := Lib.hid m3
        have M4 := Lib.hid m4
        have M5 := Lib.hid m5
        clear LV e m1 m2 m3 m4 m5
        generalize (decide ((s.revL 1).idxOf k < s.bot)) = lb at *
        have LF := Lib.hid (fun w' (o : Only none_ wr w') => list_any p b s 1 w' (H.out.still o))
        have LT := Lib.hid (fun w' (o : Only none_ wr w') => list_any p b s 0 w' (H.out.still o))
        have HE := Lib.hid (fun w' (o : Only none_ wr w') => held_any p b s w' (H.out.still o))
        rcases t1 with ⟨t1, t2⟩ | t1
        all_goals
          go_wp2_with fail
          rw [hk]
          clear hk
          (with_reducible refine (W1.out).mono ?_)
          rintro e w3 ⟨rfl, o3⟩
          have O3 := Lib.hid (as_only o3)
          have L3 := Lib.hid (LF.out _ O3.out)
          clear o3
          go_wp2_with fail
          (with_reducible refine (L3.out).mono ?_)
          rintro e w4 ⟨v4, rfl, hv4, o4⟩
          have O4 := Lib.hid (O3.out.same (as_only o4))
          have Z34 := Lib.hid o4.size
          have sz4 : b < w3.heap.size := Nat.lt_of_lt_of_le H.out.lt.2 O3.out.size
          have sp4 : p < w3.heap.size := Nat.lt_of_lt_of_le H.out.lt.1 O3.out.size
          have V4 := Lib.hid hv4
          have L4 := Lib.hid (LT.out _ O4.out)
          clear o4 L3 hv4
          go_wp2_with fail
          (with_reducible refine (L4.out).mono ?_)
          rintro e w5 ⟨v5, rfl, hv5, o5⟩
          have O5 := Lib.hid (O4.out.same (as_only o5))
          have Z45 := Lib.hid o5.size
          have V5 := Lib.hid hv5
          have V45 := Lib.hid (V4.out.still (as_only o5))
          have L5 := Lib.hid (HE.out _ O5.out)
          clear o5 L4 hv5 V4
          go_wp2_with fail
          (with_reducible refine (L5.out).mono ?_)
          rintro e w6 ⟨v6, rfl, hv6, o6⟩
          have O6 := Lib.hid (O5.out.same (as_only o6))
          have H6 := Lib.hid (H.out.still O6.out)
          have B6 := Lib.hid (Only.below_to B.out O6.out (Nat.le_refl _) (fun _ _ s => s))
          have V46 := Lib.hid (V45.out.still (as_only o6))
          have V56 := Lib.hid (V5.out.still (as_only o6))
          have V66 := Lib.hid hv6
          have X4 := Lib.hid (show (ints (s.listOf 1)).length ≤ 1000000 by rw [ints_len]; have := listOf_len FF.out 1; omega)
          have X5 := Lib.hid (show (ints (s.listOf 0)).length ≤ 1000000 by rw [ints_len]; have := listOf_len FF.out 0; omega)
          have FD := find_any v4 _ k w6 (Reads.of_owns V46.out) X4.out
          rw [findI_in M5.out] at FD
          have FD := Lib.hid FD
          have ix0 : decide (((s.listOf 1).idxOf k : Int) < 0) = false := by simp
          have ixl := Lib.hid (show (s.listOf 1).idxOf k < (s.listOf 1).length from List.idxOf_lt_length_of_mem M5.out)
          have ix64 : (s.listOf 1).idxOf k ≤ 64 := by have := listOf_len FF.out 1; have := ixl.out; omega
          have FR := front_any p b s 0 k w6 H6.out
          rw [M1.out] at FR
          have FR := Lib.hid FR
          clear o6 hv6 L5 V5 V45
          go_wp2_with fail
          (with_reducible refine (FD.out).mono ?_)
          rintro e w' ⟨rfl, rfl⟩
          go_wp2_with fail
          (with_reducible refine (FR.out).mono ?_)
          rintro e w7 ⟨rfl, h7, o7⟩
          have H7 := Lib.hid h7
          have B7 := Lib.hid (below_put B6.out o7 kb')
          have V47 := Lib.hid (V46.out.keep o7 (fun g hg q => by have := (V46.out.base_le hg).1; omega))
          have V57 := Lib.hid (V56.out.keep o7 (fun g hg q => by have := (V56.out.base_le hg).1; have := Z34.out; omega))
          have V67 := Lib.hid (V66.out.keep o7 (fun g hg q => by have := (V66.out.base_le hg).1; have := Z34.out; have := Z45.out; omega))
          have L7 := list_any p b _ 1 w7 h7
          rw [M2.out] at L7
          have L7 := Lib.hid L7
          clear h7 o7 FD FR V46 V56 V66 H6
          go_wp2_with fail
          (with_reducible refine (L7.out).mono ?_)
          rintro e w8 ⟨v8, rfl, hv8, o8⟩
          have O8 := Lib.hid (as_only o8)
          have WO := without_any v4 (ints (s.listOf 1)) ((s.listOf 1).idxOf k) _ w8 (V47.out.still O8.out) X4.out (by rw [ints_len]; exact ixl.out)
          rw [ints_cut, ← erase_take M5.out] at WO
          have WO := Lib.hid WO
          have V8 := Lib.hid hv8
          clear hv8 o8 L7
          go_wp2_with fail
          (with_reducible refine (WO.out).mono ?_)
          rintro e w9 ⟨v9, rfl, hv9, o9⟩
          have O9 := Lib.hid (O8.out.same o9)
          have Y8 := show (ints ((s.listOf 1).erase k)).length ≤ 1000000 by rw [ints_len]; have := List.length_erase_le (a := k) (l := s.listOf 1); have := listOf_len FF.out 1; omega
          have IN := ints_any v8 v9 _ _ w9 (Reads.of_owns (V8.out.still o9)) (Reads.of_owns hv9) Y8 Y8
          rw [dec_same] at IN
          have IN := Lib.hid IN
          clear hv9 o9 WO Y8
          go_wp2_with fail
          (with_reducible refine (IN.out).mono ?_)
          rintro e w10 ⟨rfl, o10⟩
          have O10 := Lib.hid (O9.out.same o10)
          have L10 := list_any p b _ 0 w10 (H7.out.still O10.out)
          rw [M3.out] at L10
          have L10 := Lib.hid L10
          clear o10 IN
          go_wp2_with fail
          (with_reducible refine (L10.out).mono ?_)
          rintro e w11 ⟨v11, rfl, hv11, o11⟩
          have O11 := Lib.hid (O10.out.same (as_only o11))
          have V11 := Lib.hid hv11
          have V511 := Lib.hid (V57.out.still O11.out)
          have V611 := Lib.hid (V67.out.still O11.out)
          have H11 := Lib.hid (H7.out.still O11.out)
          have B11 := Lib.hid (Only.below_to B7.out O11.out (Nat.le_refl _) (fun _ _ s => s))
          have HE2 := Lib.hid (fun w' (o : Only none_ w11 w') => held_any p b _ w' (H11.out.still o))
          have Y11 := Lib.hid (show (ints (k :: s.listOf 0)).length ≤ 1000000 by rw [ints_len]; have := listOf_len FF.out 0; simp; omega)
          have YH := Lib.hid (show (ints s.heldL).length ≤ 1000000 by rw [ints_len]; have := held_len FF.out; omega)
          have OA := Lib.hid ((Only.refl none_ w11).alloc (.cells #[.int .i64 k] 3))
          have RF := Lib.hid (Row.fresh w11 3 #[.int .i64 k])
          clear hv11 o11 L10 V47 V57 V67 H7 B7
          rcases own_cases V511.out with ⟨rfl, eq⟩ | ⟨g, cp, rfl, hg, hg2, hcell⟩
          · have IN := ints_any v11 (.slice (some ⟨w11.heap.size, 0, none⟩) 1 1) (ints (k :: s.listOf 0)) (ints (k :: s.listOf 0)) (w11.alloc (.cells #[.int .i64 k] 3)) (Reads.of_owns (V11.out.still OA.out)) (by rw [ints_cons, eq]; exact Reads.of_owns (own_one RF.out)) Y11.out Y11.out
            rw [dec_same] at IN
            have IN := Lib.hid IN
            clear eq
            go_wp2_with fail
            (with_reducible refine (IN.out).mono ?_)
            rintro e w12 ⟨rfl, o12⟩
            have O12 := Lib.hid (OA.out.same o12)
            have HE3 := HE2.out _ O12.out
            rw [M4.out] at HE3
            have HE3 := Lib.hid HE3
            clear o12 IN
            go_wp2_with fail
            (with_reducible refine (HE3.out).mono ?_)
            rintro e w13 ⟨v13, rfl, hv13, o13⟩
            have O13 := Lib.hid (O12.out.same (as_only o13))
            have IN := ints_any v13 v6 _ _ w13 (Reads.of_owns hv13) (Reads.of_owns (V611.out.still O13.out)) YH.out YH.out
            rw [dec_same] at IN
            have IN := Lib.hid IN
            clear hv13 o13 HE3
            go_wp2_with fail
            (with_reducible refine (IN.out).mono ?_)
            rintro e w14 ⟨rfl, o14⟩
            have B14 := Lib.hid (Only.below_to B11.out (O13.out.same o14) (Nat.le_refl _) (fun _ _ s => s))
            clear o14
            go_wp2_with fail
            go_ret
            exact ⟨rfl, B14.out⟩
          · have HC := Lib.hid (fun a u (ha : ((ints (s.listOf 0)).map (Value.int .i64))[a]? = some u) => OA.out.cell (hcell a u ha) (fun s => s))
            clear hcell
            go_wp2_with (at_builtin; go_loud (refine wpList_append_front2 rfl (.tmp 102) (.tmp 103) 36 rfl i0 _ Try.underlying36 I0.out I1.out I2.out I3.out rfl rfl RF.out rfl HC.out X5.out ?_; intro v12 w12 hown12 hO12))
            have O12 := Lib.hid (OA.out.trans hO12 (S := none_) (fun i hi q => absurd hi (by omega)))
            have IN := ints_any v11 v12 (ints (k :: s.listOf 0)) (ints (k :: s.listOf 0)) w12 (Reads.of_owns (V11.out.still O12.out)) (Reads.of_owns hown12) Y11.out Y11.out
            rw [dec_same] at IN
            have IN := Lib.hid IN
            clear hown12 hO12
            go_wp2_with fail
            (with_reducible refine (IN.out).mono ?_)
            rintro e w13 ⟨rfl, o13⟩
            have O13 := Lib.hid (O12.out.same o13)
            have HE3 := HE2.out _ O13.out
            rw [M4.out] at HE3
            have HE3 := Lib.hid HE3
            clear o13 IN
            go_wp2_with fail
            (with_reducible refine (HE3.out).mono ?_)
            rintro e w14 ⟨v14, rfl, hv14, o14⟩
            have O14 := Lib.hid (O13.out.same (as_only o14))
            have IN := ints_any v14 v6 _ _ w14 (Reads.of_owns hv14) (Reads.of_owns (V611.out.still O14.out)) YH.out YH.out
            rw [dec_same] at IN
            have IN := Lib.hid IN
            clear hv14 o14 HE3
            go_wp2_with fail
            (with_reducible refine (IN.out).mono ?_)
            rintro e w15 ⟨rfl, o15⟩
            have B15 := Lib.hid (Only.below_to B11.out (O14.out.same o15) (Nat.le_refl _) (fun _ _ s => s))
            clear o15
            go_wp2_with fail
            go_ret
            exact ⟨rfl, B15.out⟩

set_option maxRecDepth 100000 in
theorem lifted (os : Os) (started : os.Started) (H : Type) (enc : TypeId × Value → H) :
    ReturnsInHanded {} Try.checked os 7 .any (Rows.ringMovesSpec.pre6 enc Try.prog Try.f7 Rows.ringMovesRow.domain false) (Rows.ringMovesSpec.post enc Try.prog Try.f7 false true false false) := by
  refine returnsInHanded_of_change (C := Try.checked) own started (by kernel_rfl) Try.func7
    (ChangeSpec.witness6 (enc := enc) (C := Try.checked) false ⟨#[], #[.int .u8 0, .slice none 0 0, .int .u8 0], []⟩ 8 (by kernel_rfl) (by kernel_rfl) (by kernel_rfl) (by kernel_rfl)) ?_
  intro W base args ds gs before hval0 hW hcnd _
  have hval : ∀ (j : Nat) t v, Try.f7.params[j]? = some t → args[j]? = some v → Value.okWide Try.prog W .any base t v := hval0
  have hW' := hW
  obtain ⟨p, q, hA0, hV, rfl, hfz, hnd⟩ := hW
  have hA : DataW.TrodAll enc Try.prog W 0 (fun _ => true) true Try.f7.params.toList args.toList ds p := hA0
  rw [Try.params7] at hA hval
  obtain ⟨v0, vs0, d0, ds0, p0, q0, hargs, rfl, rfl, h0, r0⟩ := trodAll_cons hA
  obtain ⟨v1, vs1, d1, ds1, p1, q1, rfl, rfl, rfl, h1, r1⟩ := trodAll_cons r0
  obtain ⟨v2, vs2, d2, ds2, p2, q2, rfl, rfl, rfl, h2, r2⟩ := trodAll_cons r1
  obtain ⟨rfl, rfl, rfl⟩ := trodAll_nil r2
  obtain rfl : args = #[v0, v1, v2] := by cases args; simp_all
  obtain ⟨rfl, rfl⟩ := trodVars_none hV
  obtain ⟨a0, rfl, rfl, rfl, w0⟩ := open_int Try.underlying5 (hval 0 5 v0 rfl rfl) h0
  have k1 := h1
  have lt1 : ∀ x ∈ p1, x.block < W.heap.size := by obtain ⟨m, hm⟩ := k1; exact DataW.trod_lt m _ _ _ hm
  obtain ⟨ad1, len1, cap1, rfl⟩ := okWide_slice Try.underlying22 (hval 1 22 v1 rfl rfl)
  obtain ⟨fuel1, hf1⟩ := h1
  obtain ⟨max1, xs1, el1, hold1, wf1⟩ := open_acts hf1
  obtain ⟨a2, rfl, rfl, rfl, w2⟩ := open_int Try.underlying5 (hval 2 5 v2 rfl rfl) h2
  have shut : ∀ W', Below W.heap.size W W' → DataW.TrodAll enc Try.prog W' 0 (fun b => decide (b < W.heap.size)) true [5, 22, 5] [.int .u8 a0, .slice ad1 len1 cap1, .int .u8 a2] [.lit (.int .u8 a0), d1, .lit (.int .u8 a2)] ([] ++ (p1 ++ ([] ++ []))) := fun W' bel =>
    (trodAll_cons_mk (shut_int Try.underlying5 w0) (trodAll_cons_mk (Below.trod laidOut (by kernel_rfl) (of_decide_eq_true (by kernel_rfl)) k1 bel lt1) (trodAll_cons_mk (shut_int Try.underlying5 w2) trodAll_mk0)))
  clear hA0 hval0
  refine (walk W a0 w0 ad1 len1 cap1 xs1 max1 el1 hold1 wf1 a2 w2).mono fun e W' ⟨he, bel⟩ => ?_
  subst he
  exact ⟨_, rfl, _, _, _, [], _, [], hW', trodAll_mk1 (shut_bool Try.underlying4 _), shut W' bel, rfl, bel.frame _, fun h => by cases h⟩

theorem over : Rows.ringMovesRow.holds Try.pinned (OpenSpec.ofChange Rows.ringMovesSpec) :=
  OpenClaim.holds_of_wide 7 Try.f7 rfl rfl rfl rfl rfl rfl rfl ⟨rfl, rfl, rfl, rfl, rfl⟩ rfl rfl rfl rfl rfl (by kernel_rfl) Try.func7 (by kernel_rfl)
    (of_decide_eq_true (by kernel_rfl)) (by unfold Func.isWrapper; first | (rw [if_pos (by decide +kernel)]; kernel_rfl) | (rw [if_neg (by decide +kernel)]; exact ⟨rfl, rfl⟩))
    (fun os started H enc _ => lifted os started H enc)

theorem ringMoves_holds : Rows.RingMovesSaid := over
#print axioms ringMoves_holds
end Go.Proofs.Ytgbccaplmafgkaa.ringMoves

/- Proved: the statement RingHolds of layer 6, for every count of nodes, bottom and row of steps, on no condition. -/
import Derived.Test.YtgbccaplmafgkaaRows
import Derived.WalkKit
import Derived.ProofKit
import Derived.OpenShut
import Derived.Below
import Derived.Test.YtgbccaplmafgkaaArgs
import Derived.Test.YtgbccaplmafgkaaHold6
import Derived.Deep.RegionHeld3
namespace Go.Proofs.Ytgbccaplmafgkaa.ringHolds
open Go.ChangeShapes Go.WideShapes Go.ChangeAt Go.RowKit
set_option linter.unusedVariables false

theorem own : ownKnob Try.prog.godebug = none := by kernel_rfl
theorem laidOut : laidOutB Try.prog = true := by kernel_rfl

set_option maxHeartbeats 32000000 in
set_option maxRecDepth 100000 in
theorem walk (w : World) (a : Int) (wa : (Lit.int .u8 a).wf = true) (bt : Int) (wbt : (Lit.int .u8 bt).wf = true) (A : Option Addr) (len cap : Nat) (xs : List Act1) (hmax : len ≤ maxLen) (hlen : xs.length = len) (hold : Holds w A 3 Act1.cells xs) (_ : ∀ a ∈ xs, True) :
    Calls Try.prog 4 #[.int .u8 a, .int .u8 bt, .slice A len cap] w fun e w' => e = .returned (.bool true) ∧ Below w.heap.size w w' := by
  obtain ⟨la, ua⟩ := bd_u8 wa
  obtain ⟨lb, ub⟩ := bd_u8 wbt
  clear wa wbt
  unfold maxLen at hmax
  have HL := Lib.hid hlen
  have HO := Lib.hid hold
  clear hlen hold
  obtain ⟨N, hN, n1, n64⟩ := count_of a la
  obtain ⟨T0, hT0, T0N⟩ := node_of bt N lb n1
  obtain ⟨T, hT, t1, tN⟩ : ∃ T : Nat, 1 + (T0 : Int) = (T : Int) ∧ 1 ≤ T ∧ T ≤ N := ⟨T0 + 1, by omega, by omega, by omega⟩
  have nz : ((N : Int) == 0) = false := by simp; omega
  have nz2 : (N : Int) ≠ 0 := by omega
  have nz3 : ¬ N = 0 := by omega
  have NEW := Lib.hid (fun w => new_yes N T w t1 tN n64)
  go_enter Try.func4, Try.ntmps4
  go_wp2_with fail
  (with_reducible refine (awake_any _).mono ?_)
  rintro e w1 ⟨rfl, b1⟩
  have B1 := Lib.hid b1
  clear b1
  go_wp2_with fail
  (with_reducible refine (NEW.out _).mono ?_)
  rintro e w2 ⟨p, b, rfl, h, kp, kb, o⟩
  have H2 := Lib.hid h
  have B2 := Lib.hid (Only.below_to B1.out o (Nat.le_refl _) (fun _ _ s => s))
  have kb' : w.heap.size ≤ b := Nat.le_trans B1.out.size kb
  clear h o kp kb B1 hN la ua hT0 hT lb ub NEW nz nz2 nz3
  go_wp2_with fail
  go_loopw [11] (fun i wr => ∃ (j : Nat) (s : Sh), j ≤ len ∧ j ≤ 120 ∧ i = .int .i64 j ∧ s.n = N ∧ s.bot = T ∧ Lies wr p b s ∧ Below w.heap.size w wr) (fun i _ => len - (intOf i).toNat)
  case atStart => exact ⟨0, newSh N T, Nat.zero_le _, Nat.zero_le _, rfl, rfl, rfl, H2.out, B2.out⟩
  case round =>
    obtain ⟨j, s, hj, hj2, rfl, hsn, hsb, h, bl⟩ := hrel
    clear H2 B2
    have H := Lib.hid h
    have B := Lib.hid bl
    have SN := Lib.hid hsn
    have SB := Lib.hid hsb
    clear h bl hsn hsb
    have t12 : (j < len ∧ j < 120) ∨ (j < len ∧ 120 ≤ j) ∨ len ≤ j := by omega
    rcases t12 with ⟨t1, t2⟩ | t1
    · obtain ⟨act, hact⟩ : ∃ act, xs[j]? = some act := ⟨_, List.getElem?_eq_getElem (by rw [HL.out]; exact t1)⟩
      obtain ⟨sb, so, hA, hsb, c0, c1, c2⟩ := act_at HO.out B.out hact
      subst hA
      clear hact
      have HD := Lib.hid (H.out.still (Only.refl none_ wr).drew)
      have BD := Lib.hid B.out.drew
      have szd : w.heap.size ≤ wr.drew.heap.size := B.out.size
      have d0 : wr.drew.cell? ⟨sb, so + j * 3, none⟩ = some (.int .i64 act.kind) := c0
      have d1 : wr.drew.cell? ⟨sb, so + j * 3 + 1, none⟩ = some (.int .i64 act.list) := c1
      have d2 : wr.drew.cell? ⟨sb, so + j * 3 + 2, none⟩ = some (.int .i64 act.node) := c2
      have RN := Lib.hid (fun w => new_ref N T w (by omega) tN n64)
      go_wp2_with fail
      go_region_held3 (fun w' => w'.cell? ⟨sb, so + j * 3, none⟩ = some (.int .i64 act.kind) ∧ w'.cell? ⟨sb, so + j * 3 + 1, none⟩ = some (.int .i64 act.list) ∧ w'.cell? ⟨sb, so + j * 3 + 2, none⟩ = some (.int .i64 act.node))
        (first
          | (go_keep; done)
          | (go_split_ands; exact ⟨o3.cell d0 (fun s => s), o3.cell d1 (fun s => s), o3.cell d2 (fun s => s)⟩)
          | (go_split_ands; exact ⟨o4.cell (o3.cell d0 (fun s => s)) (by show ¬ three_ b q hb sb; unfold three_; omega), o4.cell (o3.cell d1 (fun s => s)) (by show ¬ three_ b q hb sb; unfold three_; omega), o4.cell (o3.cell d2 (fun s => s)) (by show ¬ three_ b q hb sb; unfold three_; omega)⟩))
        (first
          | (go_at_call 11; refine (RN.out _).mono ?_; rintro e w3 ⟨q, hb, base, rfl, h3, kq, kh, o3⟩; have HB := Lib.hid (Both.made HD.out h3 kq kh o3))
          | (go_at_call 12; refine (step_any p b _ _ _ s (newSh N T) act _ HB.out).mono ?_; rintro e w4 ⟨t, rfl, _, hb4, o4⟩))
      have B4 := Lib.hid (Only.below_to BD.out (o3.then_ o4) (Nat.le_refl _) (fun i hi e => by unfold three_ at e; omega))
      obtain ⟨s', es⟩ : ∃ s', stepS s act = s' := ⟨_, rfl⟩
      have H4 := Lib.hid (show Lies w4 p b s' from by rw [← es]; exact hb4.one)
      have SN4 := Lib.hid (show s'.n = N by rw [← es, (stepS_n s act).1, SN.out])
      have SB4 := Lib.hid (show s'.bot = T by rw [← es, (stepS_n s act).2, SB.out])
      clear o3 o4 hb4 h3 c0 c1 c2 d0 d1 d2 es H B SN SB HD BD RN szd
      go_wp2_with fail
      go_loopw [12, 13] (fun l i wx => ∃ K : Nat, K ≤ 2 ∧ i = .int .i64 K ∧ l = .int .i64 (s'.sumL K) ∧ Only none_ w4 wx) (fun _ i _ => 2 - (intOf i).toNat)
      case atStart => exact ⟨0, by decide, rfl, rfl, Only.refl _ _⟩
      case round =>
        obtain ⟨K, hK, rfl, rfl, oK⟩ := hrel
        have O := Lib.hid oK
        clear oK
        by_cases hK2 : K < 2
        · have LI := Lib.hid (list_any p b s' K wr (H4.out.still O.out))
          have FF := Lib.hid H4.out.fine
          go_wp2_with fail
          (with_reducible refine (LI.out).mono ?_)
          rintro e w5 ⟨v5, rfl, hv5, o5⟩
          have O5 := Lib.hid (O.out.same (as_only o5))
          have hv6 : OwnsInts w5 wr.heap.size v5 (ints (s'.lk K)) := hv5
          obtain ⟨L, eL⟩ : ∃ L, s'.lk K = L := ⟨_, rfl⟩
          have L64 : L.length ≤ 64 := by rw [← eL]; exact listOf_len FF.out (K : Int)
          have LSUM := Lib.hid (show s'.sumL (K + 1) = s'.sumL K + L.length by rw [← eL]; exact sum_more s' hK2)
          have s64 := sum_le FF.out K
          have WI := Lib.hid (fun (J x : Nat) (hx : L[J]? = some x) => show s'.whereV (x : Int) = .tuple #[.int .i64 (K : Int), .bool (decide ((L.length : Int) - (T : Int) ≤ (J : Int))), .bool true] from by
            have := where_in FF.out hK2 (by rw [eL]; exact hx)
            rw [SB4.out, eL] at this
            exact this)
          have NB := Lib.hid (fun (J x : Nat) (hx : L[J]? = some x) => not_before (l := L) (by rw [← eL]; exact lk_nodup FF.out hK2) hx)
          have LST := Lib.hid (fun (x : Nat) (e : s'.lastOk (K : Int) = some x) => show x ∈ L ∧ x ∉ s'.heldL from by
            have := last_in_list hK2 e
            rw [eL] at this
            exact this)
          rw [eL] at hv6
          have HVF := Lib.hid (fun (q : L ≠ []) => hv6.form (fun c => q (by have := congrArg List.length c; rw [ints_len] at this; exact List.eq_nil_of_length_eq_zero this)))
          obtain ⟨a5, c5, ev, _⟩ := Reads.of_owns hv6
          rw [ints_len] at ev
          subst ev
          have V5 := Lib.hid hv6
          clear hv5 hv6 o5 LI eL O
          go_wp2_with fail
          go_loopw [15, 16] (fun lo jv wy => ∃ J : Nat, J ≤ L.length ∧ jv = .int .i64 J ∧ lo = .int .i64 ((J - (L.length - T) : Nat) : Int) ∧ Only none_ w5 wy) (fun _ jv _ => L.length - (intOf jv).toNat)
          case atStart => exact ⟨0, Nat.zero_le _, rfl, by simp, Only.refl _ _⟩
          case round =>
            obtain ⟨J, hJ, rfl, rfl, oJ⟩ := hrel
            have OJ := Lib.hid oJ
            clear oJ
            by_cases hJ2 : J < L.length
            · obtain ⟨x, hx⟩ : ∃ x, L[J]? = some x := ⟨_, List.getElem?_eq_getElem hJ2⟩
              obtain ⟨g, cp, ef, hg, hg2, hcap, _⟩ := HVF.out (by intro q; rw [q] at hJ2; cases hJ2)
              rw [ints_len] at ef hcap
              injection ef with ea _ ec
              subst ea ec
              have hxi : (ints L)[J]? = some (x : Int) := by unfold ints; rw [List.getElem?_map, hx]; rfl
              have cx1 := cell_own V5.out hxi
              have cx := OJ.out.cell cx1 (fun s => s)
              have WH := where_any p b s' x wr (H4.out.still (O5.out.same OJ.out))
              rw [WI.out J x hx] at WH
              have NBX := Lib.hid (findI_no (NB.out J x hx))
              have RD := Lib.hid (show Reads w5 (.slice (some ⟨g, 0, none⟩) J c5) ((ints L).take J) from by
                have hl : ((ints L).take J).length = J := by rw [List.length_take, ints_len]; omega
                refine ⟨some ⟨g, 0, none⟩, c5, by rw [hl], fun i y hy => ⟨g, 0, rfl, ?_⟩⟩
                have hi : i < J := by have := lt_of_get hy; rw [hl] at this; exact this
                rw [List.getElem?_take_of_lt hi] at hy
                rw [Nat.zero_add]
                exact cell_own V5.out hy)
              have hlt3 : J ≤ c5 := by omega
              have hlt4 : (J : Int) ≤ (c5 : Int) := by omega
              have TL : ((ints L).take J).length ≤ 1000000 := by rw [List.length_take, ints_len]; omega
              have FD := Lib.hid (fun W (o : Only none_ w5 W) => fun m => (find_any (.slice (some ⟨g, 0, none⟩) J c5) _ x (W.drewN m) (RD.out.still (o.drewN m)) TL).mono (fun e w'' h => And.intro h.1 h.2.symm))
              rw [NBX.out] at FD
              obtain ⟨β, hβ⟩ : ∃ β, decide ((L.length : Int) - (T : Int) ≤ (J : Int)) = β := ⟨_, rfl⟩
              rw [hβ] at WH
              have WH := Lib.hid WH
              have HB := Lib.hid hβ
              have kk : ((K : Int) != (K : Int)) = false := by simp
              have bb2 : (β != β) = false := by simp
              obtain ⟨lo, hlo⟩ : ∃ lo : Nat, J - (L.length - T) = lo := ⟨_, rfl⟩
              have lo64 : lo ≤ 64 := by omega
              have LOE := Lib.hid hlo
              rw [hlo]
              clear hx hxi cx1 hlo TL
              go_wp2_with fail
              (with_reducible refine (WH.out).mono ?_)
              rintro e w6 ⟨rfl, o6⟩
              have O6 := Lib.hid (OJ.out.same (as_only o6))
              have cx6 := (as_only o6).cell cx (fun s => s)
              have FD6 := Lib.hid (FD.out _ O6.out)
              clear o6 cx WH
              go_wp2_with fail
              go_quiet ((go_at_call 16; exact Calls.quiet_of_same (FD6.out _)))
              have O6n := Lib.hid (O6.out.drewN nq)
              clear FD6 FD O6
              cases β with
              | true =>
                have e1 : (L.length : Int) - (T : Int) ≤ (J : Int) := of_decide_eq_true HB.out
                have LE := Lib.hid (show ((J + 1 - (L.length - T) : Nat) : Int) = (lo : Int) + 1 by have := LOE.out; omega)
                clear e1 hβ
                go_wp2_with fail
                go_roundw
                case rel => exact ⟨J + 1, by omega, by go_num, by rw [LE.out], O6n.out⟩
                case measure => simp [intOf]; omega
              | false =>
                have e1 : ¬ (L.length : Int) - (T : Int) ≤ (J : Int) := of_decide_eq_false HB.out
                have LE := Lib.hid (show ((J + 1 - (L.length - T) : Nat) : Int) = (lo : Int) by have := LOE.out; omega)
                clear e1 hβ
                go_wp2_with fail
                go_roundw
                case rel => exact ⟨J + 1, by omega, by go_num, by rw [LE.out], O6n.out⟩
                case measure => simp [intOf]; omega
            · have eJ : J = L.length := by omega
              subst eJ
              have LA := (callsIn_wide (n := 5)).1 (last_in p b s' K wr (H4.out.still (O5.out.same OJ.out)))
              obtain ⟨lo, hlo⟩ : ∃ lo : Nat, L.length - (L.length - T) = lo := ⟨_, rfl⟩
              have lomin : (lo : Int) = min (T : Int) (L.length : Int) := by omega
              have LM := Lib.hid lomin
              have lo64 : lo ≤ 64 := by omega
              rw [hlo]
              clear hlo lomin
              cases eo : s'.lastOk (K : Int) with
              | none =>
                rw [eo] at LA
                have LA := Lib.hid (show Calls Try.prog 17 #[.pointer (some ⟨p, 0, none⟩), .int .i64 K] wr fun e w' => e = .returned (.tuple #[.int .i64 0, .bool false]) ∧ Below wr.heap.size wr w' from LA)
                clear eo
                go_wp2_with fail
                (with_reducible refine (LA.out).mono ?_)
                rintro e w7 ⟨rfl, o7⟩
                have O7 := Lib.hid ((O5.out.same OJ.out).same (as_only o7))
                clear o7
                go_wp2_with fail
                go_roundw
                case rel => exact ⟨K + 1, by omega, by go_num, by rw [LSUM.out, Int.natCast_add], O7.out⟩
                case measure => simp [intOf]; omega
              | some x =>
                rw [eo] at LA
                have LA := Lib.hid (show Calls Try.prog 17 #[.pointer (some ⟨p, 0, none⟩), .int .i64 K] wr fun e w' => e = .returned (.tuple #[.int .i64 x, .bool true]) ∧ Below wr.heap.size wr w' from LA)
                obtain ⟨xL, xH⟩ := LST.out x eo
                have XH := Lib.hid (show findI (ints s'.heldL) (x : Int) = -1 from findI_no (fun q => xH (mem_ints.1 q)))
                have XL := Lib.hid (findI_in xL)
                clear eo xL xH
                go_wp2_with fail
                (with_reducible refine (LA.out).mono ?_)
                rintro e w7 ⟨rfl, o7⟩
                have O7 := Lib.hid ((O5.out.same OJ.out).same (as_only o7))
                have FD := find_any (.slice a5 L.length c5) (ints L) x w7 (Reads.of_owns (V5.out.still (OJ.out.same (as_only o7)))) (by rw [ints_len]; omega)
                rw [XL.out] at FD
                have FD := Lib.hid FD
                have HE := Lib.hid (held_any p b s' w7 (H4.out.still O7.out))
                have ix0 : decide (((L.idxOf x : Nat) : Int) < 0) = false := by simp
                have YH := Lib.hid (show (ints s'.heldL).length ≤ 1000000 by rw [ints_len]; have := held_len FF.out; omega)
                clear o7
                go_wp2_with fail
                (with_reducible refine (FD.out).mono ?_)
                rintro e w' ⟨rfl, rfl⟩
                go_wp2_with fail
                (with_reducible refine (HE.out).mono ?_)
                rintro e w8 ⟨v8, rfl, hv8, o8⟩
                have O8 := Lib.hid (O7.out.same (as_only o8))
                have FH := find_any v8 _ x w8 (Reads.of_owns hv8) YH.out
                rw [XH.out] at FH
                have FH := Lib.hid FH
                clear hv8 o8 HE FD
                go_wp2_with fail
                (with_reducible refine (FH.out).mono ?_)
                rintro e w' ⟨rfl, rfl⟩
                go_wp2_with fail
                go_roundw
                case rel => exact ⟨K + 1, by omega, by go_num, by rw [LSUM.out, Int.natCast_add], O8.out⟩
                case measure => simp [intOf]; omega
        · have eK : K = 2 := by omega
          have FF := Lib.hid H4.out.fine
          have tot64 := sum_le FF.out K
          have dK : decide ((K : Int) < 2) = false := by simp; omega
          have CM := Lib.hid (cnt_more s')
          have CA := Lib.hid (show s'.cnt N = s'.sumL K by rw [← SN4.out, cnt_all FF.out, eK]; rfl)
          have WO := Lib.hid (fun (J : Nat) (hJ : J < N) => where_ok s' (j := J) (by rw [SN4.out]; exact hJ))
          have CL := Lib.hid (fun J => show s'.cnt J ≤ J from by unfold Sh.cnt; exact Nat.le_trans (List.length_filter_le _ _) (by simp))
          clear eK
          generalize s'.sumL K = tot at *
          go_wp2_with fail
          go_loopw [12, 22] (fun l jv wz => ∃ J : Nat, J ≤ N ∧ jv = .int .i64 J ∧ l = .int .i64 ((tot : Int) - (s'.cnt J : Int)) ∧ Only none_ w4 wz) (fun _ jv _ => N - (intOf jv).toNat)
          case atStart => exact ⟨0, Nat.zero_le _, rfl, by simp [Sh.cnt], O.out⟩
          case round =>
            obtain ⟨J, hJ, rfl, rfl, oJ⟩ := hrel
            have OJ := Lib.hid oJ
            clear oJ
            by_cases hJ2 : J < N
            · obtain ⟨x, b1, ew⟩ := WO.out J hJ2
              have WH := where_any p b s' J wr (H4.out.still OJ.out)
              rw [ew] at WH
              have cm := CM.out J
              have cl := CL.out J
              generalize hc : s'.cnt J = c at *
              have HC := Lib.hid hc
              cases el : s'.liesB J with
              | true =>
                rw [el] at WH cm
                rw [if_pos rfl] at cm
                have WH := Lib.hid WH
                have CE := Lib.hid (show ((s'.cnt (J + 1) : Nat) : Int) = (c : Int) + 1 by omega)
                clear cm hc ew el
                go_wp2_with fail
                (with_reducible refine (WH.out).mono ?_)
                rintro e w6 ⟨rfl, o6⟩
                have O6 := Lib.hid (OJ.out.same (as_only o6))
                clear o6
                go_wp2_with fail
                go_roundw
                case rel => exact ⟨J + 1, by omega, by go_num, by rw [CE.out]; congr 1; omega, O6.out⟩
                case measure => simp [intOf]; omega
              | false =>
                rw [el] at WH cm
                rw [if_neg (by decide)] at cm
                have WH := Lib.hid WH
                have CE := Lib.hid (show ((s'.cnt (J + 1) : Nat) : Int) = (c : Int) by omega)
                clear cm hc ew el
                go_wp2_with fail
                (with_reducible refine (WH.out).mono ?_)
                rintro e w6 ⟨rfl, o6⟩
                have O6 := Lib.hid (OJ.out.same (as_only o6))
                clear o6
                go_wp2_with fail
                go_roundw
                case rel => exact ⟨J + 1, by omega, by go_num, by rw [CE.out], O6.out⟩
                case measure => simp [intOf]; omega
            · have eJ : J = N := by omega
              subst eJ
              have z0 : (tot : Int) - (s'.cnt J : Int) = 0 := by have := CA.out; omega
              rw [z0]
              have B9 := Lib.hid (Only.below_to B4.out OJ.out (Nat.le_refl _) (fun _ _ s => s))
              have H9 := Lib.hid (H4.out.still OJ.out)
              clear z0
              go_wp2_with fail
              go_roundw
              case rel => exact ⟨j + 1, s', by omega, by omega, by go_num, SN4.out, SB4.out, H9.out, B9.out⟩
              case measure => simp [intOf]; omega
    · have L0 := Lib.hid ((callsIn_wide (n := 5)).1 (len_in p b s 0 wr H.out))
      have L1 := Lib.hid (fun w' (o : Only none_ wr w') => (callsIn_wide (n := 5)).1 (len_in p b s 1 w' (H.out.still o)))
      have al := all_le H.out.fine
      rw [SN.out] at al
      have r0 := Lib.hid (show (s.revL 0).length = s.l0.length by rw [revL_listOf]; rfl)
      have r1 := Lib.hid (show (s.revL 1).length = s.l1.length by rw [revL_listOf]; rfl)
      rw [r0.out] at L0
      rw [r1.out] at L1
      generalize s.l0.length = x0 at *
      generalize s.l1.length = x1 at *
      have le : decide ((x0 : Int) + (x1 : Int) ≤ (N : Int)) = true := by simp; omega
      rcases t1 with ⟨t1, t2⟩ | t1
      all_goals
        go_wp2_with fail
        (with_reducible refine (L0.out).mono ?_)
        rintro e w5 ⟨rfl, o5⟩
        have O5 := Lib.hid (as_only o5)
        have L12 := Lib.hid (L1.out _ O5.out)
        clear o5
        go_wp2_with fail
        (with_reducible refine (L12.out).mono ?_)
        rintro e w6 ⟨rfl, o6⟩
        have B6 := Lib.hid (Only.below_to B.out (O5.out.same (as_only o6)) (Nat.le_refl _) (fun _ _ s => s))
        clear o6
        go_wp2_with fail
        go_ret
        exact ⟨rfl, B6.out⟩

set_option maxRecDepth 100000 in
theorem lifted (os : Os) (started : os.Started) (H : Type) (enc : TypeId × Value → H) :
    ReturnsInHanded {} Try.checked os 4 .any (Rows.ringHoldsSpec.pre6 enc Try.prog Try.f4 Rows.ringHoldsRow.domain false) (Rows.ringHoldsSpec.post enc Try.prog Try.f4 false true false false) := by
  refine returnsInHanded_of_change (C := Try.checked) own started (by kernel_rfl) Try.func4
    (ChangeSpec.witness6 (enc := enc) (C := Try.checked) false ⟨#[], #[.int .u8 0, .int .u8 0, .slice none 0 0], []⟩ 8 (by kernel_rfl) (by kernel_rfl) (by kernel_rfl) (by kernel_rfl)) ?_
  intro W base args ds gs before hval0 hW hcnd _
  have hval : ∀ (j : Nat) t v, Try.f4.params[j]? = some t → args[j]? = some v → Value.okWide Try.prog W .any base t v := hval0
  have hW' := hW
  obtain ⟨p, q, hA0, hV, rfl, hfz, hnd⟩ := hW
  have hA : DataW.TrodAll enc Try.prog W 0 (fun _ => true) true Try.f4.params.toList args.toList ds p := hA0
  rw [Try.params4] at hA hval
  obtain ⟨v0, vs0, d0, ds0, p0, q0, hargs, rfl, rfl, h0, r0⟩ := trodAll_cons hA
  obtain ⟨v1, vs1, d1, ds1, p1, q1, rfl, rfl, rfl, h1, r1⟩ := trodAll_cons r0
  obtain ⟨v2, vs2, d2, ds2, p2, q2, rfl, rfl, rfl, h2, r2⟩ := trodAll_cons r1
  obtain ⟨rfl, rfl, rfl⟩ := trodAll_nil r2
  obtain rfl : args = #[v0, v1, v2] := by cases args; simp_all
  obtain ⟨rfl, rfl⟩ := trodVars_none hV
  obtain ⟨a0, rfl, rfl, rfl, w0⟩ := open_int Try.underlying5 (hval 0 5 v0 rfl rfl) h0
  obtain ⟨a1, rfl, rfl, rfl, w1⟩ := open_int Try.underlying5 (hval 1 5 v1 rfl rfl) h1
  have k2 := h2
  have lt2 : ∀ x ∈ p2, x.block < W.heap.size := by obtain ⟨m, hm⟩ := k2; exact DataW.trod_lt m _ _ _ hm
  obtain ⟨ad2, len2, cap2, rfl⟩ := okWide_slice Try.underlying22 (hval 2 22 v2 rfl rfl)
  obtain ⟨fuel2, hf2⟩ := h2
  obtain ⟨max2, xs2, el2, hold2, wf2⟩ := open_acts hf2
  have shut : ∀ W', Below W.heap.size W W' → DataW.TrodAll enc Try.prog W' 0 (fun b => decide (b < W.heap.size)) true [5, 5, 22] [.int .u8 a0, .int .u8 a1, .slice ad2 len2 cap2] [.lit (.int .u8 a0), .lit (.int .u8 a1), d2] ([] ++ ([] ++ (p2 ++ []))) := fun W' bel =>
    (trodAll_cons_mk (shut_int Try.underlying5 w0) (trodAll_cons_mk (shut_int Try.underlying5 w1) (trodAll_cons_mk (Below.trod laidOut (by kernel_rfl) (of_decide_eq_true (by kernel_rfl)) k2 bel lt2) trodAll_mk0)))
  clear hA0 hval0
  refine (walk W a0 w0 a1 w1 ad2 len2 cap2 xs2 max2 el2 hold2 wf2).mono fun e W' ⟨he, bel⟩ => ?_
  subst he
  exact ⟨_, rfl, _, _, _, [], _, [], hW', trodAll_mk1 (shut_bool Try.underlying4 _), shut W' bel, rfl, bel.frame _, fun h => by cases h⟩

theorem over : Rows.ringHoldsRow.holds Try.pinned (OpenSpec.ofChange Rows.ringHoldsSpec) :=
  OpenClaim.holds_of_wide 4 Try.f4 rfl rfl rfl rfl rfl rfl rfl ⟨rfl, rfl, rfl, rfl, rfl⟩ rfl rfl rfl rfl rfl (by kernel_rfl) Try.func4 (by kernel_rfl)
    (of_decide_eq_true (by kernel_rfl)) (by unfold Func.isWrapper; first | (rw [if_pos (by decide +kernel)]; kernel_rfl) | (rw [if_neg (by decide +kernel)]; exact ⟨rfl, rfl⟩))
    (fun os started H enc _ => lifted os started H enc)

theorem ringHolds_holds : Rows.RingHoldsSaid := over
#print axioms ringHolds_holds
end Go.Proofs.Ytgbccaplmafgkaa.ringHolds

/- Proved: the statement IndexPlays of layer 5, for every count of places and row of steps, on no condition. -/
import Derived.Test.YtajphhalneaihaaRows
import Derived.WalkKit
import Derived.ProofKit
import Derived.OpenShut
import Derived.Below
import Derived.Test.YtajphhalneaihaaArgs
import Derived.Test.YtajphhalneaihaaBoth5
namespace Go.Proofs.Ytajphhalneaihaa.indexPlays
open Go.ChangeShapes Go.WideShapes Go.ChangeAt Go.RowKit
set_option linter.unusedVariables false

theorem own : ownKnob Try.prog.godebug = none := by kernel_rfl
theorem laidOut : laidOutB Try.prog = true := by kernel_rfl

set_option maxHeartbeats 16000000 in
set_option maxRecDepth 100000 in
theorem walk (w : World) (n : Int) (wn : (Lit.int .i64 n).wf = true) (A : Option Addr) (len cap : Nat) (xs : List Act1) (hmax : len ≤ maxLen) (hlen : xs.length = len) (hold : Holds w A 3 Act1.cells xs) (_ : ∀ a ∈ xs, True) :
    Calls Try.prog 3 #[.int .i64 n, .slice A len cap] w fun e w' => e = .returned (.bool true) ∧ Below w.heap.size w w' := by
  clear wn
  unfold maxLen at hmax
  have HL := Lib.hid hlen
  have HO := Lib.hid hold
  clear hlen hold
  have MA := may_any n
  cases hmay : mayB n with
  | false =>
    rw [hmay] at MA
    have MA := Lib.hid MA
    have NO := Lib.hid (fun w => new_no n w (mayB_no hmay))
    clear hmay
    go_enter Try.func3, Try.ntmps3
    go_wp2_with fail
    (with_reducible refine (awake_any _).mono ?_)
    rintro e w1 ⟨rfl, b1⟩
    have B1 := Lib.hid b1
    clear b1
    go_wp2_with fail
    (with_reducible refine (NO.out _).mono ?_)
    rintro e w' ⟨rfl, rfl⟩
    go_wp2_with fail
    (with_reducible refine (MA.out _).mono ?_)
    rintro e w' ⟨rfl, rfl⟩
    go_wp2_with fail
    go_ret
    exact ⟨rfl, B1.out⟩
  | true =>
    obtain ⟨P, rfl, pw⟩ := mayB_yes hmay
    rw [hmay] at MA
    have MA := Lib.hid MA
    obtain ⟨p2, p256⟩ := pw.le
    clear hmay
    go_enter Try.func3, Try.ntmps3
    go_wp2_with fail
    (with_reducible refine (awake_any _).mono ?_)
    rintro e w1 ⟨rfl, b1⟩
    have B1 := Lib.hid b1
    clear b1
    go_wp2_with fail
    (with_reducible refine (new_yes P _ pw).mono ?_)
    rintro e w2 ⟨p, b, rfl, h, kp, kb, o⟩
    have H2 := Lib.hid h
    have B2 := Lib.hid (Only.below_to B1.out o (Nat.le_refl _) (fun _ _ s => s))
    have kb' : w.heap.size ≤ b := Nat.le_trans B1.out.size kb
    have kp' : w.heap.size ≤ p := Nat.le_trans B1.out.size kp
    clear h o kp kb B1
    go_wp2_with fail
    (with_reducible refine (MA.out _).mono ?_)
    rintro e w' ⟨rfl, rfl⟩
    go_wp2_with fail
    (with_reducible refine (rnew_any P _ p2 p256).mono ?_)
    rintro e w3 ⟨q, a, c, d, rfl, h, kq, ka, kc, kd, o⟩
    have H3 := Lib.hid (show Both w3 p b q a c d (fresh P) (fresh P) from by
      have := H2.out.head.lt
      have := H2.out.row.lt
      exact ⟨H2.out.still o, ⟨_, _, h⟩, by omega, by omega, by omega, by omega, by omega, by omega, by omega, by omega⟩)
    have B3 := Lib.hid (Only.below_to B2.out o (Nat.le_refl _) (fun _ _ s => s))
    have sz2 := B2.out.size
    have ka' : w.heap.size ≤ a := by omega
    have kc' : w.heap.size ≤ c := by omega
    have kd' : w.heap.size ≤ d := by omega
    clear h o kq ka kc kd B2 H2 sz2
    go_wp2_with fail
    go_loopw [8] (fun i wr => ∃ (j : Nat) (ps : List Pl), j ≤ len ∧ j ≤ 120 ∧ i = .int .i64 j ∧ Both wr p b q a c d ps ps ∧ Good ps ∧ Below w.heap.size w wr) (fun i _ => len - (intOf i).toNat)
    case atStart => exact ⟨0, fresh P, Nat.zero_le _, Nat.zero_le _, rfl, H3.out, good_fresh (by omega), B3.out⟩
    case round =>
      obtain ⟨j, ps, hj, hj2, rfl, h, hG, bl⟩ := hrel
      clear H3 B3
      have H := Lib.hid h
      have G := Lib.hid hG
      have B := Lib.hid bl
      clear h bl hG
      have t12 : (j < len ∧ j < 120) ∨ (j < len ∧ 120 ≤ j) ∨ len ≤ j := by omega
      rcases t12 with ⟨t1, t2⟩ | t1
      · obtain ⟨act, hact⟩ : ∃ act, xs[j]? = some act := ⟨_, List.getElem?_eq_getElem (by rw [HL.out]; exact t1)⟩
        obtain ⟨sb, so, hA, hsb, c0, c1, c2⟩ := act_at HO.out B.out hact
        subst hA
        have G3 := Lib.hid (stepQ_good G.out act)
        have kb2 : w.heap.size ≤ wr.heap.size := B.out.size
        obtain ⟨lp, lb, lq, la, lc, ld⟩ := H.out.lt
        have RF := Row.fresh wr 32 #[.int .i64 act.kind, .int .i64 act.key, .int .i64 act.n]
        have HW := Lib.hid (H.out.still ((Only.refl none_ wr).alloc (.cells #[.int .i64 act.kind, .int .i64 act.key, .int .i64 act.n] 32)))
        have BW := Lib.hid (B.out.alloc B.out.size (.cells #[.int .i64 act.kind, .int .i64 act.key, .int .i64 act.n] 32))
        clear hact
        have r0 := RF.cell 0
        have r1 := RF.cell 1
        have r2 := RF.cell 2
        simp only [List.getElem?_toArray, List.getElem?_cons_zero, List.getElem?_cons_succ] at r0 r1 r2
        clear RF
        by_cases hk : act.kind = 0
        · have t3 : (act.kind == 0) = true := by simpa using hk
          have t4 : (act.kind == 1) = false := by simp [hk]
          have ES := Lib.hid (show stepQ ps act = (putP ps act.key act.n).1 by unfold stepQ; rw [if_pos hk])
          clear hk
          go_wp2_with fail
          generalize (wr.alloc (.cells #[.int .i64 act.kind, .int .i64 act.key, .int .i64 act.n] 32)) = W at *
          generalize hbk : wr.heap.size = bk at *
          clear hbk
          have HD := Lib.hid (HW.out.still (Only.refl none_ W).drew)
          have BD := Lib.hid (BW.out.drew)
          have cd : ((putP ps act.key act.n).2 == (putP ps act.key act.n).2) = true := by simp
          go_region_held3 (fun w' => w'.cell? ⟨bk, 0, none⟩ = some (.int .i64 act.kind) ∧ w'.cell? ⟨bk, 1, none⟩ = some (.int .i64 act.key) ∧ w'.cell? ⟨bk, 2, none⟩ = some (.int .i64 act.n))
            (first
              | (go_keep; done)
              | (go_split_ands; exact ⟨o1.cell r0 (by show ¬ (bk = p ∨ bk = b); omega), o1.cell r1 (by show ¬ (bk = p ∨ bk = b); omega), o1.cell r2 (by show ¬ (bk = p ∨ bk = b); omega)⟩)
              | (go_split_ands; exact ⟨o2.cell (o1.cell r0 (by show ¬ (bk = p ∨ bk = b); omega)) (by show ¬ (bk = a ∨ bk = c ∨ bk = d); omega), o2.cell (o1.cell r1 (by show ¬ (bk = p ∨ bk = b); omega)) (by show ¬ (bk = a ∨ bk = c ∨ bk = d); omega), o2.cell (o1.cell r2 (by show ¬ (bk = p ∨ bk = b); omega)) (by show ¬ (bk = a ∨ bk = c ∨ bk = d); omega)⟩))
            (first
              | (go_at_call 12; refine (put_any p b ps act.key act.n _ ?_ G.out).mono ?_; (exact HD.out.one); rintro e w4 ⟨rfl, h1, o1⟩; have HB1 := Lib.hid (HD.out.first h1 o1))
              | (go_at_call 13; refine (rput_any q a c d ps act.key act.n _ ?_ G.out).mono ?_; (exact HB1.out.ref); rintro e w5 ⟨rfl, h2, o2⟩; have HB2 := Lib.hid (HB1.out.second h2 o2)))
          have HB5 := Lib.hid (show Both w5 p b q a c d (stepQ ps act) (stepQ ps act) by rw [ES.out]; exact HB2.out)
          have B5 := Lib.hid (Only.below_to (Only.below_to BD.out o1 (Nat.le_refl _) (fun i hi q => by rcases q with q | q <;> omega)) o2 (Nat.le_refl _) (fun i hi q => by rcases q with q | q | q <;> omega))
          have k0 := o2.cell (o1.cell r0 (by show ¬ (bk = p ∨ bk = b); omega)) (by show ¬ (bk = a ∨ bk = c ∨ bk = d); omega)
          have k5 := o2.cell (o1.cell r1 (by show ¬ (bk = p ∨ bk = b); omega)) (by show ¬ (bk = a ∨ bk = c ∨ bk = d); omega)
          clear o1 o2 h1 h2 HB1 HB2 HD BD r0 r1 r2 ES HW BW
          generalize stepQ ps act = qs at *
          have nn : (numP qs act.key != numP qs act.key) = false := by simp
          have hh : (hasP qs act.key != hasP qs act.key) = false := by simp
          have cc : (((cnt qs : Nat) : Int) != ((cnt qs : Nat) : Int)) = false := by simp
          have GA := Lib.hid (get_any p b qs act.key w5 HB5.out.one G3.out)
          go_wp2_with fail
          (with_reducible refine (GA.out).mono ?_)
          rintro e w6 ⟨rfl, o6⟩
          have HB6 := Lib.hid (HB5.out.still o6)
          have B6 := Lib.hid (Only.below_to B5.out o6 (Nat.le_refl _) (fun _ _ s => s))
          have k6 := o6.cell k5 (fun s => s)
          clear k5 o6 HB5 B5 GA
          have RA := Lib.hid (rget_any q a c d qs act.key w6 HB6.out.ref G3.out)
          go_wp2_with fail
          (with_reducible refine (RA.out).mono ?_)
          rintro e w' ⟨rfl, rfl⟩
          have LA := Lib.hid (len_any p b qs w6 HB6.out.one)
          go_wp2_with fail
          (with_reducible refine (LA.out).mono ?_)
          rintro e w' ⟨rfl, rfl⟩
          have RL := Lib.hid (rlen_ref q a c d qs w6 HB6.out.ref)
          go_wp2_with fail
          (with_reducible refine (RL.out).mono ?_)
          rintro e w' ⟨rfl, rfl⟩
          have KA := Lib.hid (keys_any p b qs w6 HB6.out.one G3.out.clean)
          go_wp2_with fail
          (with_reducible refine (KA.out).mono ?_)
          rintro e w7 ⟨v1, rfl, hv1, o7⟩
          have HB7 := Lib.hid (HB6.out.still o7)
          have B7 := Lib.hid (Only.below_to B6.out o7 (Nat.le_refl _) (fun _ _ s => s))
          have V1 := Lib.hid (Reads.of_owns hv1)
          clear o7 hv1 k6 HB6 B6 RA LA RL KA
          have RK := Lib.hid (rkeys_any q a c d qs w7 HB7.out.ref G3.out)
          go_wp2_with fail
          (with_reducible refine (RK.out).mono ?_)
          rintro e w8 ⟨v2, rfl, hv2, o8⟩
          have HB8 := Lib.hid (HB7.out.still o8)
          have B8 := Lib.hid (Only.below_to B7.out o8 (Nat.le_refl _) (fun _ _ s => s))
          have IN0 := ints_any v1 v2 (keysP qs) (keysP qs) w8 (V1.out.still o8) (Reads.of_owns hv2) (by rw [keys_len]; have := cnt_le qs; have := HB8.out.one.pow.le; omega) (by rw [keys_len]; have := cnt_le qs; have := HB8.out.one.pow.le; omega)
          rw [decide_eq_true (rfl : keysP qs = keysP qs)] at IN0
          have IN := Lib.hid IN0
          clear o8 hv2 IN0 HB7 B7 RK V1
          go_wp2_with fail
          (with_reducible refine (IN.out).mono ?_)
          rintro e w9 ⟨rfl, o9⟩
          have HB9 := Lib.hid (HB8.out.still o9)
          have B9 := Lib.hid (Only.below_to B8.out o9 (Nat.le_refl _) (fun _ _ s => s))
          clear o9 HB8 B8 IN
          have RK := Lib.hid (rkeys_any q a c d qs w9 HB9.out.ref G3.out)
          go_wp2_with fail
          (with_reducible refine (RK.out).mono ?_)
          rintro e w10 ⟨v3, rfl, hv3, o10⟩
          obtain ⟨va, vc, rfl, hform⟩ := hv3.shape
          have HB10 := Lib.hid (HB9.out.still o10)
          have B10 := Lib.hid (Only.below_to B9.out o10 (Nat.le_refl _) (fun _ _ s => s))
          have V3 := Lib.hid hv3
          have HF := Lib.hid hform
          have l256 : (keysP qs).length ≤ 256 := by rw [keys_len]; have := cnt_le qs; have := HB10.out.one.pow.le; omega
          clear o10 hv3 hform HB9 B9 RK
          generalize numP qs act.key = nu at *
          generalize hasP qs act.key = hb at *
          generalize cnt qs = cn at *
          go_wp2_with fail
          go_loopw [16] (fun i wr => ∃ k : Nat, k ≤ (keysP qs).length ∧ i = .int .i64 k ∧ Both wr p b q a c d qs qs ∧ Below w.heap.size w wr ∧ OwnsInts wr w9.heap.size (.slice va (keysP qs).length vc) (keysP qs)) (fun i _ => (keysP qs).length - (intOf i).toNat)
          case atStart => exact ⟨0, Nat.zero_le _, rfl, HB10.out, B10.out, V3.out⟩
          case round =>
            obtain ⟨k, hk, rfl, hb', bl, ow⟩ := hrel
            clear HB10 B10 V3
            have HB := Lib.hid hb'
            have BB := Lib.hid bl
            have V := Lib.hid ow
            clear hb' bl ow
            by_cases hlt : k < (keysP qs).length
            · obtain ⟨x, hx⟩ : ∃ x, (keysP qs)[k]? = some x := ⟨_, List.getElem?_eq_getElem hlt⟩
              obtain ⟨g, rfl, hg, hg2⟩ := HF.out (by intro c; rw [c] at hlt; simp at hlt)
              have c5 := V.out.cell one1 hx (j := 0) (by decide)
              simp only [one, List.getElem?_cons_zero, Nat.mul_one, Nat.add_zero] at c5
              have FA := Lib.hid (fun m => (far_any p b qs x (wr.drewN m) (HB.out.one.drewN m) G3.out).mono (fun e w'' h => And.intro h.1 h.2.symm))
              have FB := Lib.hid (fun m => (rfar_any q a c d qs x (wr.drewN m) (HB.out.ref.still ((Only.refl none_ wr).drewN m)) G3.out).mono (fun e w'' h => And.intro h.1 h.2.symm))
              have ff : (farP qs x != farP qs x) = false := by simp
              clear hx
              generalize farP qs x = far at *
              go_wp2_with fail
              go_quiet ((first | (go_at_call 23; exact Calls.quiet_of_same (FA.out _)) | (go_at_call 24; exact Calls.quiet_of_same (FB.out _))))
              go_wp2_with fail
              go_roundw
              case rel => exact ⟨k + 1, by omega, by go_num, HB.out.still ((Only.refl none_ wr).drewN _), below_n BB.out _, V.out.still ((Only.refl _ _).drewN _)⟩
              case measure => simp [intOf]; omega
            · have hge : (keysP qs).length ≤ k := by omega
              go_wp2_with fail
              go_roundw
              case rel => exact ⟨j + 1, qs, by omega, by omega, by go_num, HB.out, G3.out, BB.out⟩
              case measure => simp [intOf]; omega
        · have t3 : (act.kind == 0) = false := by simpa using hk
          by_cases hk1 : act.kind = 1
          · have t4 : (act.kind == 1) = true := by simpa using hk1
            have ES := Lib.hid (show stepQ ps act = delP ps act.key by unfold stepQ; rw [if_neg hk, if_pos hk1])
            clear hk hk1
            go_wp2_with fail
            generalize (wr.alloc (.cells #[.int .i64 act.kind, .int .i64 act.key, .int .i64 act.n] 32)) = W at *
            generalize hbk : wr.heap.size = bk at *
            clear hbk
            have HD := Lib.hid (HW.out.still (Only.refl none_ W).drew)
            have BD := Lib.hid (BW.out.drew)
            have cd : (hasP ps act.key == hasP ps act.key) = true := by simp
            go_region_held3 (fun w' => w'.cell? ⟨bk, 0, none⟩ = some (.int .i64 act.kind) ∧ w'.cell? ⟨bk, 1, none⟩ = some (.int .i64 act.key) ∧ w'.cell? ⟨bk, 2, none⟩ = some (.int .i64 act.n))
              (first
                | (go_keep; done)
                | (go_split_ands; exact ⟨o1.cell r0 (by show ¬ (bk = p ∨ bk = b); omega), o1.cell r1 (by show ¬ (bk = p ∨ bk = b); omega), o1.cell r2 (by show ¬ (bk = p ∨ bk = b); omega)⟩)
                | (go_split_ands; exact ⟨o2.cell (o1.cell r0 (by show ¬ (bk = p ∨ bk = b); omega)) (by show ¬ (bk = a ∨ bk = c ∨ bk = d); omega), o2.cell (o1.cell r1 (by show ¬ (bk = p ∨ bk = b); omega)) (by show ¬ (bk = a ∨ bk = c ∨ bk = d); omega), o2.cell (o1.cell r2 (by show ¬ (bk = p ∨ bk = b); omega)) (by show ¬ (bk = a ∨ bk = c ∨ bk = d); omega)⟩))
              (first
                | (go_at_call 14; refine (del_any p b ps act.key _ ?_ G.out).mono ?_; (exact HD.out.one); rintro e w4 ⟨rfl, h1, o1⟩; have HB1 := Lib.hid (HD.out.first h1 o1))
                | (go_at_call 15; refine (rdel_any q a c d ps act.key _ ?_ G.out).mono ?_; (exact HB1.out.ref); rintro e w5 ⟨rfl, h2, o2⟩; have HB2 := Lib.hid (HB1.out.second h2 o2)))
            have HB5 := Lib.hid (show Both w5 p b q a c d (stepQ ps act) (stepQ ps act) by rw [ES.out]; exact HB2.out)
            have B5 := Lib.hid (Only.below_to (Only.below_to BD.out o1 (Nat.le_refl _) (fun i hi q => by rcases q with q | q <;> omega)) o2 (Nat.le_refl _) (fun i hi q => by rcases q with q | q | q <;> omega))
            have k0 := o2.cell (o1.cell r0 (by show ¬ (bk = p ∨ bk = b); omega)) (by show ¬ (bk = a ∨ bk = c ∨ bk = d); omega)
            have k5 := o2.cell (o1.cell r1 (by show ¬ (bk = p ∨ bk = b); omega)) (by show ¬ (bk = a ∨ bk = c ∨ bk = d); omega)
            clear o1 o2 h1 h2 HB1 HB2 HD BD r0 r1 r2 ES HW BW
            generalize stepQ ps act = qs at *
            have nn : (numP qs act.key != numP qs act.key) = false := by simp
            have hh : (hasP qs act.key != hasP qs act.key) = false := by simp
            have cc : (((cnt qs : Nat) : Int) != ((cnt qs : Nat) : Int)) = false := by simp
            have GA := Lib.hid (get_any p b qs act.key w5 HB5.out.one G3.out)
            go_wp2_with fail
            (with_reducible refine (GA.out).mono ?_)
            rintro e w6 ⟨rfl, o6⟩
            have HB6 := Lib.hid (HB5.out.still o6)
            have B6 := Lib.hid (Only.below_to B5.out o6 (Nat.le_refl _) (fun _ _ s => s))
            have k6 := o6.cell k5 (fun s => s)
            clear k5 o6 HB5 B5 GA
            have RA := Lib.hid (rget_any q a c d qs act.key w6 HB6.out.ref G3.out)
            go_wp2_with fail
            (with_reducible refine (RA.out).mono ?_)
            rintro e w' ⟨rfl, rfl⟩
            have LA := Lib.hid (len_any p b qs w6 HB6.out.one)
            go_wp2_with fail
            (with_reducible refine (LA.out).mono ?_)
            rintro e w' ⟨rfl, rfl⟩
            have RL := Lib.hid (rlen_ref q a c d qs w6 HB6.out.ref)
            go_wp2_with fail
            (with_reducible refine (RL.out).mono ?_)
            rintro e w' ⟨rfl, rfl⟩
            have KA := Lib.hid (keys_any p b qs w6 HB6.out.one G3.out.clean)
            go_wp2_with fail
            (with_reducible refine (KA.out).mono ?_)
            rintro e w7 ⟨v1, rfl, hv1, o7⟩
            have HB7 := Lib.hid (HB6.out.still o7)
            have B7 := Lib.hid (Only.below_to B6.out o7 (Nat.le_refl _) (fun _ _ s => s))
            have V1 := Lib.hid (Reads.of_owns hv1)
            clear o7 hv1 k6 HB6 B6 RA LA RL KA
            have RK := Lib.hid (rkeys_any q a c d qs w7 HB7.out.ref G3.out)
            go_wp2_with fail
            (with_reducible refine (RK.out).mono ?_)
            rintro e w8 ⟨v2, rfl, hv2, o8⟩
            have HB8 := Lib.hid (HB7.out.still o8)
            have B8 := Lib.hid (Only.below_to B7.out o8 (Nat.le_refl _) (fun _ _ s => s))
            have IN0 := ints_any v1 v2 (keysP qs) (keysP qs) w8 (V1.out.still o8) (Reads.of_owns hv2) (by rw [keys_len]; have := cnt_le qs; have := HB8.out.one.pow.le; omega) (by rw [keys_len]; have := cnt_le qs; have := HB8.out.one.pow.le; omega)
            rw [decide_eq_true (rfl : keysP qs = keysP qs)] at IN0
            have IN := Lib.hid IN0
            clear o8 hv2 IN0 HB7 B7 RK V1
            go_wp2_with fail
            (with_reducible refine (IN.out).mono ?_)
            rintro e w9 ⟨rfl, o9⟩
            have HB9 := Lib.hid (HB8.out.still o9)
            have B9 := Lib.hid (Only.below_to B8.out o9 (Nat.le_refl _) (fun _ _ s => s))
            clear o9 HB8 B8 IN
            have RK := Lib.hid (rkeys_any q a c d qs w9 HB9.out.ref G3.out)
            go_wp2_with fail
            (with_reducible refine (RK.out).mono ?_)
            rintro e w10 ⟨v3, rfl, hv3, o10⟩
            obtain ⟨va, vc, rfl, hform⟩ := hv3.shape
            have HB10 := Lib.hid (HB9.out.still o10)
            have B10 := Lib.hid (Only.below_to B9.out o10 (Nat.le_refl _) (fun _ _ s => s))
            have V3 := Lib.hid hv3
            have HF := Lib.hid hform
            have l256 : (keysP qs).length ≤ 256 := by rw [keys_len]; have := cnt_le qs; have := HB10.out.one.pow.le; omega
            clear o10 hv3 hform HB9 B9 RK
            generalize numP qs act.key = nu at *
            generalize hasP qs act.key = hb at *
            generalize cnt qs = cn at *
            go_wp2_with fail
            go_loopw [16] (fun i wr => ∃ k : Nat, k ≤ (keysP qs).length ∧ i = .int .i64 k ∧ Both wr p b q a c d qs qs ∧ Below w.heap.size w wr ∧ OwnsInts wr w9.heap.size (.slice va (keysP qs).length vc) (keysP qs)) (fun i _ => (keysP qs).length - (intOf i).toNat)
            case atStart => exact ⟨0, Nat.zero_le _, rfl, HB10.out, B10.out, V3.out⟩
            case round =>
              obtain ⟨k, hk, rfl, hb', bl, ow⟩ := hrel
              clear HB10 B10 V3
              have HB := Lib.hid hb'
              have BB := Lib.hid bl
              have V := Lib.hid ow
              clear hb' bl ow
              by_cases hlt : k < (keysP qs).length
              · obtain ⟨x, hx⟩ : ∃ x, (keysP qs)[k]? = some x := ⟨_, List.getElem?_eq_getElem hlt⟩
                obtain ⟨g, rfl, hg, hg2⟩ := HF.out (by intro c; rw [c] at hlt; simp at hlt)
                have c5 := V.out.cell one1 hx (j := 0) (by decide)
                simp only [one, List.getElem?_cons_zero, Nat.mul_one, Nat.add_zero] at c5
                have FA := Lib.hid (fun m => (far_any p b qs x (wr.drewN m) (HB.out.one.drewN m) G3.out).mono (fun e w'' h => And.intro h.1 h.2.symm))
                have FB := Lib.hid (fun m => (rfar_any q a c d qs x (wr.drewN m) (HB.out.ref.still ((Only.refl none_ wr).drewN m)) G3.out).mono (fun e w'' h => And.intro h.1 h.2.symm))
                have ff : (farP qs x != farP qs x) = false := by simp
                clear hx
                generalize farP qs x = far at *
                go_wp2_with fail
                go_quiet ((first | (go_at_call 23; exact Calls.quiet_of_same (FA.out _)) | (go_at_call 24; exact Calls.quiet_of_same (FB.out _))))
                go_wp2_with fail
                go_roundw
                case rel => exact ⟨k + 1, by omega, by go_num, HB.out.still ((Only.refl none_ wr).drewN _), below_n BB.out _, V.out.still ((Only.refl _ _).drewN _)⟩
                case measure => simp [intOf]; omega
              · have hge : (keysP qs).length ≤ k := by omega
                go_wp2_with fail
                go_roundw
                case rel => exact ⟨j + 1, qs, by omega, by omega, by go_num, HB.out, G3.out, BB.out⟩
                case measure => simp [intOf]; omega
          · have t4 : (act.kind == 1) = false := by simpa using hk1
            have ES := Lib.hid (show stepQ ps act = ps by unfold stepQ; rw [if_neg hk, if_neg hk1])
            clear hk hk1
            have HB5 := Lib.hid (show Both (wr.alloc (.cells #[.int .i64 act.kind, .int .i64 act.key, .int .i64 act.n] 32)) p b q a c d (stepQ ps act) (stepQ ps act) by rw [ES.out]; exact HW.out)
            have B5 := Lib.hid BW.out
            have k5 := r1
            clear HW BW ES r2
            generalize stepQ ps act = qs at *
            have w5e : ∃ w5, (wr.alloc (.cells #[.int .i64 act.kind, .int .i64 act.key, .int .i64 act.n] 32)) = w5 := ⟨_, rfl⟩
            go_wp2_with fail
            clear w5e
            generalize (wr.alloc (.cells #[.int .i64 act.kind, .int .i64 act.key, .int .i64 act.n] 32)) = w5 at *
            generalize hbk : wr.heap.size = bk at *
            clear hbk
            have nn : (numP qs act.key != numP qs act.key) = false := by simp
            have hh : (hasP qs act.key != hasP qs act.key) = false := by simp
            have cc : (((cnt qs : Nat) : Int) != ((cnt qs : Nat) : Int)) = false := by simp
            have GA := Lib.hid (get_any p b qs act.key w5 HB5.out.one G3.out)
            go_wp2_with fail
            (with_reducible refine (GA.out).mono ?_)
            rintro e w6 ⟨rfl, o6⟩
            have HB6 := Lib.hid (HB5.out.still o6)
            have B6 := Lib.hid (Only.below_to B5.out o6 (Nat.le_refl _) (fun _ _ s => s))
            have k6 := o6.cell k5 (fun s => s)
            clear k5 o6 HB5 B5 GA
            have RA := Lib.hid (rget_any q a c d qs act.key w6 HB6.out.ref G3.out)
            go_wp2_with fail
            (with_reducible refine (RA.out).mono ?_)
            rintro e w' ⟨rfl, rfl⟩
            have LA := Lib.hid (len_any p b qs w6 HB6.out.one)
            go_wp2_with fail
            (with_reducible refine (LA.out).mono ?_)
            rintro e w' ⟨rfl, rfl⟩
            have RL := Lib.hid (rlen_ref q a c d qs w6 HB6.out.ref)
            go_wp2_with fail
            (with_reducible refine (RL.out).mono ?_)
            rintro e w' ⟨rfl, rfl⟩
            have KA := Lib.hid (keys_any p b qs w6 HB6.out.one G3.out.clean)
            go_wp2_with fail
            (with_reducible refine (KA.out).mono ?_)
            rintro e w7 ⟨v1, rfl, hv1, o7⟩
            have HB7 := Lib.hid (HB6.out.still o7)
            have B7 := Lib.hid (Only.below_to B6.out o7 (Nat.le_refl _) (fun _ _ s => s))
            have V1 := Lib.hid (Reads.of_owns hv1)
            clear o7 hv1 k6 HB6 B6 RA LA RL KA
            have RK := Lib.hid (rkeys_any q a c d qs w7 HB7.out.ref G3.out)
            go_wp2_with fail
            (with_reducible refine (RK.out).mono ?_)
            rintro e w8 ⟨v2, rfl, hv2, o8⟩
            have HB8 := Lib.hid (HB7.out.still o8)
            have B8 := Lib.hid (Only.below_to B7.out o8 (Nat.le_refl _) (fun _ _ s => s))
            have IN0 := ints_any v1 v2 (keysP qs) (keysP qs) w8 (V1.out.still o8) (Reads.of_owns hv2) (by rw [keys_len]; have := cnt_le qs; have := HB8.out.one.pow.le; omega) (by rw [keys_len]; have := cnt_le qs; have := HB8.out.one.pow.le; omega)
            rw [decide_eq_true (rfl : keysP qs = keysP qs)] at IN0
            have IN := Lib.hid IN0
            clear o8 hv2 IN0 HB7 B7 RK V1
            go_wp2_with fail
            (with_reducible refine (IN.out).mono ?_)
            rintro e w9 ⟨rfl, o9⟩
            have HB9 := Lib.hid (HB8.out.still o9)
            have B9 := Lib.hid (Only.below_to B8.out o9 (Nat.le_refl _) (fun _ _ s => s))
            clear o9 HB8 B8 IN
            have RK := Lib.hid (rkeys_any q a c d qs w9 HB9.out.ref G3.out)
            go_wp2_with fail
            (with_reducible refine (RK.out).mono ?_)
            rintro e w10 ⟨v3, rfl, hv3, o10⟩
            obtain ⟨va, vc, rfl, hform⟩ := hv3.shape
            have HB10 := Lib.hid (HB9.out.still o10)
            have B10 := Lib.hid (Only.below_to B9.out o10 (Nat.le_refl _) (fun _ _ s => s))
            have V3 := Lib.hid hv3
            have HF := Lib.hid hform
            have l256 : (keysP qs).length ≤ 256 := by rw [keys_len]; have := cnt_le qs; have := HB10.out.one.pow.le; omega
            clear o10 hv3 hform HB9 B9 RK
            generalize numP qs act.key = nu at *
            generalize hasP qs act.key = hb at *
            generalize cnt qs = cn at *
            go_wp2_with fail
            go_loopw [16] (fun i wr => ∃ k : Nat, k ≤ (keysP qs).length ∧ i = .int .i64 k ∧ Both wr p b q a c d qs qs ∧ Below w.heap.size w wr ∧ OwnsInts wr w9.heap.size (.slice va (keysP qs).length vc) (keysP qs)) (fun i _ => (keysP qs).length - (intOf i).toNat)
            case atStart => exact ⟨0, Nat.zero_le _, rfl, HB10.out, B10.out, V3.out⟩
            case round =>
              obtain ⟨k, hk, rfl, hb', bl, ow⟩ := hrel
              clear HB10 B10 V3
              have HB := Lib.hid hb'
              have BB := Lib.hid bl
              have V := Lib.hid ow
              clear hb' bl ow
              by_cases hlt : k < (keysP qs).length
              · obtain ⟨x, hx⟩ : ∃ x, (keysP qs)[k]? = some x := ⟨_, List.getElem?_eq_getElem hlt⟩
                obtain ⟨g, rfl, hg, hg2⟩ := HF.out (by intro c; rw [c] at hlt; simp at hlt)
                have c5 := V.out.cell one1 hx (j := 0) (by decide)
                simp only [one, List.getElem?_cons_zero, Nat.mul_one, Nat.add_zero] at c5
                have FA := Lib.hid (fun m => (far_any p b qs x (wr.drewN m) (HB.out.one.drewN m) G3.out).mono (fun e w'' h => And.intro h.1 h.2.symm))
                have FB := Lib.hid (fun m => (rfar_any q a c d qs x (wr.drewN m) (HB.out.ref.still ((Only.refl none_ wr).drewN m)) G3.out).mono (fun e w'' h => And.intro h.1 h.2.symm))
                have ff : (farP qs x != farP qs x) = false := by simp
                clear hx
                generalize farP qs x = far at *
                go_wp2_with fail
                go_quiet ((first | (go_at_call 23; exact Calls.quiet_of_same (FA.out _)) | (go_at_call 24; exact Calls.quiet_of_same (FB.out _))))
                go_wp2_with fail
                go_roundw
                case rel => exact ⟨k + 1, by omega, by go_num, HB.out.still ((Only.refl none_ wr).drewN _), below_n BB.out _, V.out.still ((Only.refl _ _).drewN _)⟩
                case measure => simp [intOf]; omega
              · have hge : (keysP qs).length ≤ k := by omega
                go_wp2_with fail
                go_roundw
                case rel => exact ⟨j + 1, qs, by omega, by omega, by go_num, HB.out, G3.out, BB.out⟩
                case measure => simp [intOf]; omega
      · have FA0 := far_any p b ps (-1) wr H.out.one G.out
        rw [far_neg G.out] at FA0
        have FA := Lib.hid FA0
        clear FA0
        rcases t1 with ⟨t1, t2⟩ | t1
        · go_wp2_with fail
          (with_reducible refine (FA.out).mono ?_)
          rintro e w' ⟨rfl, rfl⟩
          go_wp2_with fail
          go_ret
          exact ⟨rfl, B.out⟩
        · go_wp2_with fail
          (with_reducible refine (FA.out).mono ?_)
          rintro e w' ⟨rfl, rfl⟩
          go_wp2_with fail
          go_ret
          exact ⟨rfl, B.out⟩


set_option maxRecDepth 100000 in
theorem lifted (os : Os) (started : os.Started) (H : Type) (enc : TypeId × Value → H) :
    ReturnsInHanded {} Try.checked os 3 .any (Rows.indexPlaysSpec.pre6 enc Try.prog Try.f3 Rows.indexPlaysRow.domain false) (Rows.indexPlaysSpec.post enc Try.prog Try.f3 false true false false) := by
  refine returnsInHanded_of_change (C := Try.checked) own started (by kernel_rfl) Try.func3
    (ChangeSpec.witness6 (enc := enc) (C := Try.checked) false ⟨#[], #[.int .i64 0, .slice none 0 0], []⟩ 8 (by kernel_rfl) (by kernel_rfl) (by kernel_rfl) (by kernel_rfl)) ?_
  intro W base args ds gs before hval0 hW hcnd _
  have hval : ∀ (j : Nat) t v, Try.f3.params[j]? = some t → args[j]? = some v → Value.okWide Try.prog W .any base t v := hval0
  have hW' := hW
  obtain ⟨p, q, hA0, hV, rfl, hfz, hnd⟩ := hW
  have hA : DataW.TrodAll enc Try.prog W 0 (fun _ => true) true Try.f3.params.toList args.toList ds p := hA0
  rw [Try.params3] at hA hval
  obtain ⟨v0, vs0, d0, ds0, p0, q0, hargs, rfl, rfl, h0, r0⟩ := trodAll_cons hA
  obtain ⟨v1, vs1, d1, ds1, p1, q1, rfl, rfl, rfl, h1, r1⟩ := trodAll_cons r0
  obtain ⟨rfl, rfl, rfl⟩ := trodAll_nil r1
  obtain rfl : args = #[v0, v1] := by cases args; simp_all
  obtain ⟨rfl, rfl⟩ := trodVars_none hV
  obtain ⟨a0, rfl, rfl, rfl, w0⟩ := open_int Try.underlying3 (hval 0 3 v0 rfl rfl) h0
  have k1 := h1
  have lt1 : ∀ x ∈ p1, x.block < W.heap.size := by obtain ⟨m, hm⟩ := k1; exact DataW.trod_lt m _ _ _ hm
  obtain ⟨ad1, len1, cap1, rfl⟩ := okWide_slice Try.underlying22 (hval 1 22 v1 rfl rfl)
  obtain ⟨fuel1, hf1⟩ := h1
  obtain ⟨max1, xs1, el1, hold1, wf1⟩ := open_acts hf1
  have shut : ∀ W', Below W.heap.size W W' → DataW.TrodAll enc Try.prog W' 0 (fun b => decide (b < W.heap.size)) true [3, 22] [.int .i64 a0, .slice ad1 len1 cap1] [.lit (.int .i64 a0), d1] ([] ++ (p1 ++ [])) := fun W' bel =>
    (trodAll_cons_mk (shut_int Try.underlying3 w0) (trodAll_cons_mk (Below.trod laidOut (by kernel_rfl) (of_decide_eq_true (by kernel_rfl)) k1 bel lt1) trodAll_mk0))
  clear hA0 hval0
  refine (walk W a0 w0 ad1 len1 cap1 xs1 max1 el1 hold1 wf1).mono fun e W' ⟨he, bel⟩ => ?_
  subst he
  exact ⟨_, rfl, _, _, _, [], _, [], hW', trodAll_mk1 (shut_bool Try.underlying4 _), shut W' bel, rfl, bel.frame _, fun h => by cases h⟩

theorem over : Rows.indexPlaysRow.holds Try.pinned (OpenSpec.ofChange Rows.indexPlaysSpec) :=
  OpenClaim.holds_of_wide 3 Try.f3 rfl rfl rfl rfl rfl rfl rfl ⟨rfl, rfl, rfl, rfl, rfl⟩ rfl rfl rfl rfl rfl (by kernel_rfl) Try.func3 (by kernel_rfl)
    (of_decide_eq_true (by kernel_rfl)) (by unfold Func.isWrapper; first | (rw [if_pos (by decide +kernel)]; kernel_rfl) | (rw [if_neg (by decide +kernel)]; exact ⟨rfl, rfl⟩))
    (fun os started H enc _ => lifted os started H enc)

theorem indexPlays_holds : Rows.IndexPlaysSaid := over
#print axioms indexPlays_holds
end Go.Proofs.Ytajphhalneaihaa.indexPlays

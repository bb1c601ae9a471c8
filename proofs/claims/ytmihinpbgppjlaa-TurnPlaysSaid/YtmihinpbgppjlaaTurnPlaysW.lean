/- The walk through TurnPlays's own text. -/
import Derived.WalkKit
import Derived.ProofKit
import Derived.OpenShut
import Derived.Below
import Derived.Test.YtmihinpbgppjlaaArgs
import Derived.Test.YtmihinpbgppjlaaTnAwake
namespace Go.Proofs.Ytmihinpbgppjlaa.turnPlays
open Go.ChangeShapes Go.WideShapes Go.ChangeAt Go.RowKit
set_option linter.unusedVariables false


set_option maxHeartbeats 2000000 in
set_option maxRecDepth 100000 in
theorem walk (w : World) (dem : Int) (_ : (Lit.int .i64 dem).wf = true) (ahd : Int) (_ : (Lit.int .i64 ahd).wf = true) (A : Option Addr) (len cap : Nat) (xs : List Act1) (hmax : len ≤ maxLen) (hlen : xs.length = len) (hold : Holds w A 3 Act1.cells xs) (wf : ∀ a ∈ xs, (Lit.int .i64 a.k).wf = true) :
    Calls Try.prog 3 #[.int .i64 dem, .int .i64 ahd, .slice A len cap] w fun e w' => e = .returned (.bool true) ∧ Below w.heap.size w w' := by
  unfold maxLen at hmax
  have HL := Lib.hid hlen
  have HO := Lib.hid hold
  have WF := Lib.hid wf
  clear hlen hold wf
  have S0 := Lib.hid (show Sg w w Asr.none from ⟨⟨fun _ => False, fun _ s => s, fun _ s => s.elim⟩, Only.refl _ _⟩)
  have MA := fun w => rmay_any dem ahd w
  cases hmay : may12r dem ahd with
  | false =>
    have NW := Lib.hid (fun w => tnew_no dem ahd w hmay)
    rw [hmay] at MA
    have MA := Lib.hid MA
    clear hmay
    go_enter Try.func3, Try.ntmps3
    go_wp2_with fail
    (with_reducible refine (awake12_any _).mono ?_)
    rintro e w1 ⟨rfl, o⟩
    have O1 := Lib.hid o
    clear o
    go_wp2_with fail
    (with_reducible refine (NW.out _).mono ?_)
    rintro e w2 ⟨rfl, o⟩
    have O2 := Lib.hid (O1.out.same o)
    clear o
    go_wp2_with fail
    (with_reducible refine (MA.out _).mono ?_)
    rintro e w' ⟨rfl, rfl⟩
    go_wp2_with fail
    go_ret
    exact ⟨rfl, O2.out.to_below12⟩
  | true =>
    have hb := of_decide_eq_true hmay
    obtain ⟨nd, rfl⟩ : ∃ n : Nat, dem = n := ⟨dem.toNat, by omega⟩
    obtain ⟨na, rfl⟩ : ∃ n : Nat, ahd = n := ⟨ahd.toNat, by omega⟩
    rw [hmay] at MA
    have MA := Lib.hid MA
    clear hmay
    have d64 : nd ≤ 64 := by omega
    have a64 : na ≤ 64 := by omega
    have N1 := Lib.hid (show 1 ≤ nd from by omega)
    clear hb
    go_enter Try.func3, Try.ntmps3
    go_wp2_with fail
    (with_reducible refine (awake12_any _).mono ?_)
    rintro e w1 ⟨rfl, o⟩
    have S1 := Lib.hid (S0.out.still o)
    clear o S0
    have NW := Lib.hid (sg_new nd na w _ S1.out N1.out d64 a64)
    go_wp2_with fail
    (with_reducible refine (NW.out).mono ?_)
    rintro e w2 ⟨p, rfl, h, _⟩
    have S2 := Lib.hid h
    clear h S1 NW
    go_wp2_with fail
    (with_reducible refine (MA.out _).mono ?_)
    rintro e w' ⟨rfl, rfl⟩
    have NW := Lib.hid (sg_rnew nd na w _ S2.out)
    go_wp2_with fail
    (with_reducible refine (NW.out).mono ?_)
    rintro e w3 ⟨q, rfl, h, _⟩
    have S3 := Lib.hid h.up2
    clear h S2 NW
    go_wp2_with fail
    go_loopw [10] (fun i wr => ∃ (j : Nat) (ss : List Sl), j ≤ len ∧ j ≤ 150 ∧ i = .int .i64 j ∧ Sg w wr ((AT p nd na j ss).and ((AR q nd na ss).and Asr.none))) (fun i _ => len - (intOf i).toNat)
    case atStart => exact ⟨0, [], Nat.zero_le _, Nat.zero_le _, rfl, S3.out⟩
    case round =>
      obtain ⟨j, ss, hj, hj2, rfl, h⟩ := hrel
      clear S3
      have H := Lib.hid h
      clear h
      have t12 : (j < len ∧ j < 150) ∨ (j < len ∧ 150 ≤ j) ∨ len ≤ j := by omega
      rcases t12 with ⟨q1, q2⟩ | q1
      · obtain ⟨act, hact⟩ : ∃ act, xs[j]? = some act := ⟨_, List.getElem?_eq_getElem (by rw [HL.out]; exact q1)⟩
        obtain ⟨sb, so, hA, hsb, k0, k1, k2⟩ := act_at HO.out H.out.only.to_below12 hact
        have WX := Lib.hid (WF.out act (List.mem_of_getElem? hact))
        subst hA
        have AM := Lib.hid (act_more HO.out hact)
        clear hact
        have ST := sg_step act H.out WX.out (by omega) (by have := H.out.fst.fine.len; omega) (by omega)
        rw [beq_self_eq_true] at ST
        have ST := Lib.hid ST
        go_wp2_with fail
        (with_reducible refine (ST.out).mono ?_)
        rintro e w4 ⟨rfl, h⟩
        have S4 := Lib.hid h
        clear h ST k0 k1 k2
        have FN := Lib.hid S4.out.fst.fine
        generalize stepS nd na ss act = s1 at *
        have FR := sg_free S4.out.fst
        unfold freeI at FR
        have m1 := FN.out.few false
        have m2 := FN.out.few true
        have wl := Nat.le_trans (waitL_len s1) FN.out.len
        have e1 : mostL nd na false = nd := rfl
        have e2 : mostL nd na true = na := rfl
        rw [e1] at m1
        rw [e2] at m2
        clear e1 e2
        obtain ⟨n1, hn1⟩ : ∃ n, (rowL false s1).length = n := ⟨_, rfl⟩
        obtain ⟨n2, hn2⟩ : ∃ n, (rowL true s1).length = n := ⟨_, rfl⟩
        rw [hn1] at FR m1
        rw [hn2] at FR m2
        have FR := Lib.hid FR
        have HN1 := Lib.hid hn1
        have HN2 := Lib.hid hn2
        clear hn1 hn2
        go_wp2_with fail
        (with_reducible refine (FR.out).mono ?_)
        rintro e w5 ⟨rfl, o⟩
        have S5 := Lib.hid (S4.out.still o)
        obtain ⟨_, k1, _⟩ := AM.out w5 S5.out.only.to_below12
        have SA := Lib.hid (sg_state act.k S5.out.fst WX.out)
        clear o FR
        go_wp2_with fail
        (with_reducible refine (SA.out).mono ?_)
        rintro e w6 ⟨rfl, o⟩
        have S6 := Lib.hid (S5.out.still o)
        clear o k1 SA S5
        obtain ⟨_, k1, _⟩ := AM.out w6 S6.out.only.to_below12
        have SA := Lib.hid (sg_rstate act.k S6.out.snd.fst (by have := FN.out.len; omega))
        go_wp2_with fail
        (with_reducible refine (SA.out).mono ?_)
        rintro e w7 ⟨rfl, o⟩
        have S7 := Lib.hid (S6.out.still o)
        clear o k1 SA S6
        obtain ⟨A1, g1, A2, g2, r1, r2⟩ := S7.out.snd.fst.rows
        rw [HN1.out] at r1
        rw [HN2.out] at r2
        generalize (atL s1 act.k).a = ba at *
        generalize (atL s1 act.k).s = bs at *
        generalize hasL s1 act.k = bh at *
        have W1 := Lib.hid (sg_waiting S7.out.fst (by omega))
        obtain ⟨l, hl⟩ : ∃ l, waitL s1 = l := ⟨_, rfl⟩
        rw [hl] at W1 wl
        have HLL := Lib.hid hl
        clear hl
        go_wp2_with fail
        (with_reducible refine W1.out.mono ?_)
        rintro e w8 ⟨a8, c8, rfl, h8, o8⟩
        have H8 := Lib.hid (Reads.of_owns h8)
        have S8 := Lib.hid (S7.out.still o8)
        have W2 := sg_rwaiting S8.out.snd.fst (by have := FN.out.len; omega)
        rw [HLL.out] at W2
        have W2 := Lib.hid W2
        clear h8 o8 W1 r1 r2
        go_wp2_with fail
        (with_reducible refine W2.out.mono ?_)
        rintro e w9 ⟨a9, c9, rfl, h9, o9⟩
        have H9 := Lib.hid (Reads.of_owns h9)
        have H89 := Lib.hid (H8.out.still o9)
        have S9 := Lib.hid (S8.out.still o9)
        have IN := ints_told a8 a9 c8 c9 l l _ H89.out H9.out (by omega) (by omega)
        rw [decide_eq_true rfl] at IN
        have IN := Lib.hid IN
        clear h9 o9 W2
        go_wp2_with fail
        (with_reducible refine IN.out.mono ?_)
        rintro e w10 ⟨rfl, o⟩
        have S10 := Lib.hid (S9.out.still o)
        clear o
        go_wp2_with fail
        go_roundw
        case rel => exact ⟨j + 1, s1, by omega, by omega, by go_num, S10.out⟩
        case measure => simp [intOf]; omega
      · have W3 := Lib.hid H.out.only.to_below12
        rcases q1 with ⟨q1, q2⟩ | q1
        all_goals
          go_wp2_with fail
          go_ret
          exact ⟨rfl, W3.out⟩



end Go.Proofs.Ytmihinpbgppjlaa.turnPlays

/- The walk through LanePlays's own text. -/
import Derived.WalkKit
import Derived.ProofKit
import Derived.OpenShut
import Derived.Below
import Derived.Test.YtjeiaialnanemaaArgs
import Derived.Test.YtjeiaialnanemaaLnAwake
import Derived.Test.YtjeiaialnanemaaActs11
import Derived.Deep.RegionHeld3
import Derived.Deep.CutRange
namespace Go.Proofs.Ytjeiaialnanemaa.lanePlays
open Go.ChangeShapes Go.WideShapes Go.ChangeAt Go.RowKit
set_option linter.unusedVariables false


set_option maxHeartbeats 2000000 in
set_option maxRecDepth 100000 in
theorem walk (w : World) (blocks : Int) (_ : (Lit.int .i64 blocks).wf = true) (room' : Int) (_ : (Lit.int .i64 room').wf = true) (A : Option Addr) (len cap : Nat) (xs : List Act1) (hmax : len ≤ maxLen) (hlen : xs.length = len) (hold : Holds w A 3 Act1.cells xs) (wf : ∀ a ∈ xs, (Lit.int .i64 a.b).wf = true) :
    Calls Try.prog 3 #[.int .i64 blocks, .int .i64 room', .slice A len cap] w fun e w' => e = .returned (.bool true) ∧ Below w.heap.size w w' := by
  unfold maxLen at hmax
  have HL := Lib.hid hlen
  have HO := Lib.hid hold
  have WF := Lib.hid wf
  clear hlen hold wf
  have S0 := Lib.hid (show Sg w w Asr.none from ⟨⟨fun _ => False, fun _ s => s, fun _ s => s.elim⟩, Only.refl _ _⟩)
  have MA := fun w => may11_any blocks room' w
  cases hmay : may11 blocks room' with
  | false =>
    have NW := Lib.hid (fun w => lnew_no blocks room' w hmay)
    rw [hmay] at MA
    have MA := Lib.hid MA
    clear hmay
    go_enter Try.func3, Try.ntmps3
    go_wp2_with fail
    (with_reducible refine (awake11_any _).mono ?_)
    rintro e w1 ⟨rfl, o⟩
    have O1 := Lib.hid o
    clear o
    go_wp2_with fail
    (with_reducible refine (NW.out _).mono ?_)
    rintro e w' ⟨rfl, rfl⟩
    go_wp2_with fail
    (with_reducible refine (MA.out _).mono ?_)
    rintro e w' ⟨rfl, rfl⟩
    go_wp2_with fail
    go_ret
    exact ⟨rfl, O1.out.to_below11⟩
  | true =>
    have hb := of_decide_eq_true hmay
    obtain ⟨n, rfl⟩ : ∃ n : Nat, blocks = n := ⟨blocks.toNat, by omega⟩
    obtain ⟨room, rfl⟩ : ∃ n : Nat, room' = n := ⟨room'.toNat, by omega⟩
    rw [hmay] at MA
    have MA := Lib.hid MA
    clear hmay
    have n256 : n ≤ 256 := by omega
    have r128 : room ≤ 128 := by omega
    have N1 := Lib.hid (show 1 ≤ n ∧ 1 ≤ room from by omega)
    clear hb
    have n1000 : n ≤ 1000 := by omega
    have r1000 : room ≤ 1000 := by omega
    go_enter Try.func3, Try.ntmps3
    go_wp2_with fail
    (with_reducible refine (awake11_any _).mono ?_)
    rintro e w1 ⟨rfl, o⟩
    have S1 := Lib.hid (S0.out.still o)
    clear o S0
    have NW := Lib.hid (sg_new n room w _ S1.out N1.out.1 n256 N1.out.2 r128)
    go_wp2_with fail
    (with_reducible refine (NW.out).mono ?_)
    rintro e w2 ⟨p, rfl, h, _⟩
    have S2 := Lib.hid h
    clear h S1 NW
    go_wp2_with fail
    (with_reducible refine (MA.out _).mono ?_)
    rintro e w' ⟨rfl, rfl⟩
    have NW := Lib.hid (sg_rnew n room w _ S2.out)
    go_wp2_with fail
    (with_reducible refine (NW.out).mono ?_)
    rintro e w3 ⟨q, rfl, h, _⟩
    have S3 := Lib.hid (show Sg w w3 ((AL p n room []).and (AR q n room [])) from h.up2.assoc2.fst)
    clear h S2 NW
    go_wp2_with fail
    go_loopw [10] (fun i wr => ∃ (j : Nat) (ss : List Sd), j ≤ len ∧ j ≤ 150 ∧ i = .int .i64 j ∧ Sg w wr ((AL p n room ss).and (AR q n room ss)) ∧ ss.length ≤ room) (fun i _ => len - (intOf i).toNat)
    case atStart => exact ⟨0, [], Nat.zero_le _, Nat.zero_le _, rfl, S3.out, Nat.zero_le _⟩
    case round =>
      obtain ⟨j, ss, hj, hj2, rfl, h, hle⟩ := hrel
      clear S3
      have H := Lib.hid h
      clear h
      have t12 : (j < len ∧ j < 150) ∨ (j < len ∧ 150 ≤ j) ∨ len ≤ j := by omega
      rcases t12 with ⟨q1, q2⟩ | q1
      · obtain ⟨act, hact⟩ : ∃ act, xs[j]? = some act := ⟨_, List.getElem?_eq_getElem (by rw [HL.out]; exact q1)⟩
        obtain ⟨sb, so, hA, hsb, k0, k1, k2⟩ := act_at HO.out H.out.only.to_below11 hact
        have WX := Lib.hid (WF.out act (List.mem_of_getElem? hact))
        subst hA
        clear hact
        have SF := Lib.hid ((H.out.fresh 32 #[.int .i64 act.kind, .int .i64 act.a, .int .i64 act.b]).assoc)
        go_upto_region 13 with fail
        obtain ⟨xa, hxa⟩ : ∃ xa, wr.heap.size = xa := ⟨_, rfl⟩
        rw [hxa] at SF ⊢
        clear hxa k0 k1 k2 H
        generalize wr.alloc (.cells #[.int .i64 act.kind, .int .i64 act.a, .int .i64 act.b] 32) = wb at *
        have KS := Lib.hid (fun (w' : World) (X Y : Asr) (h : Sg w w' (X.and (Y.and (Asr.row xa 32 #[.int .i64 act.kind, .int .i64 act.a, .int .i64 act.b])))) => h.snd.snd.row.three)
        go_cut [86] from 55 to 211 (fun s86 wx => s86 = .bool false ∧ ∃ s1 : List Sd, Sg w wx ((AL p n room s1).and ((AR q n room s1).and (Asr.row xa 32 #[.int .i64 act.kind, .int .i64 act.a, .int .i64 act.b]))) ∧ s1.length ≤ room)
        case first =>
          obtain ⟨c0, c1, c2⟩ := KS.out _ _ _ SF.out
          by_cases kk : act.kind = 0
          · have kd : (act.kind == 0) = true := by simp [kk]
            have HD := Lib.hid (SF.out.still ((Only.refl none_ wb).drew))
            have LE := Lib.hid (pushS_le (n := n) (b := act.a) (x := act.b) hle)
            have ne1 : ((pushC n room ss act.a act.b) != (pushC n room ss act.a act.b)) = false := by simp
            have sl : ss.length ≤ 1000 := by omega
            clear kk c1 c2
            go_region_held3 (fun w' => w'.cell? ⟨xa, 0, none⟩ = some (.int .i64 act.kind) ∧ w'.cell? ⟨xa, 1, none⟩ = some (.int .i64 act.a) ∧ w'.cell? ⟨xa, 2, none⟩ = some (.int .i64 act.b))
              (first
                | (with_reducible exact KS.out _ _ _ H5.out)
                | (with_reducible exact KS.out _ _ _ H4.out)
                | (with_reducible exact KS.out _ _ _ HD.out)
                | fail)
              (first
                | (go_at_call 12; (with_reducible refine (sg_push act.a act.b HD.out n1000 hle r1000 WX.out).mono ?_); rintro e w4 ⟨rfl, h4⟩; have H4 := Lib.hid h4)
                | (go_at_call 13; (with_reducible refine (sg_rpush act.a act.b H4.out.up2 n1000 sl r1000).mono ?_); rintro e w5 ⟨rfl, h5⟩; have H5 := Lib.hid h5)
                | fail)
            all_goals
              go_wp2_with fail
              go_meet
              case rel => exact ⟨rfl, _, H5.out.up2, LE.out⟩
          · have kd : (act.kind == 0) = false := by simp [kk]
            clear kk
            go_quiet (fail)
            go_wp2_with fail
            go_meet
            case rel => exact ⟨rfl, ss, SF.out.still ((Only.refl none_ wb).drewN _), hle⟩
        case rest =>
          obtain ⟨rfl, s1, h1, hle1⟩ := hcut
          have S1 := Lib.hid h1
          clear h1 SF hle
          obtain ⟨c0, c1, c2⟩ := KS.out _ _ _ S1.out
          have sl : s1.length ≤ 1000 := by omega
          go_upto_if 89 with fail
          go_cut [] from 55 to 211 (fun wx => ∃ s1 : List Sd, Sg w wx ((AL p n room s1).and ((AR q n room s1).and (Asr.row xa 32 #[.int .i64 act.kind, .int .i64 act.a, .int .i64 act.b]))) ∧ s1.length ≤ room)
          case first =>
            by_cases kk : act.kind = 1
            · have kd : (act.kind == 1) = true := by simp [kk]
              have PL := Lib.hid (sg_pull act.b S1.out n1000 sl WX.out)
              have LE := Lib.hid (Nat.le_trans (pullS_le (ss := s1) (x := act.b)) hle1)
              clear kk c0 c1
              go_wp2_with fail
              (with_reducible refine PL.out.mono ?_)
              rintro e w4 ⟨rfl, h4⟩
              have H4 := Lib.hid h4
              obtain ⟨d0, d1, d2⟩ := KS.out _ _ _ H4.out
              have RP := Lib.hid (sg_rpull act.b H4.out.up2 sl)
              clear h4 c2 d0 d1 PL
              go_wp2_with fail
              (with_reducible refine RP.out.mono ?_)
              rintro e w5 ⟨rfl, h5⟩
              have H5 := Lib.hid h5
              have ne1 : (blockI s1 act.b != blockI s1 act.b) = false := by simp
              have ne2 : (pullC s1 act.b != pullC s1 act.b) = false := by simp
              clear h5 d2 RP H4
              go_wp2_with fail
              go_meet
              case rel => exact ⟨_, H5.out.up2, LE.out⟩
            · have kd : (act.kind == 1) = false := by simp [kk]
              clear kk c1 c2
              go_wp2_with fail
              go_meet
              case rel => exact ⟨s1, S1.out, hle1⟩
          case rest =>
            obtain ⟨s2, h2, hle2⟩ := hcut
            have S2 := Lib.hid h2
            clear h2 S1 hle1 sl c0 c1 c2
            have sl : s2.length ≤ 1000 := by omega
            obtain ⟨_, c1, c2⟩ := KS.out _ _ _ S2.out
            have HE := Lib.hid (sg_head act.a S2.out.fst n1000 sl)
            have RE := Lib.hid (sg_rhead act.a S2.out.snd.fst sl)
            have lnl : (laneL s2 act.a).length ≤ 1000 := Nat.le_trans (lane_le _ _) sl
            have hdl : (headsL s2 n).length ≤ 1000 := Nat.le_trans (heads_le _ _) n1000
            generalize hxl : laneL s2 act.a = xl at *
            have XL := Lib.hid hxl
            clear hxl
            go_wp2_with fail
            (with_reducible refine (HE.out).mono ?_)
            rintro e w' ⟨rfl, rfl⟩
            go_wp2_with fail
            (with_reducible refine (RE.out).mono ?_)
            rintro e w4 ⟨rfl, o4⟩
            have S4 := Lib.hid (S2.out.still o4)
            clear HE RE S2 o4 c1 c2
            obtain ⟨_, c1, c2⟩ := KS.out _ _ _ S4.out
            have HE := Lib.hid (sg_last act.a S4.out.fst n1000 sl)
            have RE := Lib.hid (sg_rlast act.a S4.out.snd.fst sl)
            rw [XL.out] at HE RE
            go_wp2_with fail
            (with_reducible refine (HE.out).mono ?_)
            rintro e w' ⟨rfl, rfl⟩
            go_wp2_with fail
            (with_reducible refine (RE.out).mono ?_)
            rintro e w5 ⟨rfl, o5⟩
            have S5 := Lib.hid (S4.out.still o5)
            clear HE RE S4 o5 c1 c2
            obtain ⟨_, c1, c2⟩ := KS.out _ _ _ S5.out
            have HE := Lib.hid (sg_block act.b S5.out.fst WX.out)
            have RE := Lib.hid (sg_rblock act.b S5.out.snd.fst sl)
            go_wp2_with fail
            (with_reducible refine (HE.out).mono ?_)
            rintro e w' ⟨rfl, rfl⟩
            go_wp2_with fail
            (with_reducible refine (RE.out).mono ?_)
            rintro e w6 ⟨rfl, o6⟩
            have S6 := Lib.hid (S5.out.still o6)
            clear HE RE S5 o6 c1 c2
            have ne1 : (headI xl != headI xl) = false := by simp
            have ne2 : (someB xl != someB xl) = false := by simp
            have ne3 : (lastI xl != lastI xl) = false := by simp
            have ne4 : (blockI s2 act.b != blockI s2 act.b) = false := by simp
            have ne5 : ((tkAt s2 act.b).isSome != (tkAt s2 act.b).isSome) = false := by simp
            have ne6 : ((s2.length : Int) != (s2.length : Int)) = false := by simp
            generalize hhl : headsL s2 n = yl at *
            have YL := Lib.hid hhl
            obtain ⟨m, hm⟩ : ∃ m, s2.length = m := ⟨_, rfl⟩
            have ML := Lib.hid hm
            rw [hm] at ne6
            generalize headI xl = hi at *
            generalize lastI xl = li at *
            generalize someB xl = si at *
            generalize blockI s2 act.b = bi at *
            generalize (tkAt s2 act.b).isSome = ti at *
            clear hhl hm
            obtain ⟨sa, sc, hs⟩ := S6.out.snd.fst.slot
            rw [ML.out] at hs
            have K6 := Lib.hid (fun (w' : World) (o : Only none_ w6 w') => (show w'.cell? ⟨q, 2, none⟩ = some (.slice sa m sc) ∧ w'.cell? ⟨xa, 1, none⟩ = some (.int .i64 act.a) from ⟨o.cell hs (fun s => s), (KS.out _ _ _ (S6.out.still o)).2.1⟩))
            clear hs
            have OD := Lib.hid ((Only.refl none_ w6).drew)
            go_wp2_with fail
            go_region_held3 (fun w' => w'.cell? ⟨q, 2, none⟩ = some (.slice sa m sc) ∧ w'.cell? ⟨xa, 1, none⟩ = some (.int .i64 act.a))
              (first
                | (with_reducible exact K6.out _ P12.out)
                | (with_reducible exact K6.out _ P11.out)
                | (with_reducible exact K6.out _ P10.out)
                | (with_reducible exact K6.out _ P9.out)
                | (with_reducible exact K6.out _ P8.out)
                | (with_reducible exact K6.out _ P7.out)
                | (with_reducible exact K6.out _ OL.out)
                | (with_reducible exact K6.out _ OD.out)
                | fail)
              (first
                | (go_at_call 22; (with_reducible refine (sg_len (S6.out.still OD.out).fst).mono ?_); rintro e w' ⟨rfl, rfl⟩; rw [ML.out]; have OL := Lib.hid OD.out)
                | (go_at_call 24; (with_reducible refine (sg_lane act.a (S6.out.still OL.out).fst n1000 sl).mono ?_); rintro e w7 ⟨a7, c7, rfl, h7, o7⟩; rw [XL.out] at h7 ⊢; have H7 := Lib.hid (Reads.of_owns h7); have P7 := Lib.hid (OL.out.same o7))
                | (go_at_call 25; (with_reducible refine (sg_rlane act.a (S6.out.still P7.out).snd.fst sl).mono ?_); rintro e w8 ⟨a8, c8, rfl, h8, o8⟩; rw [XL.out] at h8 ⊢; have H8 := Lib.hid (Reads.of_owns h8); have P8 := Lib.hid (P7.out.same o8); have H78 := Lib.hid (H7.out.still o8))
                | (go_at_call 23; (with_reducible refine (ints_told a7 a8 c7 c8 xl xl _ H78.out H8.out lnl lnl).mono ?_); rintro e w9 ⟨rfl, o9⟩; have P9 := Lib.hid (P8.out.same o9))
                | (go_at_call 26; (with_reducible refine (sg_heads (S6.out.still P9.out).fst n1000 sl).mono ?_); rintro e w10 ⟨a10, c10, rfl, h10, o10⟩; rw [YL.out] at h10 ⊢; have H10 := Lib.hid (Reads.of_owns h10); have P10 := Lib.hid (P9.out.same o10))
                | (go_at_call 27; (with_reducible refine (sg_rheads (S6.out.still P10.out).snd.fst sl n1000).mono ?_); rintro e w11 ⟨a11, c11, rfl, h11, o11⟩; rw [YL.out] at h11 ⊢; have H11 := Lib.hid (Reads.of_owns h11); have P11 := Lib.hid (P10.out.same o11); have HA := Lib.hid (H10.out.still o11))
                | (go_at_call 23; (with_reducible refine (ints_told a10 a11 c10 c11 yl yl _ HA.out H11.out hdl hdl).mono ?_); rintro e w12 ⟨rfl, o12⟩; have P12 := Lib.hid (P11.out.same o12))
                | fail)
            all_goals
              go_wp2_with fail
              go_roundw
              case rel => exact ⟨j + 1, s2, by omega, by omega, by go_num, (S6.out.still P12.out).assoc2.fst, hle2⟩
              case measure => simp [intOf]; omega
      · have W3 := Lib.hid H.out.only.to_below11
        rcases q1 with ⟨q1, q2⟩ | q1
        all_goals
          go_wp2_with fail
          go_ret
          exact ⟨rfl, W3.out⟩



end Go.Proofs.Ytjeiaialnanemaa.lanePlays

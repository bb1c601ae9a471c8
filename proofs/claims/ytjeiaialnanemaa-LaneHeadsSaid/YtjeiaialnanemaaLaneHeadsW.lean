/- The walk through LaneHeads's own text. -/
import Derived.WalkKit
import Derived.ProofKit
import Derived.OpenShut
import Derived.Below
import Derived.Test.YtjeiaialnanemaaArgs
import Derived.Test.YtjeiaialnanemaaHeads11
import Derived.Test.YtjeiaialnanemaaActs11
import Derived.StillTailTactics
import Derived.Deep.CutRange
import Derived.Deep.CutBlock
namespace Go.Proofs.Ytjeiaialnanemaa.laneHeads
open Go.ChangeShapes Go.WideShapes Go.ChangeAt Go.RowKit
set_option linter.unusedVariables false


set_option maxHeartbeats 2000000 in
set_option maxRecDepth 100000 in
theorem walk (w : World) (A : Option Addr) (len cap : Nat) (xs : List Act1) (hmax : len ≤ maxLen) (hlen : xs.length = len) (hold : Holds w A 3 Act1.cells xs) (wf : ∀ a ∈ xs, (Lit.int .i64 a.b).wf = true) :
    Calls Try.prog 7 #[.slice A len cap] w fun e w' => e = .returned (.bool true) ∧ Below w.heap.size w w' := by
  unfold maxLen at hmax
  have HL := Lib.hid hlen
  have HO := Lib.hid hold
  have WF := Lib.hid wf
  clear hlen hold wf
  have S0 := Lib.hid (show Sg w w Asr.none from ⟨⟨fun _ => False, fun _ s => s, fun _ s => s.elim⟩, Only.refl _ _⟩)
  go_enter Try.func7, Try.ntmps7
  go_wp2_with fail
  (with_reducible refine (awake11_any _).mono ?_)
  rintro e w1 ⟨rfl, o⟩
  have S1 := Lib.hid (S0.out.still o)
  clear o S0
  have NW := Lib.hid (sg_new8 w _ S1.out)
  go_wp2_with fail
  (with_reducible refine (NW.out).mono ?_)
  rintro e w2 ⟨p, rfl, h, _⟩
  have S3 := Lib.hid h
  clear h NW S1
  go_wp2_with fail
  go_loopw [5] (fun i wr => ∃ (j : Nat) (ss : List Sd), j ≤ len ∧ j ≤ 150 ∧ i = .int .i64 j ∧ Sg w wr ((AL p 8 128 ss).and Asr.none) ∧ ss.length ≤ 128 ∧ WfK ss) (fun i _ => len - (intOf i).toNat)
  case atStart => exact ⟨0, [], Nat.zero_le _, Nat.zero_le _, rfl, S3.out, Nat.zero_le _, fun s hs => by cases hs⟩
  case round =>
    obtain ⟨j, ss, hj, hj2, rfl, h, hle, hwf⟩ := hrel
    clear S3
    have H := Lib.hid h
    have KF := Lib.hid hwf
    clear h hwf
    have t12 : (j < len ∧ j < 150) ∨ (j < len ∧ 150 ≤ j) ∨ len ≤ j := by omega
    rcases t12 with ⟨q1, q2⟩ | q1
    · obtain ⟨act, hact⟩ : ∃ act, xs[j]? = some act := ⟨_, List.getElem?_eq_getElem (by rw [HL.out]; exact q1)⟩
      obtain ⟨sb, so, hA, hsb, k0, k1, k2⟩ := act_at HO.out H.out.only.to_below11 hact
      have WX := Lib.hid (WF.out act (List.mem_of_getElem? hact))
      subst hA
      clear hact
      have sl : ss.length ≤ 1000 := by omega
      go_upto_if 36 with fail
      go_cut [] from 21 to 108 (fun wx => ∃ s2 : List Sd, Sg w wx ((AL p 8 128 s2).and Asr.none) ∧ s2.length ≤ 128 ∧ WfK s2)
      case first =>
        by_cases kk : act.kind = 0
        · have kd : (act.kind == 0) = true := by simp [kk]
          have Hd := Lib.hid (H.out.still (Only.refl none_ wr).drew)
          have d1 : wr.drew.cell? ⟨sb, so + j * 3 + 1, none⟩ = some (.int .i64 act.a) := k1
          have d2 : wr.drew.cell? ⟨sb, so + j * 3 + 2, none⟩ = some (.int .i64 act.b) := k2
          have PX := Lib.hid (fun (w' : World) (o : Only none_ wr.drew w') => sg_push act.a act.b (Hd.out.still o) (by decide) hle (by decide) WX.out)
          have LE2 := pushS_le (n := 8) (b := act.a) (x := act.b) hle
          have KF2 := Lib.hid (KF.out.push 8 128 (b := act.a) WX.out)
          clear kk k1 k2 H
          go_wp2_with fail
          refine wp_region_still_tail 11 (by kernel_rfl) (by kernel_rfl) ?_
          change wpStill _ _ (World.drew wr) (fun a' => wpList _ _ _ _ a' (World.drew wr)) _ _
          simp only [List.take_succ_cons, List.take_zero, List.drop_succ_cons, List.drop_zero]
          generalize World.drew wr = wd at *
          repeat still_step
          refine wpStill_nil ?_
          go_wp2_with fail
          (with_reducible refine (PX.out _ (Only.refl none_ wd)).mono ?_)
          rintro e w3 ⟨rfl, h3⟩
          have H3 := Lib.hid h3
          clear h3 PX Hd d1 d2
          go_wp2_with fail
          go_meet
          case rel => exact ⟨_, H3.out, LE2, KF2.out⟩
        · have kd : (act.kind == 0) = false := by simpa using kk
          have PX := Lib.hid (sg_pull act.b H.out (by decide) sl WX.out)
          have LE2 := Nat.le_trans (pullS_le (ss := ss) (x := act.b)) hle
          have KF2 := Lib.hid (KF.out.pull H.out.once.1 act.b)
          clear kk k1 H
          go_wp2_with fail
          (with_reducible refine PX.out.mono ?_)
          rintro e w3 ⟨rfl, h3⟩
          have H3 := Lib.hid h3
          clear h3 PX
          go_wp2_with fail
          go_meet
          case rel => exact ⟨_, H3.out, LE2, KF2.out⟩
      case rest =>
        obtain ⟨s2, h2, hle2, hwf2⟩ := hcut
        have S2 := Lib.hid h2
        have KF2 := Lib.hid hwf2
        have OI := Lib.hid h2.once
        have sl2 : s2.length ≤ 1000 := by omega
        clear h2 hwf2 H k0 k1 k2 KF
        obtain ⟨i0, hi0, hz0, hz1, hz2⟩ := info_parts info_int8
        have I0 := Lib.hid hi0
        have I1 := Lib.hid hz0
        have I2 := Lib.hid hz1
        have I3 := Lib.hid hz2
        clear hi0 hz0 hz1 hz2
        generalize wc = w4 at *
        go_wp2_with fail
        go_loopw [6, 7, 8] (fun u n i wx => ∃ (k : Nat), k ≤ 8 ∧ i = .int .i64 k ∧ n = .int .i64 (cntL s2 k) ∧ OwnsInts wx w4.heap.size u (headsL s2 k) ∧ Only none_ w4 wx) (fun _ _ i _ => 8 - (intOf i).toNat)
        case atStart => exact ⟨0, Nat.zero_le _, rfl, by rw [cnt_zero (fun s hs => (OI.out.2 s hs).1)]; rfl, Owns.start _ _ _ _ _, Only.refl _ _⟩
        case round =>
          obtain ⟨k, hk, rfl, rfl, hV, hO⟩ := hrel
          have HO2 := Lib.hid hO
          have HW := Lib.hid hV
          clear hV hO
          by_cases hlt : k < 8
          · have SW := Lib.hid (S2.out.still HO2.out)
            have LN := Lib.hid (sg_lane (k : Int) SW.out.fst (by decide) sl2)
            have cl := cnt_le s2 (k + 1)
            have CM := Lib.hid (cnt_more s2 k)
            have ll := Nat.le_trans (lane_le s2 (k : Int)) sl2
            have LA := Lib.hid (fun i y (hy : (laneL s2 (k : Int))[i]? = some y) => lane_at OI.out.1 hy)
            obtain ⟨xl, hxl⟩ : ∃ xl, laneL s2 (k : Int) = xl := ⟨_, rfl⟩
            have XL := Lib.hid hxl
            rw [hxl] at LN LA CM ll
            clear hxl
            obtain ⟨m, hm⟩ : ∃ m, xl.length = m := ⟨_, rfl⟩
            have ML := Lib.hid hm
            rw [hm] at CM ll
            go_wp2_with fail
            (with_reducible refine LN.out.mono ?_)
            rintro e w6 ⟨a6, c6, rfl, h6, o6⟩
            rw [hm]
            have R6 := Lib.hid (Reads.of_owns h6)
            have S6 := Lib.hid (SW.out.still o6)
            have HO6 := Lib.hid (HO2.out.idle o6)
            have HW6 := Lib.hid (HW.out.still o6)
            clear hm h6 o6 LN SW HO2 HW
            go_wp2_with fail
            go_loopw [10] (fun v wx => ∃ (i : Nat), i ≤ m ∧ v = .int .i64 i ∧ wx = w6) (fun v _ => m - (intOf v).toNat)
            case atStart => exact ⟨0, Nat.zero_le _, rfl, rfl⟩
            case round =>
              obtain ⟨i, hi, rfl, rfl⟩ := hrel
              by_cases hlt2 : i < m
              · obtain ⟨y, hy⟩ : ∃ y, xl[i]? = some y := ⟨_, List.getElem?_eq_getElem (by rw [ML.out]; exact hlt2)⟩
                obtain ⟨la, lb, s, hs, hsk⟩ := LA.out i y hy
                obtain ⟨ra, rc, e, hc⟩ := R6.out
                injection e with e1 _ e2
                subst e1 e2
                obtain ⟨g, o', rfl, cc⟩ := hc i y hy
                have BK := sg_block y S6.out.fst (by rw [← hsk]; exact KF2.out s hs)
                rw [la, lb] at BK
                have BK := Lib.hid BK
                have ne : ((k : Int) != (k : Int)) = false := by simp
                clear hc hy la lb hs hsk
                go_wp2_with fail
                (with_reducible refine BK.out.mono ?_)
                rintro e w' ⟨rfl, rfl⟩
                go_wp2_with fail
                go_roundw
                case rel => exact ⟨i + 1, by omega, by go_num, trivial⟩
                case measure => simp [intOf]; omega
              · have hge : m ≤ i := by omega
                clear hi hlt2
                cases m with
                | zero =>
                  have xn : xl = [] := List.eq_nil_of_length_eq_zero ML.out
                  have MORE := Lib.hid (heads_skip (XL.out.trans xn))
                  have WA := Lib.hid (show wrap64 (cntL s2 k : Int) = ((cntL s2 (k + 1) : Nat) : Int) from by have := CM.out; unfold wrap64; omega)
                  clear xn
                  go_wp2_with fail
                  go_roundw
                  case rel => exact ⟨k + 1, by omega, by go_num, by rw [WA.out], by rw [MORE.out]; exact HW6.out, HO6.out⟩
                  case measure => simp [intOf]; omega
                | succ m' =>
                  obtain ⟨y, r, hyr⟩ : ∃ y r, xl = y :: r := by
                    cases xl with
                    | nil => have := ML.out; simp at this
                    | cons y r => exact ⟨y, r, rfl⟩
                  have MORE := Lib.hid (heads_yes (XL.out.trans hyr))
                  obtain ⟨ra, rc, e, hc⟩ := R6.out
                  injection e with e1 _ e2
                  subst e1 e2
                  obtain ⟨g, o', rfl, cc⟩ := hc 0 y (by rw [hyr]; rfl)
                  rw [Nat.add_zero] at cc
                  have WA := Lib.hid (show wrap64 ((cntL s2 k : Int) + ((m' : Int) + 1)) = ((cntL s2 (k + 1) : Nat) : Int) from by have := CM.out; unfold wrap64; omega)
                  have RF := Lib.hid (Row.fresh wr 3 #[.int .i64 y])
                  have HW7 := Lib.hid (HW6.out.still ((Only.refl none_ wr).alloc (.cells #[.int .i64 y] 3)))
                  have HO7 := Lib.hid (HO6.out.idle ((Only.refl none_ wr).alloc (.cells #[.int .i64 y] 3)))
                  have sz : w4.heap.size ≤ (wr.alloc (.cells #[.int .i64 y] 3)).heap.size := HO7.out.size
                  have ln := heads_le s2 k
                  have l1 := Lib.hid (show (headsL s2 k).length < 9223372036854775807 from by omega)
                  have l2 := Lib.hid (show ((headsL s2 k).length + 1) * 8 ≤ 140737488355328 from by omega)
                  have t1 : decide ((0 : Int) < (m' : Int) + 1) = true := decide_eq_true (by omega)
                  clear ln hc hyr
                  go_wp2_with (at_builtin; go_loud (refine wpList_append_one rfl (.tmp 88) (.tmp 92) 43 rfl (c := one) i0 _ 8 Try.underlying43 I0.out I1.out I2.out I3.out rfl (by decide) one1 one_one rfl HW7.out (y := y) rfl RF.out l1.out l2.out sz ?_; intro v5 w5 hown5 hO5))
                  rw [← MORE.out] at hown5
                  have HO5 := Lib.hid (HO7.out.trans hO5 (fun i hi q => by omega))
                  have W5 := Lib.hid hown5
                  clear hown5 hO5
                  go_wp2_with fail
                  go_roundw
                  case rel => exact ⟨k + 1, by omega, by go_num, by rw [WA.out], W5.out, HO5.out⟩
                  case measure => simp [intOf]; omega
          · have e : k = 8 := by omega
            subst e
            have CA := Lib.hid (cnt_all OI.out.2)
            have SW := Lib.hid (S2.out.still HO2.out)
            have LE := sg_len SW.out.fst
            have hle8 := heads_le s2 8
            have HD := Lib.hid (sg_heads SW.out.fst (by decide) sl2)
            rw [CA.out]
            obtain ⟨m, hm⟩ : ∃ m, s2.length = m := ⟨_, rfl⟩
            rw [hm] at LE ⊢
            have LE := Lib.hid LE
            obtain ⟨a7, c7, rfl⟩ := own_len HW.out
            have R7 := Lib.hid (Reads.of_owns HW.out)
            obtain ⟨yl, hyl⟩ : ∃ yl, headsL s2 8 = yl := ⟨_, rfl⟩
            have YL := Lib.hid hyl
            rw [hyl] at HD R7 hle8 ⊢
            have eqn : ((m : Int) != (m : Int)) = false := by simp
            clear hm hyl
            go_wp2_with fail
            (with_reducible refine LE.out.mono ?_)
            rintro e w' ⟨rfl, rfl⟩
            go_wp2_with fail
            (with_reducible refine HD.out.mono ?_)
            rintro e w6 ⟨a6, c6, rfl, h6, o6⟩
            have IN := ints_told a6 a7 c6 c7 yl yl _ (Reads.of_owns h6) (R7.out.still o6) (by omega) (by omega)
            simp only [decide_true] at IN
            have IN := Lib.hid IN
            have S6 := Lib.hid (SW.out.still o6)
            clear h6 o6 HD LE
            go_wp2_with fail
            (with_reducible refine IN.out.mono ?_)
            rintro e w7 ⟨rfl, o7⟩
            have S7 := Lib.hid (S6.out.still o7)
            clear o7 IN
            go_wp2_with fail
            go_roundw
            case rel => exact ⟨j + 1, s2, by omega, by omega, by go_num, S7.out, hle2, KF2.out⟩
            case measure => simp [intOf]; omega
    · have W3 := Lib.hid H.out.only.to_below11
      rcases q1 with ⟨q1, q2⟩ | q1
      all_goals
        go_wp2_with fail
        go_ret
        exact ⟨rfl, W3.out⟩



end Go.Proofs.Ytjeiaialnanemaa.laneHeads

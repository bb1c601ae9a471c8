/- The walk through LaneApart's own text. -/
import Derived.WalkKit
import Derived.ProofKit
import Derived.OpenShut
import Derived.Below
import Derived.Test.YtjeiaialnanemaaArgs
import Derived.Test.YtjeiaialnanemaaApart11
import Derived.Test.YtjeiaialnanemaaActs11
import Derived.Deep.RegionHeld3
import Derived.Deep.CutRange
namespace Go.Proofs.Ytjeiaialnanemaa.laneApart
open Go.ChangeShapes Go.WideShapes Go.ChangeAt Go.RowKit
set_option linter.unusedVariables false


set_option maxHeartbeats 2000000 in
set_option maxRecDepth 100000 in
theorem walk (w : World) (own : Int) (wo : (Lit.int .u8 own).wf = true) (A : Option Addr) (len cap : Nat) (xs : List Act1) (hmax : len ≤ maxLen) (hlen : xs.length = len) (hold : Holds w A 3 Act1.cells xs) (wf : ∀ a ∈ xs, (Lit.int .i64 a.b).wf = true) :
    Calls Try.prog 4 #[.int .u8 own, .slice A len cap] w fun e w' => e = .returned (.bool true) ∧ Below w.heap.size w w' := by
  unfold maxLen at hmax
  have HL := Lib.hid hlen
  have HO := Lib.hid hold
  have WF := Lib.hid wf
  clear hlen hold wf
  have S0 := Lib.hid (show Sg w w Asr.none from ⟨⟨fun _ => False, fun _ s => s, fun _ s => s.elim⟩, Only.refl _ _⟩)
  have b0 := bd_u8 wo
  clear wo
  have wy : IntKind.i64.wrap own = own := by rw [IntKind.wrap_i64]; omega
  go_enter Try.func4, Try.ntmps4
  go_wp2_with fail
  (with_reducible refine (awake11_any _).mono ?_)
  rintro e w1 ⟨rfl, o⟩
  have S1 := Lib.hid (S0.out.still o)
  clear o S0
  have NW := Lib.hid (sg_new256 w _ S1.out)
  go_wp2_with fail
  (with_reducible refine (NW.out).mono ?_)
  rintro e w2 ⟨p, rfl, h, _⟩
  have NW2 := Lib.hid (sg_new256 w _ h)
  clear h NW S1
  go_wp2_with fail
  (with_reducible refine (NW2.out).mono ?_)
  rintro e w3 ⟨q, rfl, h, _⟩
  have S3 := Lib.hid (show Sg w w3 ((AL p 256 128 []).and (AL q 256 128 [])) from h.up2.assoc2.fst)
  clear h NW2
  go_wp2_with fail
  go_loopw [9] (fun i wr => ∃ (j : Nat) (ss : List Sd), j ≤ len ∧ j ≤ 100 ∧ i = .int .i64 j ∧ Sg w wr ((AL p 256 128 ss).and (AL q 256 128 (ownS ss own))) ∧ ss.length ≤ j) (fun i _ => len - (intOf i).toNat)
  case atStart => exact ⟨0, [], Nat.zero_le _, Nat.zero_le _, rfl, S3.out, Nat.zero_le _⟩
  case round =>
    obtain ⟨j, ss, hj, hj2, rfl, h, hle⟩ := hrel
    clear S3
    have H := Lib.hid h
    clear h
    have t12 : (j < len ∧ j < 100) ∨ (j < len ∧ 100 ≤ j) ∨ len ≤ j := by omega
    rcases t12 with ⟨q1, q2⟩ | q1
    · obtain ⟨act, hact⟩ : ∃ act, xs[j]? = some act := ⟨_, List.getElem?_eq_getElem (by rw [HL.out]; exact q1)⟩
      obtain ⟨sb, so, hA, hsb, k0, k1, k2⟩ := act_at HO.out H.out.only.to_below11 hact
      have WX := Lib.hid (WF.out act (List.mem_of_getElem? hact))
      subst hA
      clear hact
      have SF := Lib.hid ((H.out.fresh 32 #[.int .i64 act.kind, .int .i64 act.a, .int .i64 act.b]).assoc)
      have ON := Lib.hid H.out.once.1
      go_upto_region 11 with fail
      obtain ⟨xa, hxa⟩ : ∃ xa, wr.heap.size = xa := ⟨_, rfl⟩
      rw [hxa] at SF ⊢
      clear hxa k0 k1 k2 H
      generalize wr.alloc (.cells #[.int .i64 act.kind, .int .i64 act.a, .int .i64 act.b] 32) = wb at *
      have KS := Lib.hid (fun (w' : World) (X Y : Asr) (h : Sg w w' (X.and (Y.and (Asr.row xa 32 #[.int .i64 act.kind, .int .i64 act.a, .int .i64 act.b])))) => h.snd.snd.row.three)
      have sl : ss.length ≤ 100 := by omega
      have ol := own_le ss own
      obtain ⟨c0, c1, c2⟩ := KS.out _ _ _ SF.out
      have BK := sg_block act.b SF.out.fst WX.out
      rw [tk_has] at BK
      by_cases kk : act.kind = 0
      · have kd : (act.kind == 0) = true := by simp [kk]
        have kn : (act.kind != 0) = false := by simp [kk]
        clear kk
        cases hk : hasK ss act.b with
        | true =>
          rw [hk] at BK
          have BK := Lib.hid BK
          clear hk
          go_wp2_with fail
          (with_reducible refine (BK.out).mono ?_)
          rintro e w' ⟨rfl, rfl⟩
          go_wp2_with fail
          go_roundw
          case rel => exact ⟨j + 1, ss, by omega, by omega, by go_num, SF.out.assoc2.fst, by omega⟩
          case measure => simp [intOf]; omega
        | false =>
          rw [hk] at BK
          have BK := Lib.hid BK
          have PX := sg_push act.a act.b SF.out (by decide) (show ss.length ≤ 128 by omega) (by decide) WX.out
          have le2 := pushS_one (n := 256) (room := 128) (ss := ss) (b := act.a) (x := act.b)
          by_cases mm : act.a = own
          · have md : (act.a == own) = true := by simp [mm]
            have OP := Lib.hid (own_push_mine ON.out act.b mm hk (by omega))
            generalize hs2 : pushS 256 128 ss act.a act.b = s2 at *
            have PX := Lib.hid PX
            clear mm hk hs2
            go_wp2_with fail
            (with_reducible refine (BK.out).mono ?_)
            rintro e w' ⟨rfl, rfl⟩
            go_wp2_with fail
            (with_reducible refine (PX.out).mono ?_)
            rintro e w4 ⟨rfl, h4⟩
            obtain ⟨d0, d1, d2⟩ := KS.out _ _ _ h4
            have PY := sg_push act.a act.b h4.up2 (by decide) (show (ownS ss own).length ≤ 128 by omega) (by decide) WX.out
            rw [OP.out.1, OP.out.2] at PY
            have PY := Lib.hid PY
            have nec : (pushC 256 128 ss act.a act.b != pushC 256 128 ss act.a act.b) = false := by simp
            clear h4 PX c0 c1 c2 SF BK
            go_wp2_with fail
            (with_reducible refine (PY.out).mono ?_)
            rintro e w5 ⟨rfl, h5⟩
            have S5 := Lib.hid h5.up2
            clear h5 PY d0 d1 d2
            have sl2 : s2.length ≤ 1000 := by omega
            have lb2 : (laneL s2 own).length ≤ 1000 := Nat.le_trans (lane_le _ _) sl2
            have ow2 : (ownS s2 own).length ≤ 1000 := Nat.le_trans (own_le _ _) sl2
            have LE := sg_len S5.out.snd.fst
            rw [own_len11] at LE
            have LX := sg_lane own S5.out.fst (by decide) sl2
            have XY := Lib.hid (lane_own s2 own)
            generalize hxl : laneL s2 own = xl at *
            clear hxl
            have LE := Lib.hid LE
            go_wp2_with fail
            (with_reducible refine (LX).mono ?_)
            rintro e w6 ⟨a6, c6, rfl, h6, o6⟩
            have S6 := Lib.hid (S5.out.still o6)
            have R6 := Lib.hid (Reads.of_owns h6)
            have LY := sg_lane own S6.out.snd.fst (by decide) ow2
            rw [XY.out] at LY
            have LY := Lib.hid LY
            clear h6 LX
            go_wp2_with fail
            (with_reducible refine (LY.out).mono ?_)
            rintro e w7 ⟨a7, c7, rfl, h7, o7⟩
            have S7 := Lib.hid (S6.out.still o7)
            have R7 := Lib.hid (Reads.of_owns h7)
            have IN := ints_told a6 a7 c6 c7 xl xl _ (R6.out.still o7) R7.out lb2 lb2
            simp only [decide_true] at IN
            have IN := Lib.hid IN
            clear h7 LY R6 S6
            go_wp2_with fail
            (with_reducible refine (IN.out).mono ?_)
            rintro e w8 ⟨rfl, o8⟩
            have S8 := Lib.hid (S7.out.still o8)
            have LE := sg_len S8.out.snd.fst
            rw [own_len11, ← lane_own s2 own, XY.out] at LE
            have LE := Lib.hid LE
            have LY := sg_lane own S8.out.snd.fst (by decide) ow2
            rw [XY.out] at LY
            have LY := Lib.hid LY
            clear IN R7 S7 S5 o8 o7 o6
            go_wp2_with fail
            (with_reducible refine (LE.out).mono ?_)
            rintro e w' ⟨rfl, rfl⟩
            go_wp2_with fail
            (with_reducible refine (LY.out).mono ?_)
            rintro e w9 ⟨a9, c9, rfl, h9, o9⟩
            have S9 := Lib.hid (S8.out.still o9)
            have eqn : ((xl.length : Int) != (xl.length : Int)) = false := by simp
            clear h9 LY LE S8 o9
            go_wp2_with fail
            go_roundw
            case rel => exact ⟨j + 1, s2, by omega, by omega, by go_num, S9.out.assoc2.fst, by omega⟩
            case measure => simp [intOf]; omega

          · have md : (act.a == own) = false := by simpa using mm
            have OP := Lib.hid (own_push_no (ss := ss) act.b mm)
            generalize hs2 : pushS 256 128 ss act.a act.b = s2 at *
            have PX := Lib.hid PX
            clear mm hk hs2
            go_wp2_with fail
            (with_reducible refine (BK.out).mono ?_)
            rintro e w' ⟨rfl, rfl⟩
            go_wp2_with fail
            (with_reducible refine (PX.out).mono ?_)
            rintro e w5 ⟨rfl, h5⟩
            rw [← OP.out] at h5
            have S5 := Lib.hid h5
            clear h5 PX c0 c1 c2 SF BK
            have sl2 : s2.length ≤ 1000 := by omega
            have lb2 : (laneL s2 own).length ≤ 1000 := Nat.le_trans (lane_le _ _) sl2
            have ow2 : (ownS s2 own).length ≤ 1000 := Nat.le_trans (own_le _ _) sl2
            have LE := sg_len S5.out.snd.fst
            rw [own_len11] at LE
            have LX := sg_lane own S5.out.fst (by decide) sl2
            have XY := Lib.hid (lane_own s2 own)
            generalize hxl : laneL s2 own = xl at *
            clear hxl
            have LE := Lib.hid LE
            go_wp2_with fail
            (with_reducible refine (LX).mono ?_)
            rintro e w6 ⟨a6, c6, rfl, h6, o6⟩
            have S6 := Lib.hid (S5.out.still o6)
            have R6 := Lib.hid (Reads.of_owns h6)
            have LY := sg_lane own S6.out.snd.fst (by decide) ow2
            rw [XY.out] at LY
            have LY := Lib.hid LY
            clear h6 LX
            go_wp2_with fail
            (with_reducible refine (LY.out).mono ?_)
            rintro e w7 ⟨a7, c7, rfl, h7, o7⟩
            have S7 := Lib.hid (S6.out.still o7)
            have R7 := Lib.hid (Reads.of_owns h7)
            have IN := ints_told a6 a7 c6 c7 xl xl _ (R6.out.still o7) R7.out lb2 lb2
            simp only [decide_true] at IN
            have IN := Lib.hid IN
            clear h7 LY R6 S6
            go_wp2_with fail
            (with_reducible refine (IN.out).mono ?_)
            rintro e w8 ⟨rfl, o8⟩
            have S8 := Lib.hid (S7.out.still o8)
            have LE := sg_len S8.out.snd.fst
            rw [own_len11, ← lane_own s2 own, XY.out] at LE
            have LE := Lib.hid LE
            have LY := sg_lane own S8.out.snd.fst (by decide) ow2
            rw [XY.out] at LY
            have LY := Lib.hid LY
            clear IN R7 S7 S5 o8 o7 o6
            go_wp2_with fail
            (with_reducible refine (LE.out).mono ?_)
            rintro e w' ⟨rfl, rfl⟩
            go_wp2_with fail
            (with_reducible refine (LY.out).mono ?_)
            rintro e w9 ⟨a9, c9, rfl, h9, o9⟩
            have S9 := Lib.hid (S8.out.still o9)
            have eqn : ((xl.length : Int) != (xl.length : Int)) = false := by simp
            clear h9 LY LE S8 o9
            go_wp2_with fail
            go_roundw
            case rel => exact ⟨j + 1, s2, by omega, by omega, by go_num, S9.out.assoc2.fst, by omega⟩
            case measure => simp [intOf]; omega

      · have kd : (act.kind == 0) = false := by simpa using kk
        have kn : (act.kind != 0) = true := by simpa using kk
        clear kk
        have PX := sg_pull act.b SF.out (by decide) (by omega) WX.out
        have le2 := pullS_le (ss := ss) (x := act.b)
        by_cases mm : hasK ss act.b = true ∧ blockI ss act.b = own
        · obtain ⟨hk, mb⟩ := mm
          have md : (blockI ss act.b == own) = true := by simp [mb]
          rw [hk] at BK
          have BK := Lib.hid BK
          have OP := Lib.hid (own_pull ON.out own act.b hk mb)
          generalize hs2 : pullS ss act.b = s2 at *
          have PX := Lib.hid PX
          clear hk mb hs2
          go_wp2_with fail
          (with_reducible refine (BK.out).mono ?_)
          rintro e w' ⟨rfl, rfl⟩
          go_wp2_with fail
          (with_reducible refine (PX.out).mono ?_)
          rintro e w4 ⟨rfl, h4⟩
          obtain ⟨d0, d1, d2⟩ := KS.out _ _ _ h4
          have PY := sg_pull act.b h4.up2 (by decide) (by omega) WX.out
          rw [OP.out.1, OP.out.2] at PY
          have PY := Lib.hid PY
          have nec : (pullC ss act.b != pullC ss act.b) = false := by simp
          clear h4 PX c0 c1 c2 SF BK
          go_wp2_with fail
          (with_reducible refine (PY.out).mono ?_)
          rintro e w5 ⟨rfl, h5⟩
          have S5 := Lib.hid h5.up2
          clear h5 PY d0 d1 d2
          have sl2 : s2.length ≤ 1000 := by omega
          have lb2 : (laneL s2 own).length ≤ 1000 := Nat.le_trans (lane_le _ _) sl2
          have ow2 : (ownS s2 own).length ≤ 1000 := Nat.le_trans (own_le _ _) sl2
          have LE := sg_len S5.out.snd.fst
          rw [own_len11] at LE
          have LX := sg_lane own S5.out.fst (by decide) sl2
          have XY := Lib.hid (lane_own s2 own)
          generalize hxl : laneL s2 own = xl at *
          clear hxl
          have LE := Lib.hid LE
          go_wp2_with fail
          (with_reducible refine (LX).mono ?_)
          rintro e w6 ⟨a6, c6, rfl, h6, o6⟩
          have S6 := Lib.hid (S5.out.still o6)
          have R6 := Lib.hid (Reads.of_owns h6)
          have LY := sg_lane own S6.out.snd.fst (by decide) ow2
          rw [XY.out] at LY
          have LY := Lib.hid LY
          clear h6 LX
          go_wp2_with fail
          (with_reducible refine (LY.out).mono ?_)
          rintro e w7 ⟨a7, c7, rfl, h7, o7⟩
          have S7 := Lib.hid (S6.out.still o7)
          have R7 := Lib.hid (Reads.of_owns h7)
          have IN := ints_told a6 a7 c6 c7 xl xl _ (R6.out.still o7) R7.out lb2 lb2
          simp only [decide_true] at IN
          have IN := Lib.hid IN
          clear h7 LY R6 S6
          go_wp2_with fail
          (with_reducible refine (IN.out).mono ?_)
          rintro e w8 ⟨rfl, o8⟩
          have S8 := Lib.hid (S7.out.still o8)
          have LE := sg_len S8.out.snd.fst
          rw [own_len11, ← lane_own s2 own, XY.out] at LE
          have LE := Lib.hid LE
          have LY := sg_lane own S8.out.snd.fst (by decide) ow2
          rw [XY.out] at LY
          have LY := Lib.hid LY
          clear IN R7 S7 S5 o8 o7 o6
          go_wp2_with fail
          (with_reducible refine (LE.out).mono ?_)
          rintro e w' ⟨rfl, rfl⟩
          go_wp2_with fail
          (with_reducible refine (LY.out).mono ?_)
          rintro e w9 ⟨a9, c9, rfl, h9, o9⟩
          have S9 := Lib.hid (S8.out.still o9)
          have eqn : ((xl.length : Int) != (xl.length : Int)) = false := by simp
          clear h9 LY LE S8 o9
          go_wp2_with fail
          go_roundw
          case rel => exact ⟨j + 1, s2, by omega, by omega, by go_num, S9.out.assoc2.fst, by omega⟩
          case measure => simp [intOf]; omega

        · have OP := Lib.hid (own_pull_no ON.out own act.b (by
            cases q : hasK ss act.b
            · exact .inl rfl
            · exact .inr (fun e => mm ⟨q, e⟩)))
          generalize hs2 : pullS ss act.b = s2 at *
          have PX := Lib.hid PX
          clear hs2
          cases hk : hasK ss act.b with
          | true =>
            have md : (blockI ss act.b == own) = false := by simpa [hk] using mm
            rw [hk] at BK
            have BK := Lib.hid BK
            clear hk mm
            go_wp2_with fail
            (with_reducible refine (BK.out).mono ?_)
            rintro e w' ⟨rfl, rfl⟩
            go_wp2_with fail
            (with_reducible refine (PX.out).mono ?_)
            rintro e w5 ⟨rfl, h5⟩
            rw [← OP.out] at h5
            have S5 := Lib.hid h5
            clear h5 PX c0 c1 c2 SF BK
            have sl2 : s2.length ≤ 1000 := by omega
            have lb2 : (laneL s2 own).length ≤ 1000 := Nat.le_trans (lane_le _ _) sl2
            have ow2 : (ownS s2 own).length ≤ 1000 := Nat.le_trans (own_le _ _) sl2
            have LE := sg_len S5.out.snd.fst
            rw [own_len11] at LE
            have LX := sg_lane own S5.out.fst (by decide) sl2
            have XY := Lib.hid (lane_own s2 own)
            generalize hxl : laneL s2 own = xl at *
            clear hxl
            have LE := Lib.hid LE
            go_wp2_with fail
            (with_reducible refine (LX).mono ?_)
            rintro e w6 ⟨a6, c6, rfl, h6, o6⟩
            have S6 := Lib.hid (S5.out.still o6)
            have R6 := Lib.hid (Reads.of_owns h6)
            have LY := sg_lane own S6.out.snd.fst (by decide) ow2
            rw [XY.out] at LY
            have LY := Lib.hid LY
            clear h6 LX
            go_wp2_with fail
            (with_reducible refine (LY.out).mono ?_)
            rintro e w7 ⟨a7, c7, rfl, h7, o7⟩
            have S7 := Lib.hid (S6.out.still o7)
            have R7 := Lib.hid (Reads.of_owns h7)
            have IN := ints_told a6 a7 c6 c7 xl xl _ (R6.out.still o7) R7.out lb2 lb2
            simp only [decide_true] at IN
            have IN := Lib.hid IN
            clear h7 LY R6 S6
            go_wp2_with fail
            (with_reducible refine (IN.out).mono ?_)
            rintro e w8 ⟨rfl, o8⟩
            have S8 := Lib.hid (S7.out.still o8)
            have LE := sg_len S8.out.snd.fst
            rw [own_len11, ← lane_own s2 own, XY.out] at LE
            have LE := Lib.hid LE
            have LY := sg_lane own S8.out.snd.fst (by decide) ow2
            rw [XY.out] at LY
            have LY := Lib.hid LY
            clear IN R7 S7 S5 o8 o7 o6
            go_wp2_with fail
            (with_reducible refine (LE.out).mono ?_)
            rintro e w' ⟨rfl, rfl⟩
            go_wp2_with fail
            (with_reducible refine (LY.out).mono ?_)
            rintro e w9 ⟨a9, c9, rfl, h9, o9⟩
            have S9 := Lib.hid (S8.out.still o9)
            have eqn : ((xl.length : Int) != (xl.length : Int)) = false := by simp
            clear h9 LY LE S8 o9
            go_wp2_with fail
            go_roundw
            case rel => exact ⟨j + 1, s2, by omega, by omega, by go_num, S9.out.assoc2.fst, by omega⟩
            case measure => simp [intOf]; omega

          | false =>
            rw [hk] at BK
            have BK := Lib.hid BK
            clear hk mm
            go_wp2_with fail
            (with_reducible refine (BK.out).mono ?_)
            rintro e w' ⟨rfl, rfl⟩
            go_wp2_with fail
            (with_reducible refine (PX.out).mono ?_)
            rintro e w5 ⟨rfl, h5⟩
            rw [← OP.out] at h5
            have S5 := Lib.hid h5
            clear h5 PX c0 c1 c2 SF BK
            have sl2 : s2.length ≤ 1000 := by omega
            have lb2 : (laneL s2 own).length ≤ 1000 := Nat.le_trans (lane_le _ _) sl2
            have ow2 : (ownS s2 own).length ≤ 1000 := Nat.le_trans (own_le _ _) sl2
            have LE := sg_len S5.out.snd.fst
            rw [own_len11] at LE
            have LX := sg_lane own S5.out.fst (by decide) sl2
            have XY := Lib.hid (lane_own s2 own)
            generalize hxl : laneL s2 own = xl at *
            clear hxl
            have LE := Lib.hid LE
            go_wp2_with fail
            (with_reducible refine (LX).mono ?_)
            rintro e w6 ⟨a6, c6, rfl, h6, o6⟩
            have S6 := Lib.hid (S5.out.still o6)
            have R6 := Lib.hid (Reads.of_owns h6)
            have LY := sg_lane own S6.out.snd.fst (by decide) ow2
            rw [XY.out] at LY
            have LY := Lib.hid LY
            clear h6 LX
            go_wp2_with fail
            (with_reducible refine (LY.out).mono ?_)
            rintro e w7 ⟨a7, c7, rfl, h7, o7⟩
            have S7 := Lib.hid (S6.out.still o7)
            have R7 := Lib.hid (Reads.of_owns h7)
            have IN := ints_told a6 a7 c6 c7 xl xl _ (R6.out.still o7) R7.out lb2 lb2
            simp only [decide_true] at IN
            have IN := Lib.hid IN
            clear h7 LY R6 S6
            go_wp2_with fail
            (with_reducible refine (IN.out).mono ?_)
            rintro e w8 ⟨rfl, o8⟩
            have S8 := Lib.hid (S7.out.still o8)
            have LE := sg_len S8.out.snd.fst
            rw [own_len11, ← lane_own s2 own, XY.out] at LE
            have LE := Lib.hid LE
            have LY := sg_lane own S8.out.snd.fst (by decide) ow2
            rw [XY.out] at LY
            have LY := Lib.hid LY
            clear IN R7 S7 S5 o8 o7 o6
            go_wp2_with fail
            (with_reducible refine (LE.out).mono ?_)
            rintro e w' ⟨rfl, rfl⟩
            go_wp2_with fail
            (with_reducible refine (LY.out).mono ?_)
            rintro e w9 ⟨a9, c9, rfl, h9, o9⟩
            have S9 := Lib.hid (S8.out.still o9)
            have eqn : ((xl.length : Int) != (xl.length : Int)) = false := by simp
            clear h9 LY LE S8 o9
            go_wp2_with fail
            go_roundw
            case rel => exact ⟨j + 1, s2, by omega, by omega, by go_num, S9.out.assoc2.fst, by omega⟩
            case measure => simp [intOf]; omega

    · have W3 := Lib.hid H.out.only.to_below11
      rcases q1 with ⟨q1, q2⟩ | q1
      all_goals
        go_wp2_with fail
        go_ret
        exact ⟨rfl, W3.out⟩



end Go.Proofs.Ytjeiaialnanemaa.laneApart

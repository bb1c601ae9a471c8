/- Proved: the statement StreamRefuses of layer 10, for every shape, every row of acts and every act, on no condition. -/
import Derived.Test.YtlcgpdefjjhgfaaRows
import Derived.WalkKit
import Derived.ProofKit
import Derived.OpenShut
import Derived.Below
import Derived.Test.YtlcgpdefjjhgfaaArgs
import Derived.Test.YtlcgpdefjjhgfaaLaw10
import Derived.Deep.RegionHeld3
import Derived.StillTailTactics
import Derived.Deep.CutRange
namespace Go.Proofs.Ytlcgpdefjjhgfaa.streamRefuses
open Go.ChangeShapes Go.WideShapes Go.ChangeAt Go.RowKit
set_option linter.unusedVariables false

theorem own : ownKnob Try.prog.godebug = none := by kernel_rfl
theorem laidOut : laidOutB Try.prog = true := by kernel_rfl

set_option maxHeartbeats 2000000 in
set_option maxRecDepth 100000 in
theorem walk (w : World) (t : Tri) (wt : t.Wf) (A : Option Addr) (len cap : Nat) (xs : List Act1) (hmax : len ≤ maxLen) (hlen : xs.length = len) (hold : Holds w A 3 Act1.cells xs) (_ : ∀ a ∈ xs, True) (a : Act1) (_ : True) :
    Calls Try.prog 7 #[t.val, .slice A len cap, a.val] w fun e w' => e = .returned (.bool true) ∧ Below w.heap.size w w' := by
  unfold maxLen at hmax
  have HL := Lib.hid hlen
  have HO := Lib.hid hold
  clear hlen hold
  obtain ⟨x0, x1, y0, y1, z0, z1⟩ := wt
  obtain ⟨S, hS, s1, s16⟩ := most_of t.x x0
  obtain ⟨D, hD, e1, e16⟩ := most_of t.y y0
  obtain ⟨B, hB, b1, b256⟩ := blocks_of t.z ⟨z0, z1⟩
  have NW := Lib.hid (fun w => trk_new S D B w s1 s16 e1 e16 b1 b256)
  have OK := Lib.hid (show (Cf.mk S 8 20 D B).Ok from ⟨s1, s16, (show 1 ≤ 8 by decide), (show 8 ≤ 32 by decide), (show 1 ≤ 20 by decide), (show 20 ≤ 64 by decide), e1, e16, b1, b256⟩)
  unfold Tri.val Act1.val
  go_enter Try.func7, Try.ntmps7
  go_wp2_with fail
  have oa := ((Only.refl none_ w).alloc (.cells #[.int .u8 t.x, .int .u8 t.y, .int .u8 t.z] 55)).alloc (.cells #[.int .i64 a.kind, .int .i64 a.a, .int .i64 a.b] 34)
  have rt := (Row.fresh w 55 #[.int .u8 t.x, .int .u8 t.y, .int .u8 t.z]).alloc (.cells #[.int .i64 a.kind, .int .i64 a.a, .int .i64 a.b] 34)
  have ra := Row.fresh (w.alloc (.cells #[.int .u8 t.x, .int .u8 t.y, .int .u8 t.z] 55)) 34 #[.int .i64 a.kind, .int .i64 a.a, .int .i64 a.b]
  rw [World.size_alloc] at ra
  generalize (w.alloc (.cells #[.int .u8 t.x, .int .u8 t.y, .int .u8 t.z] 55)).alloc (.cells #[.int .i64 a.kind, .int .i64 a.a, .int .i64 a.b] 34) = wa at *
  have OA := Lib.hid oa
  have RT := Lib.hid rt
  have RA := Lib.hid ra
  clear oa rt ra
  obtain ⟨bt, hbt⟩ : ∃ bt, bt = w.heap.size := ⟨_, rfl⟩
  obtain ⟨ba, hba⟩ : ∃ ba, ba = w.heap.size + 1 := ⟨_, rfl⟩
  rw [← hba] at RA
  rw [← hbt] at RT
  rw [← hba, ← hbt]
  clear hba hbt
  (with_reducible refine (awake10_any _).mono ?_)
  rintro e w1 ⟨rfl, bl⟩
  have O1 := Lib.hid (below_only8 bl)
  have p0 : w1.cell? ⟨bt, 0, none⟩ = some (.int .u8 t.x) := ((O1.out.still RT.out).cell 0).trans rfl
  have p1 : w1.cell? ⟨bt, 1, none⟩ = some (.int .u8 t.y) := ((O1.out.still RT.out).cell 1).trans rfl
  have p2 : w1.cell? ⟨bt, 2, none⟩ = some (.int .u8 t.z) := ((O1.out.still RT.out).cell 2).trans rfl
  have W1 := Lib.hid (OA.out.same O1.out)
  have R1 := Lib.hid (O1.out.still RA.out)
  clear bl OA O1 RA RT
  go_wp2_with fail
  (with_reducible refine (NW.out _).mono ?_)
  rintro e w2 ⟨q, rfl, h2⟩
  have H2 := Lib.hid h2
  clear h2 p0 p1 p2 NW
  go_wp2_with fail
  go_loopw [10] (fun i wr => ∃ (j : Nat) (tr : Tr), j ≤ len ∧ j ≤ 150 ∧ i = .int .i64 j ∧ Trk w1 wr q ⟨S, 8, 20, D, B⟩ tr ∧ Fine10 ⟨S, 8, 20, D, B⟩ tr ∧ tr.uses ≤ j) (fun i _ => len - (intOf i).toNat)
  case atStart => exact ⟨0, _, Nat.zero_le _, Nat.zero_le _, rfl, H2.out, new_fine OK.out, Nat.zero_le _⟩
  case round =>
    obtain ⟨j, tr, hj, hj2, rfl, h, hf, hu⟩ := hrel
    clear H2
    have H := Lib.hid h
    have HF := Lib.hid hf
    clear h hf
    have t12 : (j < len ∧ j < 150) ∨ (j < len ∧ 150 ≤ j) ∨ len ≤ j := by omega
    rcases t12 with ⟨q1, q2⟩ | q1
    · obtain ⟨act, hact⟩ : ∃ act, xs[j]? = some act := ⟨_, List.getElem?_eq_getElem (by rw [HL.out]; exact q1)⟩
      obtain ⟨sb, so, hA, hsb, _, _, _⟩ := act_at HO.out ((W1.out.same H.out.2).to_below8) hact
      subst hA
      have LM := Lib.hid (fun w' (o : Only none_ w w') => act_more HO.out hact w' o.to_below8)
      clear hact
      obtain ⟨k0, k1, k2⟩ := LM.out _ (W1.out.same H.out.2)
      have hu9 : tr.uses ≤ 900 := by omega
      by_cases kk : act.kind = 0
      · have kd : (act.kind == 0) = true := by simp [kk]
        have NF := Lib.hid (accS_fine HF.out act.a act.b)
        have NU := accS_uses ⟨S, 8, 20, D, B⟩ tr act.a act.b
        have Hd := Lib.hid H.out.drew
        obtain ⟨d0, d1, d2⟩ := LM.out _ (W1.out.same Hd.out.2)
        have AC := Lib.hid (fun w' (o : Only none_ wr.drew w') => trk_acc act.a act.b (Hd.out.still o) HF.out hu9)
        clear kk k1 k2 H
        go_wp2_with fail
        refine wp_region_still_tail 11 (by kernel_rfl) (by kernel_rfl) ?_
        change wpStill _ _ (World.drew wr) (fun a' => wpList _ _ _ _ a' (World.drew wr)) _ _
        simp only [List.take_succ_cons, List.take_zero, List.drop_succ_cons, List.drop_zero]
        generalize World.drew wr = wd at *
        repeat still_step
        refine wpStill_nil ?_
        go_wp2_with fail
        (with_reducible refine (AC.out _ (Only.refl none_ wd)).mono ?_)
        rintro e w3 ⟨ha, h3⟩
        unfold Acc at ha
        subst ha
        have H3 := Lib.hid h3
        clear h3 AC Hd d0 d1 d2
        go_wp2_with fail
        go_roundw
        case rel => exact ⟨j + 1, _, by omega, by omega, by go_num, H3.out, NF.out, by omega⟩
        case measure => simp [intOf]; omega
      · have kd : (act.kind == 0) = false := by simp [kk]
        have NF := Lib.hid (tuneS_fine HF.out act.a true)
        have NU := tuneS_uses tr act.a true
        have LT := Lib.hid (trk_late act.a H.out HF.out (by omega))
        clear kk k2
        go_wp2_with fail
        (with_reducible refine LT.out.mono ?_)
        rintro e w3 ⟨rfl, h3⟩
        have H3 := Lib.hid h3
        clear h3 LT H
        go_wp2_with fail
        go_roundw
        case rel => exact ⟨j + 1, _, by omega, by omega, by go_num, H3.out, NF.out, by omega⟩
        case measure => simp [intOf]; omega
    · have FL := Lib.hid (fine_len HF.out)
      have FE := Lib.hid (fine_elen HF.out)
      have hu9 : tr.uses ≤ 900 := by omega
      have SS := Lib.hid (fun w' (h : Trk w1 w' q ⟨S, 8, 20, D, B⟩ tr) => trk_streams h (by have := FL.out; omega))
      have EX := Lib.hid (fun w' (h : Trk w1 w' q ⟨S, 8, 20, D, B⟩ tr) => trk_expected h (by omega))
      rcases q1 with ⟨q1, q2⟩ | q1
      all_goals
        go_wp2_with fail
        (with_reducible refine (SS.out _ H.out).mono ?_)
        rintro e w3 ⟨⟨A3, c3, rfl, hh3, _⟩, o3⟩
        have H3 := Lib.hid (H.out.still o3)
        have HS3 := Lib.hid hh3
        clear hh3 o3
        go_wp2_with fail
        (with_reducible refine (EX.out _ H3.out).mono ?_)
        rintro e w4 ⟨⟨A4, c4, rfl, hh4, _⟩, o4⟩
        have H4 := Lib.hid (H3.out.still o4)
        have HS4 := Lib.hid (HS3.out.still8 o4)
        have HE4 := Lib.hid hh4
        clear hh4 o4 H3 HS3
        obtain ⟨c0, c1, c2⟩ := (H4.out.2.still R1.out).three
        go_upto_region 15 with fail
        go_cut [13] from 80 to 107 (fun s13 wx => s13 = .bool (!mayAcc B a.a a.b) ∧ wx = w4)
        case first =>
          have hm := @mayAcc_iff B a.a a.b
          by_cases g0 : a.a < 0
          · have d0 : decide (a.a < 0) = true := by simpa using g0
            have M := Lib.hid (show mayAcc B a.a a.b = false from by rw [Bool.eq_false_iff]; intro k; have := hm.1 k; omega)
            clear hm g0
            go_wp2_with fail
            go_meet
            case rel => exact ⟨by rw [M.out]; rfl, rfl⟩
          · have d0 : decide (a.a < 0) = false := by simpa using g0
            by_cases g1 : (B : Int) ≤ a.a
            · have d1 : decide ((B : Int) ≤ a.a) = true := by simpa using g1
              have M := Lib.hid (show mayAcc B a.a a.b = false from by rw [Bool.eq_false_iff]; intro k; have := hm.1 k; omega)
              clear hm g0 g1
              go_wp2_with fail
              go_meet
              case rel => exact ⟨by rw [M.out]; rfl, rfl⟩
            · have d1 : decide ((B : Int) ≤ a.a) = false := by simpa using g1
              by_cases g2 : a.b < 1
              · have d2 : decide (a.b < 1) = true := by simpa using g2
                have M := Lib.hid (show mayAcc B a.a a.b = false from by rw [Bool.eq_false_iff]; intro k; have := hm.1 k; omega)
                clear hm g0 g1 g2
                go_wp2_with fail
                go_meet
                case rel => exact ⟨by rw [M.out]; rfl, rfl⟩
              · have d2 : decide (a.b < 1) = false := by simpa using g2
                by_cases g3 : 8 < a.b
                · have d3 : decide (8 < a.b) = true := by simpa using g3
                  have M := Lib.hid (show mayAcc B a.a a.b = false from by rw [Bool.eq_false_iff]; intro k; have := hm.1 k; omega)
                  clear hm g0 g1 g2 g3
                  go_wp2_with fail
                  go_meet
                  case rel => exact ⟨by rw [M.out]; rfl, rfl⟩
                · have d3 : decide (8 < a.b) = false := by simpa using g3
                  have hw : IntKind.i64.wrap (a.a + a.b) = a.a + a.b := by rw [IntKind.wrap_i64]; omega
                  by_cases g4 : (B : Int) < a.a + a.b
                  · have d4 : decide ((B : Int) < a.a + a.b) = true := by simpa using g4
                    have M := Lib.hid (show mayAcc B a.a a.b = false from by rw [Bool.eq_false_iff]; intro k; have := hm.1 k; omega)
                    clear hm g0 g1 g2 g3 g4
                    go_wp2_with fail
                    go_meet
                    case rel => exact ⟨by rw [M.out]; rfl, rfl⟩
                  · have d4 : decide ((B : Int) < a.a + a.b) = false := by simpa using g4
                    have M := Lib.hid (show mayAcc B a.a a.b = true from hm.2 (by omega))
                    clear hm g0 g1 g2 g3 g4
                    go_wp2_with fail
                    go_meet
                    case rel => exact ⟨by rw [M.out]; rfl, rfl⟩
        case rest =>
          obtain ⟨rfl, rfl⟩ := hcut
          have oa := (Only.refl none_ wc).alloc (.cells #[.int .i64 0, .int .i64 0, .int .i64 0] 38)
          have RF := Lib.hid (Row.fresh wc 38 #[.int .i64 0, .int .i64 0, .int .i64 0])
          have H5' := Lib.hid (H4.out.still oa)
          have HS5' := Lib.hid (HS4.out.still8 oa)
          have HE5' := Lib.hid (HE4.out.still8 oa)
          have RA5' := Lib.hid ((H4.out.2.same oa).still R1.out)
          obtain ⟨c0, c1, c2⟩ := RA5'.out.three
          have Q0 := fun w => eq_fd ⟨0, 0, 0⟩ ⟨0, 0, 0⟩ w
          simp only [decide_true] at Q0
          obtain ⟨bf, hbf⟩ : ∃ bf, wc.heap.size = bf := ⟨_, rfl⟩
          rw [hbf] at RF
          clear oa H4 HS4 HE4
          cases hm : mayAcc B a.a a.b with
          | false =>
            have AC := Lib.hid (trk_refused (c := ⟨S, 8, 20, D, B⟩) a.a a.b H5'.out HF.out hm)
            clear hm
            go_wp2_with fail
            (with_reducible refine AC.out.mono ?_)
            rintro e w5' ⟨rfl, o5⟩
            have RF' := Lib.hid (o5.still RF.out)
            have H5'' := Lib.hid (H5'.out.still o5)
            have HS5'' := Lib.hid (HS5'.out.still8 o5)
            have HE5'' := Lib.hid (HE5'.out.still8 o5)
            have RA5'' := Lib.hid (o5.still RA5'.out)
            obtain ⟨f0, f1, f2⟩ := RF'.out.three
            have fz := fun j => RF'.out.frozen j
            clear o5 H5' HS5' HE5' RA5' RF AC c0 c1 c2
            go_wp2_with fail
            have o6 := ((same_set RF'.out (i := 0) (v := .int .i64 0) rfl).same (same_set (i := 1) (v := .int .i64 0) ((same_set RF'.out (i := 0) (v := .int .i64 0) rfl).still RF'.out) rfl)).same (same_set (i := 2) (v := .int .i64 0) ((same_set (i := 1) (v := .int .i64 0) ((same_set RF'.out (i := 0) (v := .int .i64 0) rfl).still RF'.out) rfl).still ((same_set RF'.out (i := 0) (v := .int .i64 0) rfl).still RF'.out)) rfl)
            generalize ((w5'.setCell ⟨bf, 0, none⟩ (.int .i64 0)).setCell ⟨bf, 1, none⟩ (.int .i64 0)).setCell ⟨bf, 2, none⟩ (.int .i64 0) = w5 at *
            have H5 := Lib.hid (H5''.out.still o6)
            have HS5 := Lib.hid (HS5''.out.still8 o6)
            have HE5 := Lib.hid (HE5''.out.still8 o6)
            have RA5 := Lib.hid (o6.still RA5''.out)
            have RF5 := Lib.hid (o6.still RF'.out)
            clear o6 H5'' HS5'' HE5'' RA5'' RF' f0 f1 f2 fz
            have fl16 : tr.ss.length ≤ 16 := FL.out
            go_wp2_with fail
            go_loopw [16, 17] (fun u i wr => ∃ k : Nat, k ≤ tr.ss.length ∧ i = .int .i64 k ∧ u = .bool ((tr.ss.take k).any (fun s => (s.id : Int) == a.a)) ∧ Only none_ w5 wr) (fun _ i _ => tr.ss.length - (intOf i).toNat)
            case atStart => exact ⟨0, Nat.zero_le _, rfl, rfl, Only.refl _ _⟩
            case round =>
              obtain ⟨k, hk, rfl, rfl, ho⟩ := hrel
              have OO := Lib.hid ho
              clear ho
              by_cases hlt : k < tr.ss.length
              · obtain ⟨y, hy⟩ : ∃ y, tr.ss[k]? = some y := ⟨_, List.getElem?_eq_getElem hlt⟩
                obtain ⟨yg, yo, rfl, _, cy⟩ := HS5.out k y hy
                have y0 : wr.drew.cell? ⟨yg, yo + k * 6, none⟩ = some (.int .i64 y.id) := OO.out.drew.cell (cy 0 _ rfl) (fun s => s)
                have ST := Lib.hid (any_step hy a.a)
                obtain ⟨r0, r1, r2⟩ := (OO.out.drew.still RA5.out).three
                clear hy cy
                generalize (tr.ss.take k).any (fun s => (s.id : Int) == a.a) = bb at *
                cases bb with
                | true =>
                  go_wp2_with fail
                  go_region
                  all_goals
                    go_wp2_with fail
                    go_roundw
                    case rel => exact ⟨k + 1, by omega, by go_num, by rw [ST.out]; rfl, OO.out.drew⟩
                    case measure => simp [intOf]; omega
                | false =>
                  go_wp2_with fail
                  go_region
                  all_goals
                    go_wp2_with fail
                    go_roundw
                    case rel => exact ⟨k + 1, by omega, by go_num, by rw [ST.out]; rfl, OO.out.drew⟩
                    case measure => simp [intOf]; omega
              · have e : k = tr.ss.length := by omega
                subst e
                have TB := Lib.hid (show (tr.ss.take tr.ss.length).any (fun s => (s.id : Int) == a.a) = tuneB tr a.a from by rw [tune_any, List.take_length])
                rw [TB.out]
                obtain ⟨w6, hw6⟩ : ∃ w6, w6 = wr := ⟨_, rfl⟩
                rw [← hw6] at OO ⊢
                clear hw6
                have H6 := Lib.hid (H5.out.still OO.out)
                have HS6 := Lib.hid (HS5.out.still8 OO.out)
                have HE6 := Lib.hid (HE5.out.still8 OO.out)
                have RA6 := Lib.hid (OO.out.still RA5.out)
                have RF6 := Lib.hid (OO.out.still RF5.out)
                obtain ⟨f0, f1, f2⟩ := RF6.out.three
                obtain ⟨r0, r1, r2⟩ := RA6.out.three
                clear OO H5 HS5 HE5 RA5 RF5
                cases hb : tuneB tr a.a with
                | true =>
                  clear hb
                  go_wp2_with fail
                  (with_reducible refine (SS.out _ H6.out).mono ?_)
                  rintro e w8 ⟨⟨A8, c8, rfl, hh8, _⟩, o8⟩
                  have SM := Lib.hid (ssame_self A8 A3 c8 c3 tr.ss w8 hh8 (HS6.out.still8 o8) FL.out)
                  have H8 := Lib.hid (H6.out.still o8)
                  have HE8 := Lib.hid (HE6.out.still8 o8)
                  clear hh8 o8
                  go_wp2_with fail
                  (with_reducible refine SM.out.mono ?_)
                  rintro e w9 ⟨rfl, o9⟩
                  have H9 := Lib.hid (H8.out.still o9)
                  have HE9 := Lib.hid (HE8.out.still8 o9)
                  clear o9 SM H8 HE8
                  go_wp2_with fail
                  (with_reducible refine (EX.out _ H9.out).mono ?_)
                  rintro e w10 ⟨⟨A10, c10, rfl, hh10, _⟩, o10⟩
                  have SE := Lib.hid (same8_self A10 A4 c10 c4 tr.es w10 hh10 (HE9.out.still8 o10) FE.out)
                  have H10 := Lib.hid (H9.out.still o10)
                  clear hh10 o10 H9 HE9
                  go_wp2_with fail
                  (with_reducible refine SE.out.mono ?_)
                  rintro e w11 ⟨rfl, o11⟩
                  have W11 := Lib.hid ((W1.out.same (H10.out.still o11).2).to_below8)
                  clear o11
                  go_wp2_with fail
                  go_ret
                  exact ⟨rfl, W11.out⟩
                | false =>
                  have TL := Lib.hid (trk_late_none a.a H6.out HF.out (by omega) hb)
                  have TW := Lib.hid (fun w' (h : Trk w1 w' q ⟨S, 8, 20, D, B⟩ tr) => trk_waste_none a.a h HF.out (by omega) hb)
                  clear hb
                  go_wp2_with fail
                  (with_reducible refine TL.out.mono ?_)
                  rintro e w7 ⟨rfl, o7⟩
                  obtain ⟨r0, r1, r2⟩ := (o7.still RA6.out).three
                  have H7 := Lib.hid (H6.out.still o7)
                  have HS7 := Lib.hid (HS6.out.still8 o7)
                  have HE7 := Lib.hid (HE6.out.still8 o7)
                  have RF7 := Lib.hid (o7.still RF6.out)
                  clear o7 H6 HS6 HE6 RF6 RA6 f0 f1 f2 TL
                  go_wp2_with fail
                  (with_reducible refine (TW.out _ H7.out).mono ?_)
                  rintro e w7' ⟨rfl, o7⟩
                  have H7' := Lib.hid (H7.out.still o7)
                  have HS7' := Lib.hid (HS7.out.still8 o7)
                  have HE7' := Lib.hid (HE7.out.still8 o7)
                  obtain ⟨f0, f1, f2⟩ := (o7.still RF7.out).three
                  clear o7 H7 HS7 HE7 RF7 TW r0 r1 r2
                  go_wp2_with fail
                  (with_reducible refine (SS.out _ H7'.out).mono ?_)
                  rintro e w8 ⟨⟨A8, c8, rfl, hh8, _⟩, o8⟩
                  have SM := Lib.hid (ssame_self A8 A3 c8 c3 tr.ss w8 hh8 (HS7'.out.still8 o8) FL.out)
                  have H8 := Lib.hid (H7'.out.still o8)
                  have HE8 := Lib.hid (HE7'.out.still8 o8)
                  clear hh8 o8
                  go_wp2_with fail
                  (with_reducible refine SM.out.mono ?_)
                  rintro e w9 ⟨rfl, o9⟩
                  have H9 := Lib.hid (H8.out.still o9)
                  have HE9 := Lib.hid (HE8.out.still8 o9)
                  clear o9 SM H8 HE8
                  go_wp2_with fail
                  (with_reducible refine (EX.out _ H9.out).mono ?_)
                  rintro e w10 ⟨⟨A10, c10, rfl, hh10, _⟩, o10⟩
                  have SE := Lib.hid (same8_self A10 A4 c10 c4 tr.es w10 hh10 (HE9.out.still8 o10) FE.out)
                  have H10 := Lib.hid (H9.out.still o10)
                  clear hh10 o10 H9 HE9
                  go_wp2_with fail
                  (with_reducible refine SE.out.mono ?_)
                  rintro e w11 ⟨rfl, o11⟩
                  have W11 := Lib.hid ((W1.out.same (H10.out.still o11).2).to_below8)
                  clear o11
                  go_wp2_with fail
                  go_ret
                  exact ⟨rfl, W11.out⟩
          | true =>
            clear hm
            go_wp2_with fail
            generalize wc.alloc (.cells #[.int .i64 0, .int .i64 0, .int .i64 0] 38) = w5 at *
            have H5 := Lib.hid H5'.out
            have HS5 := Lib.hid HS5'.out
            have HE5 := Lib.hid HE5'.out
            have RA5 := Lib.hid RA5'.out
            have RF5 := Lib.hid RF.out
            clear H5' HS5' HE5' RA5' RF c0 c1 c2
            have fl16 : tr.ss.length ≤ 16 := FL.out
            go_wp2_with fail
            go_loopw [16, 17] (fun u i wr => ∃ k : Nat, k ≤ tr.ss.length ∧ i = .int .i64 k ∧ u = .bool ((tr.ss.take k).any (fun s => (s.id : Int) == a.a)) ∧ Only none_ w5 wr) (fun _ i _ => tr.ss.length - (intOf i).toNat)
            case atStart => exact ⟨0, Nat.zero_le _, rfl, rfl, Only.refl _ _⟩
            case round =>
              obtain ⟨k, hk, rfl, rfl, ho⟩ := hrel
              have OO := Lib.hid ho
              clear ho
              by_cases hlt : k < tr.ss.length
              · obtain ⟨y, hy⟩ : ∃ y, tr.ss[k]? = some y := ⟨_, List.getElem?_eq_getElem hlt⟩
                obtain ⟨yg, yo, rfl, _, cy⟩ := HS5.out k y hy
                have y0 : wr.drew.cell? ⟨yg, yo + k * 6, none⟩ = some (.int .i64 y.id) := OO.out.drew.cell (cy 0 _ rfl) (fun s => s)
                have ST := Lib.hid (any_step hy a.a)
                obtain ⟨r0, r1, r2⟩ := (OO.out.drew.still RA5.out).three
                clear hy cy
                generalize (tr.ss.take k).any (fun s => (s.id : Int) == a.a) = bb at *
                cases bb with
                | true =>
                  go_wp2_with fail
                  go_region
                  all_goals
                    go_wp2_with fail
                    go_roundw
                    case rel => exact ⟨k + 1, by omega, by go_num, by rw [ST.out]; rfl, OO.out.drew⟩
                    case measure => simp [intOf]; omega
                | false =>
                  go_wp2_with fail
                  go_region
                  all_goals
                    go_wp2_with fail
                    go_roundw
                    case rel => exact ⟨k + 1, by omega, by go_num, by rw [ST.out]; rfl, OO.out.drew⟩
                    case measure => simp [intOf]; omega
              · have e : k = tr.ss.length := by omega
                subst e
                have TB := Lib.hid (show (tr.ss.take tr.ss.length).any (fun s => (s.id : Int) == a.a) = tuneB tr a.a from by rw [tune_any, List.take_length])
                rw [TB.out]
                obtain ⟨w6, hw6⟩ : ∃ w6, w6 = wr := ⟨_, rfl⟩
                rw [← hw6] at OO ⊢
                clear hw6
                have H6 := Lib.hid (H5.out.still OO.out)
                have HS6 := Lib.hid (HS5.out.still8 OO.out)
                have HE6 := Lib.hid (HE5.out.still8 OO.out)
                have RA6 := Lib.hid (OO.out.still RA5.out)
                have RF6 := Lib.hid (OO.out.still RF5.out)
                obtain ⟨f0, f1, f2⟩ := RF6.out.three
                obtain ⟨r0, r1, r2⟩ := RA6.out.three
                clear OO H5 HS5 HE5 RA5 RF5
                cases hb : tuneB tr a.a with
                | true =>
                  clear hb
                  go_wp2_with fail
                  (with_reducible refine (SS.out _ H6.out).mono ?_)
                  rintro e w8 ⟨⟨A8, c8, rfl, hh8, _⟩, o8⟩
                  have SM := Lib.hid (ssame_self A8 A3 c8 c3 tr.ss w8 hh8 (HS6.out.still8 o8) FL.out)
                  have H8 := Lib.hid (H6.out.still o8)
                  have HE8 := Lib.hid (HE6.out.still8 o8)
                  clear hh8 o8
                  go_wp2_with fail
                  (with_reducible refine SM.out.mono ?_)
                  rintro e w9 ⟨rfl, o9⟩
                  have H9 := Lib.hid (H8.out.still o9)
                  have HE9 := Lib.hid (HE8.out.still8 o9)
                  clear o9 SM H8 HE8
                  go_wp2_with fail
                  (with_reducible refine (EX.out _ H9.out).mono ?_)
                  rintro e w10 ⟨⟨A10, c10, rfl, hh10, _⟩, o10⟩
                  have SE := Lib.hid (same8_self A10 A4 c10 c4 tr.es w10 hh10 (HE9.out.still8 o10) FE.out)
                  have H10 := Lib.hid (H9.out.still o10)
                  clear hh10 o10 H9 HE9
                  go_wp2_with fail
                  (with_reducible refine SE.out.mono ?_)
                  rintro e w11 ⟨rfl, o11⟩
                  have W11 := Lib.hid ((W1.out.same (H10.out.still o11).2).to_below8)
                  clear o11
                  go_wp2_with fail
                  go_ret
                  exact ⟨rfl, W11.out⟩
                | false =>
                  have TL := Lib.hid (trk_late_none a.a H6.out HF.out (by omega) hb)
                  have TW := Lib.hid (fun w' (h : Trk w1 w' q ⟨S, 8, 20, D, B⟩ tr) => trk_waste_none a.a h HF.out (by omega) hb)
                  clear hb
                  go_wp2_with fail
                  (with_reducible refine TL.out.mono ?_)
                  rintro e w7 ⟨rfl, o7⟩
                  obtain ⟨r0, r1, r2⟩ := (o7.still RA6.out).three
                  have H7 := Lib.hid (H6.out.still o7)
                  have HS7 := Lib.hid (HS6.out.still8 o7)
                  have HE7 := Lib.hid (HE6.out.still8 o7)
                  have RF7 := Lib.hid (o7.still RF6.out)
                  clear o7 H6 HS6 HE6 RF6 RA6 f0 f1 f2 TL
                  go_wp2_with fail
                  (with_reducible refine (TW.out _ H7.out).mono ?_)
                  rintro e w7' ⟨rfl, o7⟩
                  have H7' := Lib.hid (H7.out.still o7)
                  have HS7' := Lib.hid (HS7.out.still8 o7)
                  have HE7' := Lib.hid (HE7.out.still8 o7)
                  obtain ⟨f0, f1, f2⟩ := (o7.still RF7.out).three
                  clear o7 H7 HS7 HE7 RF7 TW r0 r1 r2
                  go_wp2_with fail
                  (with_reducible refine (SS.out _ H7'.out).mono ?_)
                  rintro e w8 ⟨⟨A8, c8, rfl, hh8, _⟩, o8⟩
                  have SM := Lib.hid (ssame_self A8 A3 c8 c3 tr.ss w8 hh8 (HS7'.out.still8 o8) FL.out)
                  have H8 := Lib.hid (H7'.out.still o8)
                  have HE8 := Lib.hid (HE7'.out.still8 o8)
                  clear hh8 o8
                  go_wp2_with fail
                  (with_reducible refine SM.out.mono ?_)
                  rintro e w9 ⟨rfl, o9⟩
                  have H9 := Lib.hid (H8.out.still o9)
                  have HE9 := Lib.hid (HE8.out.still8 o9)
                  clear o9 SM H8 HE8
                  go_wp2_with fail
                  (with_reducible refine (EX.out _ H9.out).mono ?_)
                  rintro e w10 ⟨⟨A10, c10, rfl, hh10, _⟩, o10⟩
                  have SE := Lib.hid (same8_self A10 A4 c10 c4 tr.es w10 hh10 (HE9.out.still8 o10) FE.out)
                  have H10 := Lib.hid (H9.out.still o10)
                  clear hh10 o10 H9 HE9
                  go_wp2_with fail
                  (with_reducible refine SE.out.mono ?_)
                  rintro e w11 ⟨rfl, o11⟩
                  have W11 := Lib.hid ((W1.out.same (H10.out.still o11).2).to_below8)
                  clear o11
                  go_wp2_with fail
                  go_ret
                  exact ⟨rfl, W11.out⟩


set_option maxRecDepth 100000 in
theorem lifted (os : Os) (started : os.Started) (H : Type) (enc : TypeId × Value → H) :
    ReturnsInHanded {} Try.checked os 7 .any (Rows.streamRefusesSpec.pre6 enc Try.prog Try.f7 Rows.streamRefusesRow.domain false) (Rows.streamRefusesSpec.post enc Try.prog Try.f7 false true false false) := by
  refine returnsInHanded_of_change (C := Try.checked) own started (by kernel_rfl) Try.func7
    (ChangeSpec.witness6 (enc := enc) (C := Try.checked) false ⟨#[], #[.agg #[.int .u8 0, .int .u8 0, .int .u8 0], .slice none 0 0, .agg #[.int .i64 0, .int .i64 0, .int .i64 0]], []⟩ 8 (by kernel_rfl) (by kernel_rfl) (by kernel_rfl) (by kernel_rfl)) ?_
  intro W base args ds gs before hval0 hW hcnd _
  have hval : ∀ (j : Nat) t v, Try.f7.params[j]? = some t → args[j]? = some v → Value.okWide Try.prog W .any base t v := hval0
  have hW' := hW
  obtain ⟨p, q, hA0, hV, rfl, hfz, hnd⟩ := hW
  have hA : DataW.TrodAll enc Try.prog W 0 (fun _ => true) true Try.f7.params.toList args.toList ds p := hA0
  rw [Try.params7] at hA hval
  obtain ⟨v0, vs0, d0, ds0, p0, q0, hargs, rfl, rfl, h0, r0⟩ := trodAll_cons hA
  obtain ⟨v1, vs1, d1, ds1, p1, q1, rfl, rfl, rfl, h1, r1⟩ := trodAll_cons r0
  obtain ⟨v2, vs2, d2, ds2, p2, q2, rfl, rfl, rfl, h2, r2⟩ := trodAll_cons r1
  obtain ⟨rfl, rfl, rfl⟩ := trodAll_nil r2
  obtain rfl : args = #[v0, v1, v2] := by cases args; simp_all
  obtain ⟨rfl, rfl⟩ := trodVars_none hV
  have o0 := hval 0 55 v0 rfl rfl
  have k0 := h0
  have lt0 : ∀ x ∈ p0, x.block < W.heap.size := by obtain ⟨m, hm⟩ := k0; exact DataW.trod_lt m _ _ _ hm
  obtain ⟨a0, rfl, wa0⟩ := open_tri W base H enc v0 d0 p0 o0 h0
  have k1 := h1
  have lt1 : ∀ x ∈ p1, x.block < W.heap.size := by obtain ⟨m, hm⟩ := k1; exact DataW.trod_lt m _ _ _ hm
  obtain ⟨ad1, len1, cap1, rfl⟩ := okWide_slice Try.underlying24 (hval 1 24 v1 rfl rfl)
  obtain ⟨fuel1, hf1⟩ := h1
  obtain ⟨max1, xs1, el1, hold1, wf1⟩ := open_acts hf1
  have o2 := hval 2 34 v2 rfl rfl
  have k2 := h2
  have lt2 : ∀ x ∈ p2, x.block < W.heap.size := by obtain ⟨m, hm⟩ := k2; exact DataW.trod_lt m _ _ _ hm
  obtain ⟨a2, rfl, wa2⟩ := open_act W base H enc v2 d2 p2 o2 h2
  have shut : ∀ W', Below W.heap.size W W' → DataW.TrodAll enc Try.prog W' 0 (fun b => decide (b < W.heap.size)) true [55, 24, 34] [a0.val, .slice ad1 len1 cap1, a2.val] [d0, d1, d2] (p0 ++ (p1 ++ (p2 ++ []))) := fun W' bel =>
    (trodAll_cons_mk (Below.trod laidOut (by kernel_rfl) (of_decide_eq_true (by kernel_rfl)) k0 bel lt0) (trodAll_cons_mk (Below.trod laidOut (by kernel_rfl) (of_decide_eq_true (by kernel_rfl)) k1 bel lt1) (trodAll_cons_mk (Below.trod laidOut (by kernel_rfl) (of_decide_eq_true (by kernel_rfl)) k2 bel lt2) trodAll_mk0)))
  clear hA0 hval0
  refine (walk W a0 wa0 ad1 len1 cap1 xs1 max1 el1 hold1 wf1 a2 wa2).mono fun e W' ⟨he, bel⟩ => ?_
  subst he
  exact ⟨_, rfl, _, _, _, [], _, [], hW', trodAll_mk1 (shut_bool Try.underlying4 _), shut W' bel, rfl, bel.frame _, fun h => by cases h⟩

theorem over : Rows.streamRefusesRow.holds Try.pinned (OpenSpec.ofChange Rows.streamRefusesSpec) :=
  OpenClaim.holds_of_wide 7 Try.f7 rfl rfl rfl rfl rfl rfl rfl ⟨rfl, rfl, rfl, rfl, rfl⟩ rfl rfl rfl rfl rfl (by kernel_rfl) Try.func7 (by kernel_rfl)
    (of_decide_eq_true (by kernel_rfl)) (by unfold Func.isWrapper; first | (rw [if_pos (by decide +kernel)]; kernel_rfl) | (rw [if_neg (by decide +kernel)]; exact ⟨rfl, rfl⟩))
    (fun os started H enc _ => lifted os started H enc)

theorem streamRefuses_holds : Rows.StreamRefusesSaid := over
#print axioms streamRefuses_holds
end Go.Proofs.Ytlcgpdefjjhgfaa.streamRefuses

/- The walk through StreamPlays's own text. -/
import Derived.WalkKit
import Derived.ProofKit
import Derived.OpenShut
import Derived.Below
import Derived.Test.YtfmmmiiohaaegaaArgs
import Derived.Test.YtfmmmiiohaaegaaDuo10
import Derived.Deep.RegionHeld3
import Derived.Deep.CutRange
import Derived.Deep.CutBlock
namespace Go.Proofs.Ytfmmmiiohaaegaa.streamPlays
open Go.ChangeShapes Go.WideShapes Go.ChangeAt Go.RowKit
set_option linter.unusedVariables false


set_option maxHeartbeats 4000000 in
set_option maxRecDepth 100000 in
theorem walk (w : World) (x : Shp) (_ : True) (A : Option Addr) (len cap : Nat) (xs : List Act1) (hmax : len ≤ maxLen) (hlen : xs.length = len) (hold : Holds w A 3 Act1.cells xs) (_ : ∀ a ∈ xs, True) :
    Calls Try.prog 3 #[x.val, .slice A len cap] w fun e w' => e = .returned (.bool true) ∧ Below w.heap.size w w' := by
  unfold maxLen at hmax
  have HL := Lib.hid hlen
  have HO := Lib.hid hold
  clear hlen hold
  have MA := Lib.hid (fun w => may10_any x.m x.s x.l x.d x.b w)
  unfold Shp.val
  have oa := (Only.refl none_ w).alloc (.cells #[.int .i64 x.m, .int .i64 x.s, .int .i64 x.l, .int .i64 x.d, .int .i64 x.b] 23)
  have rt := Row.fresh w 23 #[.int .i64 x.m, .int .i64 x.s, .int .i64 x.l, .int .i64 x.d, .int .i64 x.b]
  cases hmay : mayCf x.m x.s x.l x.d x.b with
  | false =>
    have NW := Lib.hid (fun w => new10_no x.m x.s x.l x.d x.b w hmay)
    rw [hmay] at MA
    clear hmay
    go_enter Try.func3, Try.ntmps3
    go_wp2_with fail
    generalize w.alloc (.cells #[.int .i64 x.m, .int .i64 x.s, .int .i64 x.l, .int .i64 x.d, .int .i64 x.b] 23) = wa at *
    have OA := Lib.hid oa
    have RT := Lib.hid rt
    clear oa rt
    obtain ⟨bt, hbt⟩ : ∃ bt, bt = w.heap.size := ⟨_, rfl⟩
    rw [← hbt] at RT ⊢
    clear hbt
    (with_reducible refine (awake10_any _).mono ?_)
    rintro e w1 ⟨rfl, bl⟩
    have O1 := Lib.hid (below_only8 bl)
    have P1 := Lib.hid (O1.out.still RT.out)
    have W1 := Lib.hid (OA.out.same O1.out)
    clear bl OA O1 RT
    have p0 := P1.out.cell 0
    have p1 := P1.out.cell 1
    have p2 := P1.out.cell 2
    have p3 := P1.out.cell 3
    have p4 := P1.out.cell 4
    simp at p0 p1 p2 p3 p4
    go_wp2_with fail
    (with_reducible refine (NW.out _).mono ?_)
    rintro e w2 ⟨rfl, o2⟩
    have P2 := Lib.hid (o2.still P1.out)
    have W2 := Lib.hid (W1.out.same o2)
    clear o2 P1 W1 p0 p1 p2 p3 p4
    have p0 := P2.out.cell 0
    have p1 := P2.out.cell 1
    have p2 := P2.out.cell 2
    have p3 := P2.out.cell 3
    have p4 := P2.out.cell 4
    simp at p0 p1 p2 p3 p4
    go_wp2_with fail
    (with_reducible refine (MA.out _).mono ?_)
    rintro e w3 ⟨rfl, rfl⟩
    go_wp2_with fail
    go_ret
    exact ⟨rfl, W2.out.to_below8⟩
  | true =>
    obtain ⟨c, c1, c2, c3, c4, c5, ok⟩ := cf_of hmay
    rw [hmay] at MA
    have OK := Lib.hid ok
    clear hmay ok
    obtain ⟨xm, xs_, xl, xd, xb⟩ := x
    dsimp only at *
    subst c1 c2 c3 c4 c5
    have NW := Lib.hid (fun w => new10_yes c w OK.out)
    have RN := Lib.hid (fun w => rnew10_any c w)
    go_enter Try.func3, Try.ntmps3
    go_wp2_with fail
    generalize w.alloc (.cells #[.int .i64 c.most, .int .i64 c.size, .int .i64 c.life, .int .i64 c.deg, .int .i64 c.blk] 23) = wa at *
    have OA := Lib.hid oa
    have RT := Lib.hid rt
    clear oa rt
    obtain ⟨bt, hbt⟩ : ∃ bt, bt = w.heap.size := ⟨_, rfl⟩
    rw [← hbt] at RT ⊢
    clear hbt
    (with_reducible refine (awake10_any _).mono ?_)
    rintro e w1 ⟨rfl, bl⟩
    have O1 := Lib.hid (below_only8 bl)
    have P1 := Lib.hid (O1.out.still RT.out)
    have W1 := Lib.hid (OA.out.same O1.out)
    clear bl OA O1 RT
    have p0 := P1.out.cell 0
    have p1 := P1.out.cell 1
    have p2 := P1.out.cell 2
    have p3 := P1.out.cell 3
    have p4 := P1.out.cell 4
    simp at p0 p1 p2 p3 p4
    go_wp2_with fail
    (with_reducible refine (NW.out _).mono ?_)
    rintro e w2 ⟨q, rfl, ⟨M, h2, m2⟩, o2⟩
    have P2 := Lib.hid (o2.still P1.out)
    have O2 := Lib.hid o2
    have H2 := Lib.hid h2
    have M2 := Lib.hid m2
    clear h2 m2 o2 P1 p0 p1 p2 p3 p4
    have p0 := P2.out.cell 0
    have p1 := P2.out.cell 1
    have p2 := P2.out.cell 2
    have p3 := P2.out.cell 3
    have p4 := P2.out.cell 4
    simp at p0 p1 p2 p3 p4
    go_wp2_with fail
    (with_reducible refine (MA.out _).mono ?_)
    rintro e w3 ⟨rfl, rfl⟩
    go_wp2_with fail
    (with_reducible refine (RN.out _).mono ?_)
    rintro e w3 ⟨q', rfl, ⟨M', h3, m3⟩, o3⟩
    have DU := Lib.hid (duo_new H2.out M2.out O2.out o3 h3 m3)
    clear h3 m3 o3 p0 p1 p2 p3 p4 P2 O2 H2 M2 NW RN MA
    go_wp2_with fail
    go_loopw [8] (fun i wr => ∃ (j : Nat) (tr : Tr), j ≤ len ∧ j ≤ 150 ∧ i = .int .i64 j ∧ Duo w1 wr q q' c tr tr ∧ Fine10 c tr ∧ tr.uses ≤ j) (fun i _ => len - (intOf i).toNat)
    case atStart => exact ⟨0, _, Nat.zero_le _, Nat.zero_le _, rfl, DU.out, new_fine OK.out, Nat.zero_le _⟩
    case round =>
      obtain ⟨j, tr, hj, hj2, rfl, h, hf, hu⟩ := hrel
      clear DU
      have H := Lib.hid h
      have HF := Lib.hid hf
      clear h hf
      have t12 : (j < len ∧ j < 150) ∨ (j < len ∧ 150 ≤ j) ∨ len ≤ j := by omega
      rcases t12 with ⟨q1, q2⟩ | q1
      · obtain ⟨act, hact⟩ : ∃ act, xs[j]? = some act := ⟨_, List.getElem?_eq_getElem (by rw [HL.out]; exact q1)⟩
        obtain ⟨sb, so, hA, hsb, k0, k1, k2⟩ := act_at HO.out ((W1.out.same H.out.old).to_below8) hact
        subst hA
        clear hact
        have OX := Lib.hid ((Only.refl none_ wr).alloc (.cells #[.int .i64 act.kind, .int .i64 act.a, .int .i64 act.b] 34))
        have RX := Lib.hid (Row.fresh wr 34 #[.int .i64 act.kind, .int .i64 act.a, .int .i64 act.b])
        go_upto_block 2 with (fail)
        obtain ⟨xa, hxa⟩ : ∃ xa, wr.heap.size = xa := ⟨_, rfl⟩
        rw [hxa] at RX ⊢
        have LX := Lib.hid hxa
        clear hxa k0 k1 k2
        generalize wr.alloc (.cells #[.int .i64 act.kind, .int .i64 act.a, .int .i64 act.b] 34) = wb at *
        go_cut [5] from 65 to 130 (fun s5 wx => s5 = .pointer (some ⟨q, 0, none⟩) ∧ ∃ tr2 : Tr, Duo w1 wx q q' c tr2 tr2 ∧ Fine10 c tr2 ∧ tr2.uses ≤ j + 1)
        case first =>
          obtain ⟨x0', x1', x2'⟩ := RX.out.three
          by_cases kk : act.kind = 0
          · have kd : (act.kind == 0) = true := by simp [kk]
            have hu9 : tr.uses ≤ 900 := by omega
            have AC := Lib.hid (duo_acc act.a act.b H.out OX.out HF.out hu9)
            clear kk
            go_wp2_with fail
            (with_reducible refine AC.out.mono ?_)
            rintro e w4 ⟨ha, h4, o4⟩
            unfold Acc at ha
            subst ha
            have H4 := Lib.hid h4
            have RX4 := Lib.hid (o4.row RX.out (fun k => by have := LX.out; omega))
            have NF := Lib.hid (accS_fine HF.out act.a act.b)
            have NU := accS_uses c tr act.a act.b
            clear h4 o4 AC x0' x1' x2'
            generalize hI : accI c tr act.a act.b = ii at *
            generalize hR : accR c tr act.a act.b = rr at *
            generalize hC : accC c.blk act.a act.b = cc at *
            have HI := Lib.hid hI
            have HR := Lib.hid hR
            have HC := Lib.hid hC
            clear hI hR hC
            obtain ⟨rf, rc⟩ := rr
            have OY := Lib.hid ((Only.refl none_ w4).alloc (.cells #[.int .i64 ii, .int .i64 rf, .int .i64 rc] 38))
            have RY := Lib.hid (Row.fresh w4 38 #[.int .i64 ii, .int .i64 rf, .int .i64 rc])
            obtain ⟨x0', x1', x2'⟩ := (RX4.out.alloc (.cells #[.int .i64 ii, .int .i64 rf, .int .i64 rc] 38)).three
            have AR := Lib.hid (duo_racc act.a act.b H4.out OY.out HF.out hu9)
            dsimp only
            go_wp2_with fail
            (with_reducible refine AR.out.mono ?_)
            rintro e w5 ⟨ha, h5, o5⟩
            unfold Acc at ha
            rw [HI.out, HR.out, HC.out] at ha
            subst ha
            have H5 := Lib.hid h5
            have RY5 := Lib.hid (o5.row RY.out (fun k => by omega))
            clear h5 o5 AR x0' x1' x2' RY OY H4 RX4 RX H
            obtain ⟨ya, hya⟩ : ∃ ya, w4.heap.size = ya := ⟨_, rfl⟩
            rw [hya] at RY5 ⊢
            clear hya
            have H6 := Lib.hid (H5.out.still ((Only.refl none_ w5).alloc (.cells #[.int .i64 ii, .int .i64 rf, .int .i64 rc] 38)))
            obtain ⟨y0', y1', y2'⟩ := (RY5.out.alloc (.cells #[.int .i64 ii, .int .i64 rf, .int .i64 rc] 38)).three
            have Q0 := fun w => eq_fd ⟨ii, rf, rc⟩ ⟨ii, rf, rc⟩ w
            simp only [decide_true] at Q0
            have ne1 : ((cc : Int) != (cc : Int)) = false := by simp
            clear RY5 H5
            go_wp2_with fail
            go_meet
            case rel => exact ⟨rfl, _, H6.out, NF.out, by omega⟩
          · have kd : (act.kind == 0) = false := by simp [kk]
            by_cases k1 : act.kind = 1
            · have kd1 : (act.kind == 1) = true := by simp [k1]
              have OB := Lib.hid (OX.out.drew)
              have KX := Lib.hid (fun (w' : World) (o : Only (fun g => g < wr.heap.size) wb.drew w') => (show w'.cell? ⟨xa, 1, none⟩ = some (.int .i64 act.a) from by
                have r := o.row (RX.out.drew) (fun k => by have := LX.out; omega)
                rw [r.cell]; rfl))
              have OD := Lib.hid (Only.refl (fun g => g < wr.heap.size) wb.drew)
              have DB0 := Lib.hid (H.out.bound OB.out)
              have NF := Lib.hid (tuneS_fine HF.out act.a true)
              have NU := tuneS_uses tr act.a true
              have ne1 : (tuneB tr act.a != tuneB tr act.a) = false := by simp
              have hu10 : tr.uses ≤ 1000 := by omega
              clear k1 kk x0' x1' x2'
              go_wp2_with fail
              go_region_held3 (fun w' => w'.cell? ⟨xa, 1, none⟩ = some (.int .i64 act.a))
                (first
                  | (with_reducible exact KX.out _ O5.out)
                  | (with_reducible exact KX.out _ O4.out)
                  | (with_reducible exact KX.out _ OD.out)
                  | fail)
                (first
                  | (go_at_call 14; (with_reducible refine (duob_late act.a D4r.out HF.out hu10).mono ?_); rintro e w5 ⟨rfl, d5, o5⟩; have D5 := Lib.hid d5; have O5 := Lib.hid (O4.out.trans o5 (fun i hi k => k)))
                  | (go_at_call 15; (with_reducible refine (duob_rlate act.a D4c.out HF.out).mono ?_); rintro e w5 ⟨rfl, d5, o5⟩; have D5 := Lib.hid d5; have O5 := Lib.hid (O4.out.trans o5 (fun i hi k => k)))
                  | (go_at_call 14; (with_reducible refine (duob_late act.a DB0.out HF.out hu10).mono ?_); rintro e w4 ⟨rfl, d4, o4⟩; have D4c := Lib.hid d4; have O4 := Lib.hid o4)
                  | (go_at_call 15; (with_reducible refine (duob_rlate act.a DB0.out HF.out).mono ?_); rintro e w4 ⟨rfl, d4, o4⟩; have D4r := Lib.hid d4; have O4 := Lib.hid o4)
                  | fail)
              all_goals
                go_wp2_with fail
                go_meet
                case rel => exact ⟨rfl, _, D5.out.duo, NF.out, by omega⟩
            · have kd1 : (act.kind == 1) = false := by simp [k1]
              by_cases k2 : act.kind = 2
              · have kd2 : (act.kind == 2) = true := by simp [k2]
                have OB := Lib.hid (OX.out.drew)
                have KX := Lib.hid (fun (w' : World) (o : Only (fun g => g < wr.heap.size) wb.drew w') => (show w'.cell? ⟨xa, 1, none⟩ = some (.int .i64 act.a) from by
                  have r := o.row (RX.out.drew) (fun k => by have := LX.out; omega)
                  rw [r.cell]; rfl))
                have OD := Lib.hid (Only.refl (fun g => g < wr.heap.size) wb.drew)
                have DB0 := Lib.hid (H.out.bound OB.out)
                have NF := Lib.hid (tuneS_fine HF.out act.a false)
                have NU := tuneS_uses tr act.a false
                have ne1 : (tuneB tr act.a != tuneB tr act.a) = false := by simp
                have hu10 : tr.uses ≤ 1000 := by omega
                clear k1 kk x0' x1' x2'
                go_wp2_with fail
                go_region_held3 (fun w' => w'.cell? ⟨xa, 1, none⟩ = some (.int .i64 act.a))
                  (first
                    | (with_reducible exact KX.out _ O5.out)
                    | (with_reducible exact KX.out _ O4.out)
                    | (with_reducible exact KX.out _ OD.out)
                    | fail)
                  (first
                    | (go_at_call 16; (with_reducible refine (duob_waste act.a D4r.out HF.out hu10).mono ?_); rintro e w5 ⟨rfl, d5, o5⟩; have D5 := Lib.hid d5; have O5 := Lib.hid (O4.out.trans o5 (fun i hi k => k)))
                    | (go_at_call 15; (with_reducible refine (duob_rwaste act.a D4c.out HF.out).mono ?_); rintro e w5 ⟨rfl, d5, o5⟩; have D5 := Lib.hid d5; have O5 := Lib.hid (O4.out.trans o5 (fun i hi k => k)))
                    | (go_at_call 16; (with_reducible refine (duob_waste act.a DB0.out HF.out hu10).mono ?_); rintro e w4 ⟨rfl, d4, o4⟩; have D4c := Lib.hid d4; have O4 := Lib.hid o4)
                    | (go_at_call 15; (with_reducible refine (duob_rwaste act.a DB0.out HF.out).mono ?_); rintro e w4 ⟨rfl, d4, o4⟩; have D4r := Lib.hid d4; have O4 := Lib.hid o4)
                    | fail)
                all_goals
                  go_wp2_with fail
                  go_meet
                  case rel => exact ⟨rfl, _, D5.out.duo, NF.out, by omega⟩
              · have kd2 : (act.kind == 2) = false := by simp [k2]
                have H3 := Lib.hid (H.out.still OX.out)
                clear kk k1 k2
                go_wp2_with fail
                go_meet
                case rel => exact ⟨rfl, tr, H3.out, HF.out, by omega⟩
        case rest =>
          obtain ⟨rfl, tr2, h2, hf2, hu2⟩ := hcut
          have H5 := Lib.hid h2
          have HF2 := Lib.hid hf2
          have fl : tr2.ss.length ≤ 16 := fine_len hf2
          have el : tr2.es.length ≤ 32 := fine_elen hf2
          have hu10 : tr2.uses ≤ 1000 := by omega
          have hl10 : tr2.ss.length ≤ 1000 := by omega
          obtain ⟨qt, A7, A8, cap7, cap8, hh7, hh8, hK⟩ := h2.cells
          have HH7 := Lib.hid hh7
          have HH8 := Lib.hid hh8
          have K7 := Lib.hid hK
          have OD := Lib.hid ((Only.refl none_ wc).drew)
          have HD := Lib.hid (h2.still OD.out)
          clear h2 hf2 hh7 hh8 hK H HF OX RX hu
          go_wp2_with fail
          go_region_held3 (fun w' => w'.cell? ⟨q', 0, none⟩ = some (.slice A7 tr2.ss.length cap7) ∧ w'.cell? ⟨q', 1, none⟩ = some (.pointer (some ⟨qt, 0, none⟩)) ∧ w'.cell? ⟨qt, 2, none⟩ = some (.slice A8 tr2.es.length cap8))
            (first
              | (with_reducible exact K7.out _ P9.out)
              | (with_reducible exact K7.out _ P8.out)
              | (with_reducible exact K7.out _ P7.out)
              | (with_reducible exact K7.out _ P6.out)
              | (with_reducible exact K7.out _ OD.out)
              | fail)
            (first
              | (go_at_call 18; (with_reducible refine (duo_streams HD.out hl10).mono ?_); rintro e w6 ⟨A6, cap6, rfl, h6, _, o6⟩; have H6 := Lib.hid h6; have P6 := Lib.hid (OD.out.same o6))
              | (go_at_call 17; (with_reducible refine (ssame_self A6 A7 cap6 cap7 tr2.ss _ H6.out (HH7.out.still8 P6.out) fl).mono ?_); rintro e w7 ⟨rfl, o7⟩; have P7 := Lib.hid (P6.out.same o7))
              | (go_at_call 20; (with_reducible refine (duo_expected (H5.out.still P7.out) hu10).mono ?_); rintro e w8 ⟨A9, cap9, rfl, h8, _, o8⟩; have H8 := Lib.hid h8; have P8 := Lib.hid (P7.out.same o8))
              | (go_at_call 19; (with_reducible refine (same8_self10 A9 A8 cap9 cap8 tr2.es _ H8.out (HH8.out.still8 P8.out) el).mono ?_); rintro e w9 ⟨rfl, o9⟩; have P9 := Lib.hid (P8.out.same o9))
              | fail)
          all_goals
            go_wp2_with fail
            go_roundw
            case rel => exact ⟨j + 1, tr2, by omega, by omega, by go_num, H5.out.still P9.out, HF2.out, hu2⟩
            case measure => simp [intOf]; omega
      · have W3 := Lib.hid ((W1.out.same H.out.old).to_below8)
        rcases q1 with ⟨q1, q2⟩ | q1
        all_goals
          go_wp2_with fail
          go_ret
          exact ⟨rfl, W3.out⟩



end Go.Proofs.Ytfmmmiiohaaegaa.streamPlays

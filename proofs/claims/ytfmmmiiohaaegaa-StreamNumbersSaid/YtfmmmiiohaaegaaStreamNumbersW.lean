/- The walk through StreamNumbers's own text. -/
import Derived.WalkKit
import Derived.ProofKit
import Derived.OpenShut
import Derived.Below
import Derived.Test.YtfmmmiiohaaegaaArgs
import Derived.Test.YtfmmmiiohaaegaaLex10
import Derived.BigRegion
import Derived.BigQuiet
import Derived.Lib.MinMax
import Derived.Deep.CutRange
namespace Go.Proofs.Ytfmmmiiohaaegaa.streamNumbers
open Go.ChangeShapes Go.WideShapes Go.ChangeAt Go.RowKit
set_option linter.unusedVariables false


set_option maxHeartbeats 2000000 in
set_option maxRecDepth 100000 in
theorem walk (w : World) (t : Tri) (wt : t.Wf) (A : Option Addr) (len cap : Nat) (xs : List Act1) (hmax : len ≤ maxLen) (hlen : xs.length = len) (hold : Holds w A 3 Act1.cells xs) (_ : ∀ a ∈ xs, True) :
    Calls Try.prog 4 #[t.val, .slice A len cap] w fun e w' => e = .returned (.bool true) ∧ Below w.heap.size w w' := by
  unfold maxLen at hmax
  have HL := Lib.hid hlen
  have HO := Lib.hid hold
  clear hlen hold
  obtain ⟨x0, x1, y0, y1, z0, z1⟩ := wt
  obtain ⟨S, hS, s1, s16⟩ := most_of t.x x0
  obtain ⟨D, hD, e1, e16⟩ := most_of t.y y0
  obtain ⟨B, hB, b1, b256⟩ := blocks_of t.z ⟨z0, z1⟩
  have NW := Lib.hid (fun w => trk_new S D B w s1 s16 e1 e16 b1 b256)
  have OK := Lib.hid (show (Cf.mk S 8 20 D B).Ok from ⟨s1, s16, (show 1 ≤ 8 by decide), (show 8 ≤ 32 by decide), (show 1 ≤ 20 by decide), (show 20 ≤ 64 by decide), e1, e16, b1, b256⟩)
  unfold Tri.val
  go_enter Try.func4, Try.ntmps4
  go_wp2_with fail
  have oa := (Only.refl none_ w).alloc (.cells #[.int .u8 t.x, .int .u8 t.y, .int .u8 t.z] 55)
  have rt := Row.fresh w 55 #[.int .u8 t.x, .int .u8 t.y, .int .u8 t.z]
  generalize w.alloc (.cells #[.int .u8 t.x, .int .u8 t.y, .int .u8 t.z] 55) = wa at *
  have OA := Lib.hid oa
  have RT := Lib.hid rt
  clear oa rt
  obtain ⟨bt, hbt⟩ : ∃ bt, bt = w.heap.size := ⟨_, rfl⟩
  rw [← hbt] at RT ⊢
  clear hbt
  (with_reducible refine (awake10_any _).mono ?_)
  rintro e w1 ⟨rfl, bl⟩
  have O1 := Lib.hid (below_only8 bl)
  have p0 : w1.cell? ⟨bt, 0, none⟩ = some (.int .u8 t.x) := ((O1.out.still RT.out).cell 0).trans rfl
  have p1 : w1.cell? ⟨bt, 1, none⟩ = some (.int .u8 t.y) := ((O1.out.still RT.out).cell 1).trans rfl
  have p2 : w1.cell? ⟨bt, 2, none⟩ = some (.int .u8 t.z) := ((O1.out.still RT.out).cell 2).trans rfl
  have W1 := Lib.hid (OA.out.same O1.out)
  clear bl OA O1 RT
  go_wp2_with fail
  (with_reducible refine (NW.out _).mono ?_)
  rintro e w2 ⟨q, rfl, h2⟩
  have H2 := Lib.hid h2
  clear h2 p0 p1 p2 NW hS hD hB
  go_wp2_with fail
  go_loopw [10, 11] (fun gv i wr => ∃ (j : Nat) (tr : Tr), j ≤ len ∧ j ≤ 150 ∧ i = .int .i64 j ∧ gv = .int .i64 tr.begun ∧ Trk w1 wr q ⟨S, 8, 20, D, B⟩ tr ∧ Fine10 ⟨S, 8, 20, D, B⟩ tr ∧ tr.uses ≤ j) (fun _ i _ => len - (intOf i).toNat)
  case atStart => exact ⟨0, _, Nat.zero_le _, Nat.zero_le _, rfl, rfl, H2.out, new_fine OK.out, Nat.zero_le _⟩
  case round =>
    obtain ⟨j, tr, hj, hj2, rfl, rfl, h, hf, hu⟩ := hrel
    clear H2
    have H := Lib.hid h
    have HF := Lib.hid hf
    clear h hf
    have t12 : (j < len ∧ j < 150) ∨ (j < len ∧ 150 ≤ j) ∨ len ≤ j := by omega
    rcases t12 with ⟨q1, q2⟩ | q1
    · obtain ⟨act, hact⟩ : ∃ act, xs[j]? = some act := ⟨_, List.getElem?_eq_getElem (by rw [HL.out]; exact q1)⟩
      obtain ⟨sb, so, hA, hsb, k0, k1, k2⟩ := act_at HO.out ((W1.out.same H.out.2).to_below8) hact
      subst hA
      clear hact
      have hu9 : tr.uses ≤ 900 := by omega
      have hbeg := HF.out.beg
      have OX := Lib.hid ((Only.refl none_ wr).alloc (.cells #[.int .i64 act.kind, .int .i64 act.a, .int .i64 act.b] 34))
      have RX := Lib.hid (Row.fresh wr 34 #[.int .i64 act.kind, .int .i64 act.a, .int .i64 act.b])
      have HA := Lib.hid (H.out.still OX.out)
      go_upto_if 58 with (fail)
      obtain ⟨xa, hxa⟩ : ∃ xa, wr.heap.size = xa := ⟨_, rfl⟩
      rw [hxa] at RX ⊢
      have LX := Lib.hid hxa
      clear hxa k0 k1 k2
      generalize wr.alloc (.cells #[.int .i64 act.kind, .int .i64 act.a, .int .i64 act.b] 34) = wb at *
      go_cut [10] from 42 to 216 (fun gv wx => ∃ tr2 : Tr, gv = .int .i64 tr2.begun ∧ Trk w1 wx q ⟨S, 8, 20, D, B⟩ tr2 ∧ Fine10 ⟨S, 8, 20, D, B⟩ tr2 ∧ tr2.uses ≤ j + 1)
      case first =>
        by_cases kk : act.kind = 0
        · have kd : (act.kind == 0) = true := by simp [kk]
          have AC := Lib.hid (trk_acc_from act.a act.b H.out OX.out HF.out hu9)
          obtain ⟨x0', x1', x2'⟩ := RX.out.three
          clear kk
          go_wp2_with fail
          (with_reducible refine AC.out.mono ?_)
          rintro e w4 ⟨ha, h4, o4⟩
          unfold Acc at ha
          subst ha
          have NF := Lib.hid (accS_fine HF.out act.a act.b)
          have NU := accS_uses ⟨S, 8, 20, D, B⟩ tr act.a act.b
          obtain ⟨n1, n2, n3, n4, n5⟩ := acc_told HF.out act.a act.b
          have n6 := @mayAcc_iff B act.a act.b
          have H4 := Lib.hid h4
          have RX4 := Lib.hid (o4.row RX.out (fun k => by have := LX.out; omega))
          clear h4 o4 AC x0' x1' x2'
          dsimp only at n4 n5 ⊢
          generalize accS ⟨S, 8, 20, D, B⟩ tr act.a act.b = tr' at *
          generalize accC B act.a act.b = cc at *
          generalize accI ⟨S, 8, 20, D, B⟩ tr act.a act.b = ii at *
          generalize accR ⟨S, 8, 20, D, B⟩ tr act.a act.b = rr at *
          obtain ⟨rf, rc⟩ := rr
          dsimp only at n3 n4 n5 ⊢
          obtain ⟨iz, hiz⟩ : ∃ iz : Int, iz = (ii : Int) := ⟨_, rfl⟩
          rw [← hiz]
          have NB := Lib.hid (show max (tr.begun : Int) iz = (tr'.begun : Int) from by omega)
          have bb : tr.begun ≤ 200 := by omega
          have d6 : decide ((tr.begun : Int) + 1 < iz) = false := by simp; omega
          have H5 := Lib.hid (H4.out.still ((Only.refl none_ w4).alloc (.cells #[.int .i64 iz, .int .i64 rf, .int .i64 rc] 38)))
          obtain ⟨x0', x1', x2'⟩ := (RX4.out.alloc (.cells #[.int .i64 iz, .int .i64 rf, .int .i64 rc] 38)).three
          clear H4 RX4 RX HA OX H n2
          rcases n5 with ⟨m1, m2, m3, m4⟩ | ⟨m1, m2, m3⟩
          · subst m2 m4
            injection m3 with m5 m6
            subst m5 m6 hiz
            have d1 : decide ((D : Int) < 0) = false := by simp
            have Q0 := fun w => eq_fd ⟨0, 0, 0⟩ ⟨0, 0, 0⟩ w
            simp only [decide_true] at Q0
            clear n1 n3 n4 n6 m1
            go_wp2_with fail
            go_meet
            case rel => exact ⟨tr', by have := NB.out; congr 1; omega, H5.out, NF.out, by omega⟩
          · subst m2
            have n7 := n6.1 m1
            have d0 : decide (rc < 0) = false := by simp; omega
            have d1 : decide ((D : Int) < rc) = false := by simp; omega
            by_cases hc : 0 < rc
            · have d2 : decide (0 < rc) = true := by simpa using hc
              obtain ⟨m4, m5, m6⟩ := m3 hc
              have d3 : decide (iz < 1) = false := by simp; omega
              have d4 : decide (rf < act.a + act.b) = false := by simp; omega
              have d5 : decide ((B : Int) - rc < rf) = false := by simp; omega
              have s1' : 0 ≤ act.a + act.b := by omega
              have s2' : act.a + act.b ≤ 256 := by omega
              have s3' : rc ≤ 16 := by omega
              clear n1 n3 n4 n6 n7 m1 m3 m4 m5 m6 hiz
              go_wp2_with fail
              go_meet
              case rel => exact ⟨tr', congrArg (Value.int .i64) NB.out, H5.out, NF.out, by omega⟩
            · have d2 : decide (0 < rc) = false := by simpa using hc
              clear n1 n3 n4 n6 n7 m1 m3 hiz hc
              go_wp2_with fail
              go_meet
              case rel => exact ⟨tr', congrArg (Value.int .i64) NB.out, H5.out, NF.out, by omega⟩
        · have kd : (act.kind == 0) = false := by simp [kk]
          obtain ⟨x0', x1', x2'⟩ := RX.out.three
          by_cases k1 : act.kind = 1
          · have kd1 : (act.kind == 1) = true := by simp [k1]
            have NF := Lib.hid (tuneS_fine HF.out act.a true)
            have NU := tuneS_uses tr act.a true
            have NB := Lib.hid (tuneS_begun tr act.a true)
            have LT := Lib.hid (trk_late act.a HA.out HF.out (by omega))
            clear kk k1
            go_wp2_with fail
            (with_reducible refine LT.out.mono ?_)
            rintro e w3 ⟨rfl, h3⟩
            have H3 := Lib.hid h3
            clear h3 LT H HA OX RX
            go_wp2_with fail
            go_meet
            case rel => exact ⟨_, congrArg (fun x : Nat => Value.int .i64 (x : Int)) NB.out.symm, H3.out, NF.out, by omega⟩
          · have kd1 : (act.kind == 1) = false := by simp [k1]
            have NF := Lib.hid (tuneS_fine HF.out act.a false)
            have NU := tuneS_uses tr act.a false
            have NB := Lib.hid (tuneS_begun tr act.a false)
            have LT := Lib.hid (trk_waste act.a HA.out HF.out (by omega))
            clear kk k1
            go_wp2_with fail
            (with_reducible refine LT.out.mono ?_)
            rintro e w3 ⟨rfl, h3⟩
            have H3 := Lib.hid h3
            clear h3 LT H HA OX RX
            go_wp2_with fail
            go_meet
            case rel => exact ⟨_, congrArg (fun x : Nat => Value.int .i64 (x : Int)) NB.out.symm, H3.out, NF.out, by omega⟩
      case rest =>
        obtain ⟨tr2, rfl, h2, hf2, hu2⟩ := hcut
        have H5 := Lib.hid h2
        have HF2 := Lib.hid hf2
        have fl : tr2.ss.length ≤ 16 := fine_len hf2
        have few : tr2.ss.length ≤ S := hf2.few
        have SS := Lib.hid (trk_streams h2 (by omega))
        clear h2 hf2 H HA HF OX RX hbeg hu
        go_wp2_with fail
        (with_reducible refine SS.out.mono ?_)
        rintro e w6 ⟨⟨A6, c6, rfl, hh6, _⟩, o6⟩
        have H7 := Lib.hid (H5.out.still o6)
        have HN := Lib.hid hh6
        clear hh6 o6 SS H5
        have dS : decide ((S : Int) < (tr2.ss.length : Int)) = false := by simp; omega
        have dS2 : decide (S < tr2.ss.length) = false := by simp; omega
        have hwj : IntKind.i64.wrap ((j : Int) + 1) = (j : Int) + 1 := by rw [IntKind.wrap_i64]; omega
        go_wp2_with fail
        go_loopw [16] (fun kv wx => ∃ m : Nat, m ≤ tr2.ss.length ∧ kv = .int .i64 m ∧ Only none_ w6 wx) (fun kv _ => tr2.ss.length - (intOf kv).toNat)
        case atStart => exact ⟨0, Nat.zero_le _, rfl, Only.refl _ _⟩
        case round =>
          obtain ⟨m, hm, rfl, ho⟩ := hrel
          have OO := Lib.hid ho
          clear ho
          by_cases r3 : m < tr2.ss.length
          · obtain ⟨y, hy⟩ : ∃ y, tr2.ss[m]? = some y := ⟨_, List.getElem?_eq_getElem r3⟩
            have hmem := List.mem_of_getElem? hy
            have hid := HF2.out.ids y hmem
            have hus := HF2.out.uses y hmem
            have hmay : y.f.May (D : Int) (B : Int) := HF2.out.may y hmem
            obtain ⟨yg, yo, rfl, _, cy⟩ := HN.out m y hy
            have MAY := Lib.hid (fun i : After w6 => Calls.after (v := .bool true) i ((rmay_any y.f D B i.val).mono fun e w' h => ⟨by rw [h.1, decide_eq_true hmay], h.2.only⟩))
            obtain ⟨yi, hyi⟩ : ∃ yi : Int, yi = (y.id : Int) := ⟨_, rfl⟩
            obtain ⟨yu, hyu⟩ : ∃ yu : Int, yu = (y.used : Int) := ⟨_, rfl⟩
            have y0 : ∀ i : After w6, i.val.cell? ⟨yg, yo + m * 6, none⟩ = some (.int .i64 yi) := fun i => by rw [hyi]; exact i.only.cell (cy 0 _ rfl) (fun s => s)
            have y1 : ∀ i : After w6, i.val.cell? ⟨yg, yo + m * 6 + 1, none⟩ = some (.int .i64 y.f.n) := fun i => i.only.cell (cy 1 _ rfl) (fun s => s)
            have y2 : ∀ i : After w6, i.val.cell? ⟨yg, yo + m * 6 + 2, none⟩ = some (.int .i64 y.f.a) := fun i => i.only.cell (cy 2 _ rfl) (fun s => s)
            have y3 : ∀ i : After w6, i.val.cell? ⟨yg, yo + m * 6 + 3, none⟩ = some (.int .i64 y.f.p) := fun i => i.only.cell (cy 3 _ rfl) (fun s => s)
            have y4 : ∀ i : After w6, i.val.cell? ⟨yg, yo + m * 6 + 4, none⟩ = some (.int .i64 y.f.g) := fun i => i.only.cell (cy 4 _ rfl) (fun s => s)
            have y5 : ∀ i : After w6, i.val.cell? ⟨yg, yo + m * 6 + 5, none⟩ = some (.int .i64 yu) := fun i => by rw [hyu]; exact i.only.cell (cy 5 _ rfl) (fun s => s)
            have d1 : decide (yi < 1) = false := by simp; omega
            have d2 : decide ((tr2.begun : Int) < yi) = false := by simp; omega
            have d3 : decide (yu < 1) = false := by simp; omega
            have d4 : decide ((j : Int) + 1 < yu) = false := by simp; omega
            have hm3 : (m : Int) < (tr2.ss.length : Int) := by omega
            go_upto_region 28 with fail
            refine wp_region_after (w0 := w6) (by kernel_rfl) (lex_from lexNumbers (by kernel_rfl)) OO.out ?_
            by_cases m0 : m = 0
            · have d5 : decide ((0 : Int) < (m : Int)) = false := by simp; omega
              have d6 : decide (0 < m) = false := by simp; omega
              clear hmem hid hus hmay cy hyi hyu hy m0
              repeat (go_big_quiet_step (exact MAY.out _))
              refine wpQuiet_nil ?_
              intro _ hw'
              obtain ⟨⟨wn, hn⟩, rfl⟩ := hw'
              go_wp2_with fail
              go_roundw
              case rel => exact ⟨m + 1, by omega, by go_num, hn⟩
              case measure => simp [intOf]; omega
            · obtain ⟨i0, hi0⟩ : ∃ i0, m = i0 + 1 := ⟨m - 1, by omega⟩
              obtain ⟨z, hz⟩ : ∃ z, tr2.ss[i0]? = some z := ⟨_, List.getElem?_eq_getElem (by omega)⟩
              have hrise := pair_rise HF2.out hz (by rw [← hi0]; exact hy)
              obtain ⟨zg, zo, hzA, _, cz⟩ := HN.out i0 z hz
              injection hzA with hzA
              injection hzA with ez1 ez2
              subst ez1 ez2
              obtain ⟨zi, hzi⟩ : ∃ zi : Int, zi = (z.id : Int) := ⟨_, rfl⟩
              have z0 : ∀ i : After w6, i.val.cell? ⟨yg, yo + i0 * 6, none⟩ = some (.int .i64 zi) := fun i => by rw [hzi]; exact i.only.cell (cz 0 _ rfl) (fun s => s)
              have d5 : decide ((0 : Int) < (m : Int)) = true := by simp; omega
              have d6 : decide (0 < m) = true := by simp; omega
              have d7 : decide (yi ≤ zi) = false := by simp; omega
              have hwi : IntKind.i64.wrap ((m : Int) - 1) = (i0 : Int) := by rw [IntKind.wrap_i64]; omega
              have i3 : (i0 : Int) < (tr2.ss.length : Int) := by omega
              have i4 : i0 < tr2.ss.length := by omega
              clear hmem hid hus hmay cy cz hyi hyu hzi hrise hz hy m0 hi0
              repeat (go_big_quiet_step (exact MAY.out _))
              refine wpQuiet_nil ?_
              intro _ hw'
              obtain ⟨⟨wn, hn⟩, rfl⟩ := hw'
              go_wp2_with fail
              go_roundw
              case rel => exact ⟨m + 1, by omega, by go_num, hn⟩
              case measure => simp [intOf]; omega
          · have e : m = tr2.ss.length := by omega
            subst e
            have H8 := Lib.hid (H7.out.still OO.out)
            go_wp2_with fail
            go_roundw
            case rel => exact ⟨j + 1, tr2, by omega, by omega, by go_num, rfl, H8.out, HF2.out, hu2⟩
            case measure => simp [intOf]; omega
    · have W3 := Lib.hid ((W1.out.same H.out.2).to_below8)
      rcases q1 with ⟨q1, q2⟩ | q1
      all_goals
        go_wp2_with fail
        go_ret
        exact ⟨rfl, W3.out⟩



end Go.Proofs.Ytfmmmiiohaaegaa.streamNumbers

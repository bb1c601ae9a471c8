/- Proved: the statement IndexTells of layer 5, for every size and row of steps, on no condition. -/
import Derived.Test.YtajphhalneaihaaRows
import Derived.WalkKit
import Derived.ProofKit
import Derived.OpenShut
import Derived.Below
import Derived.Test.YtajphhalneaihaaArgs
import Derived.Test.YtajphhalneaihaaTell5
import Derived.StillTailTactics
namespace Go.Proofs.Ytajphhalneaihaa.indexTells
open Go.ChangeShapes Go.WideShapes Go.ChangeAt Go.RowKit
set_option linter.unusedVariables false

theorem own : ownKnob Try.prog.godebug = none := by kernel_rfl
theorem laidOut : laidOutB Try.prog = true := by kernel_rfl

set_option maxHeartbeats 16000000 in
set_option maxRecDepth 100000 in
theorem walk (w : World) (a : Int) (wa : (Lit.int .u8 a).wf = true) (A : Option Addr) (len cap : Nat) (xs : List Act1) (hmax : len ≤ maxLen) (hlen : xs.length = len) (hold : Holds w A 3 Act1.cells xs) (_ : ∀ a ∈ xs, True) :
    Calls Try.prog 4 #[.int .u8 a, .slice A len cap] w fun e w' => e = .returned (.bool true) ∧ Below w.heap.size w w' := by
  obtain ⟨la, ua⟩ := bd_u8 wa
  clear wa
  obtain ⟨P, hP, pw⟩ := size_of a la
  obtain ⟨p2, p256⟩ := pw.le
  unfold maxLen at hmax
  have HL := Lib.hid hlen
  have HO := Lib.hid hold
  clear hlen hold
  go_enter Try.func4, Try.ntmps4
  go_wp2_with fail
  (with_reducible refine (awake_any _).mono ?_)
  rintro e w1 ⟨rfl, b1⟩
  have B1 := Lib.hid b1
  clear b1
  go_wp2_with fail
  rw [hP]
  clear hP
  (with_reducible refine (new_yes P _ pw).mono ?_)
  rintro e w2 ⟨p, b, rfl, h, kp, kb, o⟩
  have H2 := Lib.hid h
  have B2 := Lib.hid (Only.below_to B1.out o (Nat.le_refl _) (fun _ _ s => s))
  have kb' : w.heap.size ≤ b := Nat.le_trans B1.out.size kb
  have kp' : w.heap.size ≤ p := Nat.le_trans B1.out.size kp
  clear h o kp kb B1
  go_wp2_with fail
  go_loopw [7] (fun i wr => ∃ (j : Nat) (ps : List Pl), j ≤ len ∧ j ≤ 120 ∧ i = .int .i64 j ∧ Ix wr p b ps ∧ Good ps ∧ Hist ps xs j ∧ Below w.heap.size w wr) (fun i _ => len - (intOf i).toNat)
  case atStart => exact ⟨0, fresh P, Nat.zero_le _, Nat.zero_le _, rfl, H2.out, good_fresh (by omega), Hist.start P xs, B2.out⟩
  case round =>
    obtain ⟨j, ps, hj, hj2, rfl, h, hG, hi, bl⟩ := hrel
    have H := Lib.hid h
    have G := Lib.hid hG
    have HI := Lib.hid hi
    have B := Lib.hid bl
    clear h bl hG hi H2 B2
    have t12 : (j < len ∧ j < 120) ∨ (j < len ∧ 120 ≤ j) ∨ len ≤ j := by omega
    rcases t12 with ⟨t1, t2⟩ | ⟨t1, t2⟩ | t1
    · obtain ⟨act, hact⟩ : ∃ act, xs[j]? = some act := ⟨_, List.getElem?_eq_getElem (by rw [HL.out]; exact t1)⟩
      obtain ⟨sb, so, hA, hsb, c0, c1, c2⟩ := act_at HO.out B.out hact
      subst hA
      have G3 := Lib.hid (stepP_good G.out act)
      have HI3 := Lib.hid (HI.out.step G.out hact)
      have kb2 : w.heap.size ≤ wr.heap.size := B.out.size
      have RF := Row.fresh wr 32 #[.int .i64 act.kind, .int .i64 act.key, .int .i64 act.n]
      have HW := Lib.hid (H.out.alloc (.cells #[.int .i64 act.kind, .int .i64 act.key, .int .i64 act.n] 32))
      have BW := Lib.hid (B.out.alloc B.out.size (.cells #[.int .i64 act.kind, .int .i64 act.key, .int .i64 act.n] 32))
      have np : ¬ wr.heap.size = p := by have := H.out.head.lt; omega
      have nb : ¬ wr.heap.size = b := by have := H.out.row.lt; omega
      clear hact
      have r0 := RF.cell 0
      have r1 := RF.cell 1
      have r2 := RF.cell 2
      simp only [List.getElem?_toArray, List.getElem?_cons_zero, List.getElem?_cons_succ] at r0 r1 r2
      have R1 := Lib.hid r1
      have R2 := Lib.hid r2
      clear r0 r1 r2 RF
      by_cases hk : act.kind = 0
      · have t3 : (act.kind == 0) = true := by simpa using hk
        have ES := Lib.hid (show stepP ps act = (putP ps act.key act.n).1 by unfold stepP; rw [if_pos hk])
        have PA := Lib.hid (put_any p b ps act.key act.n _ HW.out G.out)
        have CODE := put_tells G.out act.key act.n
        clear hk
        rcases CODE with ⟨d1, d2, d3⟩ | d1 | d1
        · have PB := PA.out
          rw [d1] at PB
          have PB := Lib.hid PB
          have D2 := Lib.hid (show hasP (stepP ps act) act.key = true by rw [ES.out]; exact d2)
          have D3 := Lib.hid (show numP (stepP ps act) act.key = act.n by rw [ES.out]; exact d3)
          have nn : (act.n != act.n) = false := by simp
          clear d1 d2 d3 PA
          go_wp2_with fail
          (with_reducible refine (PB.out).mono ?_)
          rintro e w3 ⟨rfl, h3, o3⟩
          have H3 := Lib.hid (show Ix w3 p b (stepP ps act) by rw [ES.out]; exact h3)
          have B3 := Lib.hid (Only.below_to BW.out o3 (Nat.le_refl _) (fun i hi q => by rcases q with q | q <;> omega))
          have r1 := o3.cell R1.out (fun q => q.elim np nb)
          have r2 := o3.cell R2.out (fun q => q.elim np nb)
          have GA := get_any p b _ act.key w3 H3.out G3.out
          rw [D2.out, D3.out] at GA
          have GA := Lib.hid GA
          clear h3 o3
          go_wp2_with fail
          (with_reducible refine (GA.out).mono ?_)
          rintro e w4 ⟨rfl, o5⟩
          have r3 := o5.cell r2 (fun s => s)
          clear r1 r2 ES D2 D3 PB
          generalize stepP ps act = qs at *
          have H4 := Lib.hid (H3.out.still o5)
          have B4 := Lib.hid (Only.below_to B3.out o5 (Nat.le_refl _) (fun _ _ s => s))
          clear o5 H3 B3 H B
          go_wp2_with fail
          go_loopw [14, 15, 16] (fun kv _ _ wr => ∃ k : Nat, k ≤ j ∧ kv = .int .i64 k ∧ Ix wr p b qs ∧ Below w.heap.size w wr) (fun kv _ _ _ => j - (intOf kv).toNat)
          case atStart => exact ⟨0, Nat.zero_le _, rfl, H4.out, B4.out⟩
          case round =>
            obtain ⟨k, hk, rfl, h, bl⟩ := hrel
            have H5 := Lib.hid h
            have B5 := Lib.hid bl
            clear h bl H4 B4
            by_cases hlt : k < j
            · obtain ⟨ak, hak⟩ : ∃ ak, xs[k]? = some ak := ⟨_, List.getElem?_eq_getElem (by rw [HL.out]; omega)⟩
              have AK := Lib.hid (act_more HO.out hak)
              have HAK := Lib.hid hak
              clear hak
              go_wp2_with fail
              go_loopw [15, 16] (fun lv tv wr => ∃ t l : Nat, k ≤ t ∧ t ≤ j + 1 ∧ tv = .int .i64 t ∧ lv = .int .i64 l ∧ LastAt xs ak.key k t l ∧ Ix wr p b qs ∧ Below w.heap.size w wr) (fun _ tv _ => j + 1 - (intOf tv).toNat)
              case atStart => exact ⟨k, k, Nat.le_refl _, by omega, rfl, rfl, LastAt.start HAK.out, H5.out, B5.out⟩
              case round =>
                obtain ⟨t, l, ht1, ht2, rfl, rfl, hl, h, bl⟩ := hrel
                have H6 := Lib.hid h
                have B6 := Lib.hid bl
                have LA := Lib.hid hl
                clear h bl hl H5 B5
                by_cases hle : t ≤ j
                · obtain ⟨at', hat⟩ : ∃ a, xs[t]? = some a := ⟨_, List.getElem?_eq_getElem (by rw [HL.out]; omega)⟩
                  have f1 := (AK.out _ B6.out).2.1
                  have f2 := (act_more HO.out hat _ B6.out).2.1
                  have HAT := Lib.hid hat
                  have le1 : (t : Int) ≤ (j : Int) := by omega
                  clear hat
                  by_cases e : at'.key = ak.key
                  · have te : (at'.key == ak.key) = true := by simpa using e
                    have LN := Lib.hid (LA.out.hit HAT.out e ht1)
                    clear e
                    go_wp2_with fail
                    go_quiet (fail)
                    go_wp2_with fail
                    go_roundw
                    case rel => exact ⟨t + 1, t, by omega, by omega, by go_num, rfl, LN.out, H6.out.drewN _, below_n B6.out _⟩
                    case measure => simp [intOf]; omega
                  · have te : (at'.key == ak.key) = false := by simpa using e
                    have LN := Lib.hid (LA.out.miss HAT.out e)
                    clear e
                    go_wp2_with fail
                    go_quiet (fail)
                    go_wp2_with fail
                    go_roundw
                    case rel => exact ⟨t + 1, l, by omega, by omega, by go_num, rfl, LN.out, H6.out.drewN _, below_n B6.out _⟩
                    case measure => simp [intOf]; omega
                · have et : t = j + 1 := by omega
                  have LE := Lib.hid (show LastAt xs ak.key k (j + 1) l by rw [← et]; exact LA.out)
                  have ng : decide (t ≤ j) = false := by simp; omega
                  have ng2 : decide ((t : Int) ≤ (j : Int)) = false := by simp; omega
                  obtain ⟨al, hal, lk, lj⟩ := LE.out.at_ (by omega)
                  have f1 := (AK.out _ B6.out).2.1
                  have GA := Lib.hid (get_any p b qs ak.key wr H6.out G3.out)
                  have TL := Lib.hid (fun hh => HI3.out.last LE.out hk hal ((G3.out.get ak.key).1 hh))
                  have AL := Lib.hid (act_more HO.out hal)
                  have HAL := Lib.hid hal
                  clear et hle hal LA
                  generalize numP qs ak.key = nu at *
                  generalize hasP qs ak.key = hh at *
                  cases hh with
                  | false =>
                    go_wp2_with fail
                    (with_reducible refine (GA.out).mono ?_)
                    rintro e w5 ⟨rfl, o5⟩
                    have H7 := Lib.hid (H6.out.still o5)
                    have B7 := Lib.hid (Only.below_to B6.out o5 (Nat.le_refl _) (fun _ _ s => s))
                    clear o5 f1 H6 B6
                    go_wp2_with fail
                    go_roundw
                    case rel => exact ⟨k + 1, by omega, by go_num, H7.out, B7.out⟩
                    case measure => simp [intOf]; omega
                  | true =>
                    obtain ⟨tk, tn⟩ := TL.out rfl
                    have tk' : (al.kind != 0) = false := by simp [tk]
                    have TN := Lib.hid tn
                    clear tn tk
                    go_wp2_with fail
                    (with_reducible refine (GA.out).mono ?_)
                    rintro e w5 ⟨rfl, o5⟩
                    have H7 := Lib.hid (H6.out.still o5)
                    have B7 := Lib.hid (Only.below_to B6.out o5 (Nat.le_refl _) (fun _ _ s => s))
                    have g0 := (AL.out _ B7.out).1
                    have g2 := (AK.out _ B7.out).2.2
                    clear o5 f1 H6 B6
                    by_cases elk : l = k
                    · have s1 : ((l : Int) == (k : Int)) = true := by simp; omega
                      have s2 : (l == k) = true := by simp; omega
                      have s3 : (nu != ak.n) = false := by
                        have e2 := HAL.out
                        rw [elk, HAK.out] at e2
                        injection e2 with e2
                        have := TN.out
                        rw [← e2] at this
                        simp [this]
                      clear elk
                      go_wp2_with fail
                      go_roundw
                      case rel => exact ⟨k + 1, by omega, by go_num, H7.out, B7.out⟩
                      case measure => simp [intOf]; omega
                    · have s1 : ((l : Int) == (k : Int)) = false := by simp; omega
                      have s2 : (l == k) = false := by simp; omega
                      clear elk
                      go_wp2_with fail
                      go_roundw
                      case rel => exact ⟨k + 1, by omega, by go_num, H7.out, B7.out⟩
                      case measure => simp [intOf]; omega
            · have ek : j ≤ k := by omega
              go_wp2_with fail
              go_roundw
              case rel => exact ⟨j + 1, qs, by omega, by omega, by go_num, H5.out, G3.out, HI3.out, B5.out⟩
              case measure => simp [intOf]; omega
        · have PB := PA.out
          rw [d1] at PB
          have PB := Lib.hid PB
          clear d1 PA
          go_wp2_with fail
          (with_reducible refine (PB.out).mono ?_)
          rintro e w3 ⟨rfl, h3, o3⟩
          have H3 := Lib.hid (show Ix w3 p b (stepP ps act) by rw [ES.out]; exact h3)
          have B3 := Lib.hid (Only.below_to BW.out o3 (Nat.le_refl _) (fun i hi q => by rcases q with q | q <;> omega))
          have r1 := o3.cell R1.out (fun q => q.elim np nb)
          have GA := Lib.hid (get_any p b _ act.key w3 H3.out G3.out)
          clear h3 o3
          go_wp2_with fail
          (with_reducible refine (GA.out).mono ?_)
          rintro e w4 ⟨rfl, o5⟩
          clear r1 ES PB
          generalize stepP ps act = qs at *
          have H4 := Lib.hid (H3.out.still o5)
          have B4 := Lib.hid (Only.below_to B3.out o5 (Nat.le_refl _) (fun _ _ s => s))
          clear o5 H3 B3 H B
          go_wp2_with fail
          go_loopw [14, 15, 16] (fun kv _ _ wr => ∃ k : Nat, k ≤ j ∧ kv = .int .i64 k ∧ Ix wr p b qs ∧ Below w.heap.size w wr) (fun kv _ _ _ => j - (intOf kv).toNat)
          case atStart => exact ⟨0, Nat.zero_le _, rfl, H4.out, B4.out⟩
          case round =>
            obtain ⟨k, hk, rfl, h, bl⟩ := hrel
            have H5 := Lib.hid h
            have B5 := Lib.hid bl
            clear h bl H4 B4
            by_cases hlt : k < j
            · obtain ⟨ak, hak⟩ : ∃ ak, xs[k]? = some ak := ⟨_, List.getElem?_eq_getElem (by rw [HL.out]; omega)⟩
              have AK := Lib.hid (act_more HO.out hak)
              have HAK := Lib.hid hak
              clear hak
              go_wp2_with fail
              go_loopw [15, 16] (fun lv tv wr => ∃ t l : Nat, k ≤ t ∧ t ≤ j + 1 ∧ tv = .int .i64 t ∧ lv = .int .i64 l ∧ LastAt xs ak.key k t l ∧ Ix wr p b qs ∧ Below w.heap.size w wr) (fun _ tv _ => j + 1 - (intOf tv).toNat)
              case atStart => exact ⟨k, k, Nat.le_refl _, by omega, rfl, rfl, LastAt.start HAK.out, H5.out, B5.out⟩
              case round =>
                obtain ⟨t, l, ht1, ht2, rfl, rfl, hl, h, bl⟩ := hrel
                have H6 := Lib.hid h
                have B6 := Lib.hid bl
                have LA := Lib.hid hl
                clear h bl hl H5 B5
                by_cases hle : t ≤ j
                · obtain ⟨at', hat⟩ : ∃ a, xs[t]? = some a := ⟨_, List.getElem?_eq_getElem (by rw [HL.out]; omega)⟩
                  have f1 := (AK.out _ B6.out).2.1
                  have f2 := (act_more HO.out hat _ B6.out).2.1
                  have HAT := Lib.hid hat
                  have le1 : (t : Int) ≤ (j : Int) := by omega
                  clear hat
                  by_cases e : at'.key = ak.key
                  · have te : (at'.key == ak.key) = true := by simpa using e
                    have LN := Lib.hid (LA.out.hit HAT.out e ht1)
                    clear e
                    go_wp2_with fail
                    go_quiet (fail)
                    go_wp2_with fail
                    go_roundw
                    case rel => exact ⟨t + 1, t, by omega, by omega, by go_num, rfl, LN.out, H6.out.drewN _, below_n B6.out _⟩
                    case measure => simp [intOf]; omega
                  · have te : (at'.key == ak.key) = false := by simpa using e
                    have LN := Lib.hid (LA.out.miss HAT.out e)
                    clear e
                    go_wp2_with fail
                    go_quiet (fail)
                    go_wp2_with fail
                    go_roundw
                    case rel => exact ⟨t + 1, l, by omega, by omega, by go_num, rfl, LN.out, H6.out.drewN _, below_n B6.out _⟩
                    case measure => simp [intOf]; omega
                · have et : t = j + 1 := by omega
                  have LE := Lib.hid (show LastAt xs ak.key k (j + 1) l by rw [← et]; exact LA.out)
                  have ng : decide (t ≤ j) = false := by simp; omega
                  have ng2 : decide ((t : Int) ≤ (j : Int)) = false := by simp; omega
                  obtain ⟨al, hal, lk, lj⟩ := LE.out.at_ (by omega)
                  have f1 := (AK.out _ B6.out).2.1
                  have GA := Lib.hid (get_any p b qs ak.key wr H6.out G3.out)
                  have TL := Lib.hid (fun hh => HI3.out.last LE.out hk hal ((G3.out.get ak.key).1 hh))
                  have AL := Lib.hid (act_more HO.out hal)
                  have HAL := Lib.hid hal
                  clear et hle hal LA
                  generalize numP qs ak.key = nu at *
                  generalize hasP qs ak.key = hh at *
                  cases hh with
                  | false =>
                    go_wp2_with fail
                    (with_reducible refine (GA.out).mono ?_)
                    rintro e w5 ⟨rfl, o5⟩
                    have H7 := Lib.hid (H6.out.still o5)
                    have B7 := Lib.hid (Only.below_to B6.out o5 (Nat.le_refl _) (fun _ _ s => s))
                    clear o5 f1 H6 B6
                    go_wp2_with fail
                    go_roundw
                    case rel => exact ⟨k + 1, by omega, by go_num, H7.out, B7.out⟩
                    case measure => simp [intOf]; omega
                  | true =>
                    obtain ⟨tk, tn⟩ := TL.out rfl
                    have tk' : (al.kind != 0) = false := by simp [tk]
                    have TN := Lib.hid tn
                    clear tn tk
                    go_wp2_with fail
                    (with_reducible refine (GA.out).mono ?_)
                    rintro e w5 ⟨rfl, o5⟩
                    have H7 := Lib.hid (H6.out.still o5)
                    have B7 := Lib.hid (Only.below_to B6.out o5 (Nat.le_refl _) (fun _ _ s => s))
                    have g0 := (AL.out _ B7.out).1
                    have g2 := (AK.out _ B7.out).2.2
                    clear o5 f1 H6 B6
                    by_cases elk : l = k
                    · have s1 : ((l : Int) == (k : Int)) = true := by simp; omega
                      have s2 : (l == k) = true := by simp; omega
                      have s3 : (nu != ak.n) = false := by
                        have e2 := HAL.out
                        rw [elk, HAK.out] at e2
                        injection e2 with e2
                        have := TN.out
                        rw [← e2] at this
                        simp [this]
                      clear elk
                      go_wp2_with fail
                      go_roundw
                      case rel => exact ⟨k + 1, by omega, by go_num, H7.out, B7.out⟩
                      case measure => simp [intOf]; omega
                    · have s1 : ((l : Int) == (k : Int)) = false := by simp; omega
                      have s2 : (l == k) = false := by simp; omega
                      clear elk
                      go_wp2_with fail
                      go_roundw
                      case rel => exact ⟨k + 1, by omega, by go_num, H7.out, B7.out⟩
                      case measure => simp [intOf]; omega
            · have ek : j ≤ k := by omega
              go_wp2_with fail
              go_roundw
              case rel => exact ⟨j + 1, qs, by omega, by omega, by go_num, H5.out, G3.out, HI3.out, B5.out⟩
              case measure => simp [intOf]; omega
        · have PB := PA.out
          rw [d1] at PB
          have PB := Lib.hid PB
          clear d1 PA
          go_wp2_with fail
          (with_reducible refine (PB.out).mono ?_)
          rintro e w3 ⟨rfl, h3, o3⟩
          have H3 := Lib.hid (show Ix w3 p b (stepP ps act) by rw [ES.out]; exact h3)
          have B3 := Lib.hid (Only.below_to BW.out o3 (Nat.le_refl _) (fun i hi q => by rcases q with q | q <;> omega))
          have r1 := o3.cell R1.out (fun q => q.elim np nb)
          have GA := Lib.hid (get_any p b _ act.key w3 H3.out G3.out)
          clear h3 o3
          go_wp2_with fail
          (with_reducible refine (GA.out).mono ?_)
          rintro e w4 ⟨rfl, o5⟩
          clear r1 ES PB
          generalize stepP ps act = qs at *
          have H4 := Lib.hid (H3.out.still o5)
          have B4 := Lib.hid (Only.below_to B3.out o5 (Nat.le_refl _) (fun _ _ s => s))
          clear o5 H3 B3 H B
          go_wp2_with fail
          go_loopw [14, 15, 16] (fun kv _ _ wr => ∃ k : Nat, k ≤ j ∧ kv = .int .i64 k ∧ Ix wr p b qs ∧ Below w.heap.size w wr) (fun kv _ _ _ => j - (intOf kv).toNat)
          case atStart => exact ⟨0, Nat.zero_le _, rfl, H4.out, B4.out⟩
          case round =>
            obtain ⟨k, hk, rfl, h, bl⟩ := hrel
            have H5 := Lib.hid h
            have B5 := Lib.hid bl
            clear h bl H4 B4
            by_cases hlt : k < j
            · obtain ⟨ak, hak⟩ : ∃ ak, xs[k]? = some ak := ⟨_, List.getElem?_eq_getElem (by rw [HL.out]; omega)⟩
              have AK := Lib.hid (act_more HO.out hak)
              have HAK := Lib.hid hak
              clear hak
              go_wp2_with fail
              go_loopw [15, 16] (fun lv tv wr => ∃ t l : Nat, k ≤ t ∧ t ≤ j + 1 ∧ tv = .int .i64 t ∧ lv = .int .i64 l ∧ LastAt xs ak.key k t l ∧ Ix wr p b qs ∧ Below w.heap.size w wr) (fun _ tv _ => j + 1 - (intOf tv).toNat)
              case atStart => exact ⟨k, k, Nat.le_refl _, by omega, rfl, rfl, LastAt.start HAK.out, H5.out, B5.out⟩
              case round =>
                obtain ⟨t, l, ht1, ht2, rfl, rfl, hl, h, bl⟩ := hrel
                have H6 := Lib.hid h
                have B6 := Lib.hid bl
                have LA := Lib.hid hl
                clear h bl hl H5 B5
                by_cases hle : t ≤ j
                · obtain ⟨at', hat⟩ : ∃ a, xs[t]? = some a := ⟨_, List.getElem?_eq_getElem (by rw [HL.out]; omega)⟩
                  have f1 := (AK.out _ B6.out).2.1
                  have f2 := (act_more HO.out hat _ B6.out).2.1
                  have HAT := Lib.hid hat
                  have le1 : (t : Int) ≤ (j : Int) := by omega
                  clear hat
                  by_cases e : at'.key = ak.key
                  · have te : (at'.key == ak.key) = true := by simpa using e
                    have LN := Lib.hid (LA.out.hit HAT.out e ht1)
                    clear e
                    go_wp2_with fail
                    go_quiet (fail)
                    go_wp2_with fail
                    go_roundw
                    case rel => exact ⟨t + 1, t, by omega, by omega, by go_num, rfl, LN.out, H6.out.drewN _, below_n B6.out _⟩
                    case measure => simp [intOf]; omega
                  · have te : (at'.key == ak.key) = false := by simpa using e
                    have LN := Lib.hid (LA.out.miss HAT.out e)
                    clear e
                    go_wp2_with fail
                    go_quiet (fail)
                    go_wp2_with fail
                    go_roundw
                    case rel => exact ⟨t + 1, l, by omega, by omega, by go_num, rfl, LN.out, H6.out.drewN _, below_n B6.out _⟩
                    case measure => simp [intOf]; omega
                · have et : t = j + 1 := by omega
                  have LE := Lib.hid (show LastAt xs ak.key k (j + 1) l by rw [← et]; exact LA.out)
                  have ng : decide (t ≤ j) = false := by simp; omega
                  have ng2 : decide ((t : Int) ≤ (j : Int)) = false := by simp; omega
                  obtain ⟨al, hal, lk, lj⟩ := LE.out.at_ (by omega)
                  have f1 := (AK.out _ B6.out).2.1
                  have GA := Lib.hid (get_any p b qs ak.key wr H6.out G3.out)
                  have TL := Lib.hid (fun hh => HI3.out.last LE.out hk hal ((G3.out.get ak.key).1 hh))
                  have AL := Lib.hid (act_more HO.out hal)
                  have HAL := Lib.hid hal
                  clear et hle hal LA
                  generalize numP qs ak.key = nu at *
                  generalize hasP qs ak.key = hh at *
                  cases hh with
                  | false =>
                    go_wp2_with fail
                    (with_reducible refine (GA.out).mono ?_)
                    rintro e w5 ⟨rfl, o5⟩
                    have H7 := Lib.hid (H6.out.still o5)
                    have B7 := Lib.hid (Only.below_to B6.out o5 (Nat.le_refl _) (fun _ _ s => s))
                    clear o5 f1 H6 B6
                    go_wp2_with fail
                    go_roundw
                    case rel => exact ⟨k + 1, by omega, by go_num, H7.out, B7.out⟩
                    case measure => simp [intOf]; omega
                  | true =>
                    obtain ⟨tk, tn⟩ := TL.out rfl
                    have tk' : (al.kind != 0) = false := by simp [tk]
                    have TN := Lib.hid tn
                    clear tn tk
                    go_wp2_with fail
                    (with_reducible refine (GA.out).mono ?_)
                    rintro e w5 ⟨rfl, o5⟩
                    have H7 := Lib.hid (H6.out.still o5)
                    have B7 := Lib.hid (Only.below_to B6.out o5 (Nat.le_refl _) (fun _ _ s => s))
                    have g0 := (AL.out _ B7.out).1
                    have g2 := (AK.out _ B7.out).2.2
                    clear o5 f1 H6 B6
                    by_cases elk : l = k
                    · have s1 : ((l : Int) == (k : Int)) = true := by simp; omega
                      have s2 : (l == k) = true := by simp; omega
                      have s3 : (nu != ak.n) = false := by
                        have e2 := HAL.out
                        rw [elk, HAK.out] at e2
                        injection e2 with e2
                        have := TN.out
                        rw [← e2] at this
                        simp [this]
                      clear elk
                      go_wp2_with fail
                      go_roundw
                      case rel => exact ⟨k + 1, by omega, by go_num, H7.out, B7.out⟩
                      case measure => simp [intOf]; omega
                    · have s1 : ((l : Int) == (k : Int)) = false := by simp; omega
                      have s2 : (l == k) = false := by simp; omega
                      clear elk
                      go_wp2_with fail
                      go_roundw
                      case rel => exact ⟨k + 1, by omega, by go_num, H7.out, B7.out⟩
                      case measure => simp [intOf]; omega
            · have ek : j ≤ k := by omega
              go_wp2_with fail
              go_roundw
              case rel => exact ⟨j + 1, qs, by omega, by omega, by go_num, H5.out, G3.out, HI3.out, B5.out⟩
              case measure => simp [intOf]; omega
      · have t3 : (act.kind == 0) = false := by simpa using hk
        have ES := Lib.hid (show stepP ps act = delP ps act.key by unfold stepP; rw [if_neg hk])
        have PA := Lib.hid (del_any p b ps act.key _ HW.out G.out)
        have D2 := Lib.hid (show hasP (stepP ps act) act.key = false by rw [ES.out]; exact del_tells G.out act.key)
        clear hk
        go_wp2_with fail
        (with_reducible refine (PA.out).mono ?_)
        rintro e w3 ⟨rfl, h3, o3⟩
        have H3 := Lib.hid (show Ix w3 p b (stepP ps act) by rw [ES.out]; exact h3)
        have B3 := Lib.hid (Only.below_to BW.out o3 (Nat.le_refl _) (fun i hi q => by rcases q with q | q <;> omega))
        have r1 := o3.cell R1.out (fun q => q.elim np nb)
        have GA := get_any p b _ act.key w3 H3.out G3.out
        rw [D2.out] at GA
        have GA := Lib.hid GA
        clear h3 o3
        go_wp2_with fail
        (with_reducible refine (GA.out).mono ?_)
        rintro e w4 ⟨rfl, o5⟩
        clear r1 ES PA D2
        generalize stepP ps act = qs at *
        have H4 := Lib.hid (H3.out.still o5)
        have B4 := Lib.hid (Only.below_to B3.out o5 (Nat.le_refl _) (fun _ _ s => s))
        clear o5 H3 B3 H B
        go_wp2_with fail
        go_loopw [14, 15, 16] (fun kv _ _ wr => ∃ k : Nat, k ≤ j ∧ kv = .int .i64 k ∧ Ix wr p b qs ∧ Below w.heap.size w wr) (fun kv _ _ _ => j - (intOf kv).toNat)
        case atStart => exact ⟨0, Nat.zero_le _, rfl, H4.out, B4.out⟩
        case round =>
          obtain ⟨k, hk, rfl, h, bl⟩ := hrel
          have H5 := Lib.hid h
          have B5 := Lib.hid bl
          clear h bl H4 B4
          by_cases hlt : k < j
          · obtain ⟨ak, hak⟩ : ∃ ak, xs[k]? = some ak := ⟨_, List.getElem?_eq_getElem (by rw [HL.out]; omega)⟩
            have AK := Lib.hid (act_more HO.out hak)
            have HAK := Lib.hid hak
            clear hak
            go_wp2_with fail
            go_loopw [15, 16] (fun lv tv wr => ∃ t l : Nat, k ≤ t ∧ t ≤ j + 1 ∧ tv = .int .i64 t ∧ lv = .int .i64 l ∧ LastAt xs ak.key k t l ∧ Ix wr p b qs ∧ Below w.heap.size w wr) (fun _ tv _ => j + 1 - (intOf tv).toNat)
            case atStart => exact ⟨k, k, Nat.le_refl _, by omega, rfl, rfl, LastAt.start HAK.out, H5.out, B5.out⟩
            case round =>
              obtain ⟨t, l, ht1, ht2, rfl, rfl, hl, h, bl⟩ := hrel
              have H6 := Lib.hid h
              have B6 := Lib.hid bl
              have LA := Lib.hid hl
              clear h bl hl H5 B5
              by_cases hle : t ≤ j
              · obtain ⟨at', hat⟩ : ∃ a, xs[t]? = some a := ⟨_, List.getElem?_eq_getElem (by rw [HL.out]; omega)⟩
                have f1 := (AK.out _ B6.out).2.1
                have f2 := (act_more HO.out hat _ B6.out).2.1
                have HAT := Lib.hid hat
                have le1 : (t : Int) ≤ (j : Int) := by omega
                clear hat
                by_cases e : at'.key = ak.key
                · have te : (at'.key == ak.key) = true := by simpa using e
                  have LN := Lib.hid (LA.out.hit HAT.out e ht1)
                  clear e
                  go_wp2_with fail
                  go_quiet (fail)
                  go_wp2_with fail
                  go_roundw
                  case rel => exact ⟨t + 1, t, by omega, by omega, by go_num, rfl, LN.out, H6.out.drewN _, below_n B6.out _⟩
                  case measure => simp [intOf]; omega
                · have te : (at'.key == ak.key) = false := by simpa using e
                  have LN := Lib.hid (LA.out.miss HAT.out e)
                  clear e
                  go_wp2_with fail
                  go_quiet (fail)
                  go_wp2_with fail
                  go_roundw
                  case rel => exact ⟨t + 1, l, by omega, by omega, by go_num, rfl, LN.out, H6.out.drewN _, below_n B6.out _⟩
                  case measure => simp [intOf]; omega
              · have et : t = j + 1 := by omega
                have LE := Lib.hid (show LastAt xs ak.key k (j + 1) l by rw [← et]; exact LA.out)
                have ng : decide (t ≤ j) = false := by simp; omega
                have ng2 : decide ((t : Int) ≤ (j : Int)) = false := by simp; omega
                obtain ⟨al, hal, lk, lj⟩ := LE.out.at_ (by omega)
                have f1 := (AK.out _ B6.out).2.1
                have GA := Lib.hid (get_any p b qs ak.key wr H6.out G3.out)
                have TL := Lib.hid (fun hh => HI3.out.last LE.out hk hal ((G3.out.get ak.key).1 hh))
                have AL := Lib.hid (act_more HO.out hal)
                have HAL := Lib.hid hal
                clear et hle hal LA
                generalize numP qs ak.key = nu at *
                generalize hasP qs ak.key = hh at *
                cases hh with
                | false =>
                  go_wp2_with fail
                  (with_reducible refine (GA.out).mono ?_)
                  rintro e w5 ⟨rfl, o5⟩
                  have H7 := Lib.hid (H6.out.still o5)
                  have B7 := Lib.hid (Only.below_to B6.out o5 (Nat.le_refl _) (fun _ _ s => s))
                  clear o5 f1 H6 B6
                  go_wp2_with fail
                  go_roundw
                  case rel => exact ⟨k + 1, by omega, by go_num, H7.out, B7.out⟩
                  case measure => simp [intOf]; omega
                | true =>
                  obtain ⟨tk, tn⟩ := TL.out rfl
                  have tk' : (al.kind != 0) = false := by simp [tk]
                  have TN := Lib.hid tn
                  clear tn tk
                  go_wp2_with fail
                  (with_reducible refine (GA.out).mono ?_)
                  rintro e w5 ⟨rfl, o5⟩
                  have H7 := Lib.hid (H6.out.still o5)
                  have B7 := Lib.hid (Only.below_to B6.out o5 (Nat.le_refl _) (fun _ _ s => s))
                  have g0 := (AL.out _ B7.out).1
                  have g2 := (AK.out _ B7.out).2.2
                  clear o5 f1 H6 B6
                  by_cases elk : l = k
                  · have s1 : ((l : Int) == (k : Int)) = true := by simp; omega
                    have s2 : (l == k) = true := by simp; omega
                    have s3 : (nu != ak.n) = false := by
                      have e2 := HAL.out
                      rw [elk, HAK.out] at e2
                      injection e2 with e2
                      have := TN.out
                      rw [← e2] at this
                      simp [this]
                    clear elk
                    go_wp2_with fail
                    go_roundw
                    case rel => exact ⟨k + 1, by omega, by go_num, H7.out, B7.out⟩
                    case measure => simp [intOf]; omega
                  · have s1 : ((l : Int) == (k : Int)) = false := by simp; omega
                    have s2 : (l == k) = false := by simp; omega
                    clear elk
                    go_wp2_with fail
                    go_roundw
                    case rel => exact ⟨k + 1, by omega, by go_num, H7.out, B7.out⟩
                    case measure => simp [intOf]; omega
          · have ek : j ≤ k := by omega
            go_wp2_with fail
            go_roundw
            case rel => exact ⟨j + 1, qs, by omega, by omega, by go_num, H5.out, G3.out, HI3.out, B5.out⟩
            case measure => simp [intOf]; omega
    · go_wp2_with fail
      go_ret
      exact ⟨rfl, B.out⟩
    · go_wp2_with fail
      go_ret
      exact ⟨rfl, B.out⟩


set_option maxRecDepth 100000 in
theorem lifted (os : Os) (started : os.Started) (H : Type) (enc : TypeId × Value → H) :
    ReturnsInHanded {} Try.checked os 4 .any (Rows.indexTellsSpec.pre6 enc Try.prog Try.f4 Rows.indexTellsRow.domain false) (Rows.indexTellsSpec.post enc Try.prog Try.f4 false true false false) := by
  refine returnsInHanded_of_change (C := Try.checked) own started (by kernel_rfl) Try.func4
    (ChangeSpec.witness6 (enc := enc) (C := Try.checked) false ⟨#[], #[.int .u8 0, .slice none 0 0], []⟩ 8 (by kernel_rfl) (by kernel_rfl) (by kernel_rfl) (by kernel_rfl)) ?_
  intro W base args ds gs before hval0 hW hcnd _
  have hval : ∀ (j : Nat) t v, Try.f4.params[j]? = some t → args[j]? = some v → Value.okWide Try.prog W .any base t v := hval0
  have hW' := hW
  obtain ⟨p, q, hA0, hV, rfl, hfz, hnd⟩ := hW
  have hA : DataW.TrodAll enc Try.prog W 0 (fun _ => true) true Try.f4.params.toList args.toList ds p := hA0
  rw [Try.params4] at hA hval
  obtain ⟨v0, vs0, d0, ds0, p0, q0, hargs, rfl, rfl, h0, r0⟩ := trodAll_cons hA
  obtain ⟨v1, vs1, d1, ds1, p1, q1, rfl, rfl, rfl, h1, r1⟩ := trodAll_cons r0
  obtain ⟨rfl, rfl, rfl⟩ := trodAll_nil r1
  obtain rfl : args = #[v0, v1] := by cases args; simp_all
  obtain ⟨rfl, rfl⟩ := trodVars_none hV
  obtain ⟨a0, rfl, rfl, rfl, w0⟩ := open_int Try.underlying5 (hval 0 5 v0 rfl rfl) h0
  have k1 := h1
  have lt1 : ∀ x ∈ p1, x.block < W.heap.size := by obtain ⟨m, hm⟩ := k1; exact DataW.trod_lt m _ _ _ hm
  obtain ⟨ad1, len1, cap1, rfl⟩ := okWide_slice Try.underlying22 (hval 1 22 v1 rfl rfl)
  obtain ⟨fuel1, hf1⟩ := h1
  obtain ⟨max1, xs1, el1, hold1, wf1⟩ := open_acts hf1
  have shut : ∀ W', Below W.heap.size W W' → DataW.TrodAll enc Try.prog W' 0 (fun b => decide (b < W.heap.size)) true [5, 22] [.int .u8 a0, .slice ad1 len1 cap1] [.lit (.int .u8 a0), d1] ([] ++ (p1 ++ [])) := fun W' bel =>
    (trodAll_cons_mk (shut_int Try.underlying5 w0) (trodAll_cons_mk (Below.trod laidOut (by kernel_rfl) (of_decide_eq_true (by kernel_rfl)) k1 bel lt1) trodAll_mk0))
  clear hA0 hval0
  refine (walk W a0 w0 ad1 len1 cap1 xs1 max1 el1 hold1 wf1).mono fun e W' ⟨he, bel⟩ => ?_
  subst he
  exact ⟨_, rfl, _, _, _, [], _, [], hW', trodAll_mk1 (shut_bool Try.underlying4 _), shut W' bel, rfl, bel.frame _, fun h => by cases h⟩

theorem over : Rows.indexTellsRow.holds Try.pinned (OpenSpec.ofChange Rows.indexTellsSpec) :=
  OpenClaim.holds_of_wide 4 Try.f4 rfl rfl rfl rfl rfl rfl rfl ⟨rfl, rfl, rfl, rfl, rfl⟩ rfl rfl rfl rfl rfl (by kernel_rfl) Try.func4 (by kernel_rfl)
    (of_decide_eq_true (by kernel_rfl)) (by unfold Func.isWrapper; first | (rw [if_pos (by decide +kernel)]; kernel_rfl) | (rw [if_neg (by decide +kernel)]; exact ⟨rfl, rfl⟩))
    (fun os started H enc _ => lifted os started H enc)

theorem indexTells_holds : Rows.IndexTellsSaid := over
#print axioms indexTells_holds
end Go.Proofs.Ytajphhalneaihaa.indexTells

/- The walk through TurnCounts's own text. -/
import Derived.WalkKit
import Derived.ProofKit
import Derived.OpenShut
import Derived.Below
import Derived.Test.YtmihinpbgppjlaaArgs
import Derived.Test.YtmihinpbgppjlaaCount12
namespace Go.Proofs.Ytmihinpbgppjlaa.turnCounts
open Go.ChangeShapes Go.WideShapes Go.ChangeAt Go.RowKit
set_option linter.unusedVariables false


set_option maxHeartbeats 2000000 in
set_option maxRecDepth 100000 in
theorem walk (w : World) (A : Option Addr) (len cap : Nat) (xs : List Act1) (hmax : len ≤ maxLen) (hlen : xs.length = len) (hold : Holds w A 3 Act1.cells xs) (wf : ∀ a ∈ xs, (Lit.int .i64 a.k).wf = true) (pa : Int) (wpa : (Lit.int .u8 pa).wf = true) (pb : Int) (wpb : (Lit.int .u8 pb).wf = true) :
    Calls Try.prog 6 #[.slice A len cap, .agg #[.int .u8 pa, .int .u8 pb]] w fun e w' => e = .returned (.bool true) ∧ Below w.heap.size w w' := by
  obtain ⟨lpa, upa⟩ := bd_u8 wpa
  obtain ⟨lpb, upb⟩ := bd_u8 wpb
  clear wpa wpb
  unfold maxLen at hmax
  have HL := Lib.hid hlen
  have HO := Lib.hid hold
  have WF := Lib.hid wf
  clear hlen hold wf
  have S0 := Lib.hid (show Sg w w Asr.none from ⟨⟨fun _ => False, fun _ s => s, fun _ s => s.elim⟩, Only.refl _ _⟩)
  obtain ⟨n, hn, n1, n64⟩ := n_of pa lpa
  obtain ⟨m, hm, m64⟩ := m_of pb lpb
  go_enter Try.func6, Try.ntmps6
  go_wp2_with fail
  have oa0 := (Only.refl none_ w).alloc (.cells #[.int .u8 pa, .int .u8 pb] 48)
  have ra0 := Row.fresh w 48 #[.int .u8 pa, .int .u8 pb]
  generalize w.alloc (.cells #[.int .u8 pa, .int .u8 pb] 48) = w0 at *
  have R0 := Lib.hid ra0
  have SA := Lib.hid (S0.out.still oa0)
  clear oa0 ra0 S0
  (with_reducible refine (awake12_any _).mono ?_)
  rintro e w1 ⟨rfl, o⟩
  have S1 := Lib.hid (SA.out.still o)
  have pc0 : w1.cell? ⟨w.heap.size, 0, none⟩ = some (.int .u8 pa) := ((o.still R0.out).cell 0).trans rfl
  have pc1 : w1.cell? ⟨w.heap.size, 1, none⟩ = some (.int .u8 pb) := ((o.still R0.out).cell 1).trans rfl
  have NW := Lib.hid (sg_new n m w _ S1.out n1 n64 m64)
  clear o SA R0
  go_wp2_with fail
  (with_reducible refine NW.out.mono ?_)
  rintro e w2 ⟨p, rfl, h, _⟩
  have S2 := Lib.hid h
  clear h S1 NW pc0 pc1
  go_wp2_with fail
  go_loopw [9] (fun i wr => ∃ (j : Nat) (ss : List Sl), j ≤ len ∧ j ≤ 150 ∧ i = .int .i64 j ∧ Sg w wr ((AT p n m j ss).and Asr.none) ∧ ∀ s ∈ ss, 1 ≤ s.k ∧ s.k ≤ 40) (fun i _ => len - (intOf i).toNat)
  case atStart => exact ⟨0, [], Nat.zero_le _, Nat.zero_le _, rfl, S2.out, fun s hs => (by cases hs)⟩
  case round =>
    obtain ⟨j, ss, hj, hj2, rfl, h, hin0⟩ := hrel
    clear S2
    have HI0 := Lib.hid hin0
    clear hin0
    have H := Lib.hid h
    clear h
    have t12 : (j < len ∧ j < 150) ∨ (j < len ∧ 150 ≤ j) ∨ len ≤ j := by omega
    rcases t12 with ⟨q1, q2⟩ | q1
    · obtain ⟨act, hact⟩ : ∃ act, xs[j]? = some act := ⟨_, List.getElem?_eq_getElem (by rw [HL.out]; exact q1)⟩
      obtain ⟨sb, so, hA, hsb, k0, k1, k2⟩ := act_at HO.out H.out.only.to_below12 hact
      have WX := Lib.hid (WF.out act (List.mem_of_getElem? hact))
      subst hA
      have AM := Lib.hid (act_more HO.out hact)
      have dj : decide ((j : Int) < 150) = true := by simp; omega
      clear hact
      by_cases hk1 : act.k < 1
      · have d1 : decide (act.k < 1) = true := by simpa using hk1
        clear hk1
        go_wp2_with fail
        go_roundw
        case rel => exact ⟨j + 1, ss, by omega, by omega, by go_num, H.out.atc (Nat.le_succ _), HI0.out⟩
        case measure => simp [intOf]; omega
      · have d1 : decide (act.k < 1) = false := by simpa using hk1
        by_cases hk2 : 40 < act.k
        · have d2 : decide (40 < act.k) = true := by simpa using hk2
          clear hk1 hk2
          go_wp2_with fail
          go_roundw
          case rel => exact ⟨j + 1, ss, by omega, by omega, by go_num, H.out.atc (Nat.le_succ _), HI0.out⟩
          case measure => simp [intOf]; omega
        · have d2 : decide (40 < act.k) = false := by simpa using hk2
          have AK := Lib.hid (show 1 ≤ act.k ∧ act.k ≤ 40 from by omega)
          clear hk1 hk2
          go_upto_region 12 with fail
          go_cut [] from 59 to 65 (fun wx => ∃ s1 : List Sl, Sg w wx ((AT p n m (j + 1) s1).and Asr.none) ∧ ∀ s ∈ s1, 1 ≤ s.k ∧ s.k ≤ 40)
          case first =>
            have KS := Lib.hid (fun (w' : World) (X : Asr) (h : Sg w w' X) => AM.out w' h.only.to_below12)
            have HD := Lib.hid (H.out.still ((Only.refl none_ wr).drew))
            have jj : j < 100000000 := by omega
            go_region_held3 (fun w' => w'.cell? ⟨sb, so + j * 3, none⟩ = some (.int .i64 act.kind) ∧ w'.cell? ⟨sb, so + j * 3 + 1, none⟩ = some (.int .i64 act.k) ∧ w'.cell? ⟨sb, so + j * 3 + 2, none⟩ = some (.bool act.a))
              (first
                | (with_reducible exact KS.out _ _ H5.out)
                | (with_reducible exact KS.out _ _ H4.out)
                | (with_reducible exact KS.out _ _ HD.out)
                | fail)
              (first
                | (go_at_call 11; (with_reducible refine (sg_rnew11 w _ HD.out).mono ?_); rintro e w4 ⟨q, rfl, h4, _⟩; have H4 := Lib.hid h4.up2)
                | (go_at_call 12; (with_reducible refine (sg_step act H4.out WX.out jj (by decide) (by decide)).mono ?_); rintro e w5 ⟨rfl, h5⟩; have H5 := Lib.hid h5)
                | fail)
            all_goals
              go_wp2_with fail
              go_meet
              case rel => exact ⟨_, ⟨H5.out.assoc2.fst.fst.alone, step_in (P := fun k => 1 ≤ k ∧ k ≤ 40) HI0.out AK.out⟩⟩
          case rest =>
            obtain ⟨s1, h1, hin⟩ := hcut
            have S4 := Lib.hid h1
            clear h1 H k0 k1 k2
            have HI := Lib.hid hin
            have FN := Lib.hid S4.out.fst.fine
            have FR := sg_free S4.out.fst
            unfold freeI at FR
            have m1 : (rowL false s1).length ≤ n := FN.out.few false
            have m2 : (rowL true s1).length ≤ m := FN.out.few true
            have CA1 := Lib.hid (cnt_all (a := false) HI.out)
            have CA2 := Lib.hid (cnt_all (a := true) HI.out)
            have CZ1 := Lib.hid (cnt_zero (a := false) HI.out)
            have CZ2 := Lib.hid (cnt_zero (a := true) HI.out)
            obtain ⟨n1', hn1⟩ : ∃ n, (rowL false s1).length = n := ⟨_, rfl⟩
            obtain ⟨n2', hn2⟩ : ∃ n, (rowL true s1).length = n := ⟨_, rfl⟩
            rw [hn1] at FR m1 CA1
            rw [hn2] at FR m2 CA2
            have FR := Lib.hid FR
            clear hn1 hn2 hin
            go_wp2_with fail
            (with_reducible refine (FR.out).mono ?_)
            rintro e w5 ⟨rfl, o⟩
            have S5 := Lib.hid (S4.out.still o)
            clear o FR S4
            have RL := Lib.hid (show n1' ≤ 64 ∧ n2' ≤ 64 from by omega)
            have CL := Lib.hid (fun a k => Nat.le_trans (cnt_le a s1 k) FN.out.len)
            go_wp2_with fail
            go_loopw [10, 11, 12] (fun xv yv kv wr => ∃ k : Nat, k ≤ 40 ∧ kv = .int .i64 ((k : Int) + 1) ∧ xv = .int .i64 ((n : Int) - n1' + cnt false s1 k) ∧ yv = .int .i64 ((m : Int) - n2' + cnt true s1 k) ∧ Sg w wr ((AT p n m (j + 1) s1).and Asr.none)) (fun _ _ kv _ => 41 - (intOf kv).toNat)
            case atStart => exact ⟨0, by omega, rfl, by rw [CZ1.out]; simp, by rw [CZ2.out]; simp, S5.out⟩
            case round =>
              obtain ⟨k, hk, rfl, rfl, rfl, h⟩ := hrel
              have H := Lib.hid h
              clear h S5
              by_cases hlt : k < 40
              · have ST := sg_state ((k : Int) + 1) H.out.fst (wf_i _ (by omega))
                have E1 := cnt_step (a := false) FN.out.once k
                have E2 := cnt_step (a := true) FN.out.once k
                have b1 := CL.out false k
                have b2 := CL.out true k
                have rl1 := RL.out.1
                have rl2 := RL.out.2
                rw [show (((k + 1 : Nat) : Int)) = (k : Int) + 1 from by omega] at E1 E2
                generalize atL s1 ((k : Int) + 1) = y at *
                generalize hasL s1 ((k : Int) + 1) = hb at *
                have E1 := Lib.hid E1
                have E2 := Lib.hid E2
                obtain ⟨c1, hc1⟩ : ∃ c1, cnt false s1 k = c1 := ⟨_, rfl⟩
                obtain ⟨c2, hc2⟩ : ∃ c2, cnt true s1 k = c2 := ⟨_, rfl⟩
                rw [hc1] at b1 E1 ⊢
                rw [hc2] at b2 E2 ⊢
                clear hc1 hc2
                obtain ⟨ya, hya⟩ : ∃ ya, y.a = ya := ⟨_, rfl⟩
                rw [hya] at ST E1 E2
                clear hya
                have ST := Lib.hid ST
                cases hb with
                | false =>
                  go_wp2_with fail
                  (with_reducible refine ST.out.mono ?_)
                  rintro e w6 ⟨rfl, o6⟩
                  have S6 := Lib.hid (H.out.still o6)
                  clear o6 ST
                  go_wp2_with fail
                  go_roundw
                  case rel => exact ⟨k + 1, by omega, by go_num, by rw [E1.out]; simp, by rw [E2.out]; simp, S6.out⟩
                  case measure => simp [intOf]; omega
                | true =>
                  cases ya with
                  | false =>
                    go_wp2_with fail
                    (with_reducible refine ST.out.mono ?_)
                    rintro e w6 ⟨rfl, o6⟩
                    have S6 := Lib.hid (H.out.still o6)
                    clear o6 ST
                    go_wp2_with fail
                    go_roundw
                    case rel => exact ⟨k + 1, by omega, by go_num, by rw [E1.out]; simp; omega, by rw [E2.out]; simp, S6.out⟩
                    case measure => simp [intOf]; omega
                  | true =>
                    go_wp2_with fail
                    (with_reducible refine ST.out.mono ?_)
                    rintro e w6 ⟨rfl, o6⟩
                    have S6 := Lib.hid (H.out.still o6)
                    clear o6 ST
                    go_wp2_with fail
                    go_roundw
                    case rel => exact ⟨k + 1, by omega, by go_num, by rw [E1.out]; simp, by rw [E2.out]; simp; omega, S6.out⟩
                    case measure => simp [intOf]; omega
              · obtain rfl : k = 40 := by omega
                have ex : (n : Int) - n1' + cnt false s1 40 = n := by rw [CA1.out]; omega
                have ey : (m : Int) - n2' + cnt true s1 40 = m := by rw [CA2.out]; omega
                rw [ex, ey]
                go_wp2_with fail
                go_roundw
                case rel => exact ⟨j + 1, s1, by omega, by omega, by go_num, H.out, HI.out⟩
                case measure => simp [intOf]; omega
    · have W3 := Lib.hid H.out.only.to_below12
      rcases q1 with ⟨q1, q2⟩ | q1
      all_goals
        go_wp2_with fail
        go_ret
        exact ⟨rfl, W3.out⟩



end Go.Proofs.Ytmihinpbgppjlaa.turnCounts

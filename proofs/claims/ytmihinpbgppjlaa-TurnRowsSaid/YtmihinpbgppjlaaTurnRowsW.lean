/- The walk through TurnRows's own text. -/
import Derived.WalkKit
import Derived.ProofKit
import Derived.OpenShut
import Derived.Below
import Derived.Test.YtmihinpbgppjlaaArgs
import Derived.Test.YtmihinpbgppjlaaKeep12
namespace Go.Proofs.Ytmihinpbgppjlaa.turnRows
open Go.ChangeShapes Go.WideShapes Go.ChangeAt Go.RowKit
set_option linter.unusedVariables false


set_option maxHeartbeats 2000000 in
set_option maxRecDepth 100000 in
theorem walk (w : World) (A : Option Addr) (len cap : Nat) (xs : List Act1) (hmax : len ≤ maxLen) (hlen : xs.length = len) (hold : Holds w A 3 Act1.cells xs) (wf : ∀ a ∈ xs, (Lit.int .i64 a.k).wf = true) :
    Calls Try.prog 5 #[.slice A len cap] w fun e w' => e = .returned (.bool true) ∧ Below w.heap.size w w' := by
  unfold maxLen at hmax
  have HL := Lib.hid hlen
  have HO := Lib.hid hold
  have WF := Lib.hid wf
  clear hlen hold wf
  have S0 := Lib.hid (show Sg w w Asr.none from ⟨⟨fun _ => False, fun _ s => s, fun _ s => s.elim⟩, Only.refl _ _⟩)
  go_enter Try.func5, Try.ntmps5
  go_wp2_with fail
  (with_reducible refine (awake12_any _).mono ?_)
  rintro e w1 ⟨rfl, o⟩
  have S1 := Lib.hid (S0.out.still o)
  clear o S0
  have NW := Lib.hid (show Calls Try.prog 9 #[.int .i64 30, .int .i64 30] w1 _ from sg_new 30 30 w _ S1.out (by decide) (by decide) (by decide))
  go_wp2_with fail
  (with_reducible refine (NW.out).mono ?_)
  rintro e w2 ⟨p, rfl, h, _⟩
  have S2 := Lib.hid h
  clear h S1 NW
  go_wp2_with fail
  go_loopw [5] (fun i wr => ∃ (j : Nat) (ss : List Sl), j ≤ len ∧ j ≤ 150 ∧ i = .int .i64 j ∧ Sg w wr ((AT p 30 30 j ss).and Asr.none)) (fun i _ => len - (intOf i).toNat)
  case atStart => exact ⟨0, [], Nat.zero_le _, Nat.zero_le _, rfl, S2.out⟩
  case round =>
    obtain ⟨j, ss, hj, hj2, rfl, h⟩ := hrel
    clear S2
    have H := Lib.hid h
    clear h
    have t12 : (j < len ∧ j < 150) ∨ (j < len ∧ 150 ≤ j) ∨ len ≤ j := by omega
    rcases t12 with ⟨q1, q2⟩ | q1
    · obtain ⟨act, hact⟩ : ∃ act, xs[j]? = some act := ⟨_, List.getElem?_eq_getElem (by rw [HL.out]; exact q1)⟩
      obtain ⟨sb, so, hA, hsb, k0, k1, k2⟩ := act_at HO.out H.out.only.to_below12 hact
      have WX := Lib.hid (WF.out act (List.mem_of_getElem? hact))
      subst hA
      have AM := Lib.hid (act_more HO.out hact)
      have dj : decide ((j : Int) < 150) = true := by simp; omega
      clear hact
      go_upto_region 9 with fail
      go_cut [] from 31 to 37 (fun wx => ∃ s1 : List Sl, Sg w wx ((AT p 30 30 (j + 1) s1).and Asr.none))
      case first =>
        have KS := Lib.hid (fun (w' : World) (X : Asr) (h : Sg w w' X) => AM.out w' h.only.to_below12)
        have HD := Lib.hid (H.out.still ((Only.refl none_ wr).drew))
        have jj : j < 100000000 := by omega
        go_region_held3 (fun w' => w'.cell? ⟨sb, so + j * 3, none⟩ = some (.int .i64 act.kind) ∧ w'.cell? ⟨sb, so + j * 3 + 1, none⟩ = some (.int .i64 act.k) ∧ w'.cell? ⟨sb, so + j * 3 + 2, none⟩ = some (.bool act.a))
          (first
            | (with_reducible exact KS.out _ _ H5.out)
            | (with_reducible exact KS.out _ _ H4.out)
            | (with_reducible exact KS.out _ _ HD.out)
            | fail)
          (first
            | (go_at_call 11; (with_reducible refine (sg_rnew11 w _ HD.out).mono ?_); rintro e w4 ⟨q, rfl, h4, _⟩; have H4 := Lib.hid h4.up2)
            | (go_at_call 12; (with_reducible refine (sg_step act H4.out WX.out jj (by decide) (by decide)).mono ?_); rintro e w5 ⟨rfl, h5⟩; have H5 := Lib.hid h5)
            | fail)
        all_goals
          go_wp2_with fail
          go_meet
          case rel => exact ⟨_, H5.out.assoc2.fst.fst.alone⟩
      case rest =>
        obtain ⟨s1, h1⟩ := hcut
        have S4 := Lib.hid h1
        clear h1 H k0 k1 k2
        have FN := Lib.hid S4.out.fst.fine
        have WFS := Lib.hid S4.out.fst.wfs
        have W1 := Lib.hid (sg_waiting S4.out.fst (by omega))
        have wl := Nat.le_trans (waitL_len s1) FN.out.len
        obtain ⟨m, hm⟩ : ∃ m, (waitL s1).length = m := ⟨_, rfl⟩
        have HM := Lib.hid hm
        go_wp2_with fail
        (with_reducible refine (W1.out).mono ?_)
        rintro e w5 ⟨a5, c5, rfl, h5, o5⟩
        have S5 := (S4.out.told h5 o5).assoc
        have RD := fun (w' : World) (X : Asr) (h : Sg w w' (X.and (Asr.none.and (AI (.slice a5 (waitL s1).length c5) (waitL s1))))) => h.snd.snd.reads
        rw [hm] at RD S5 wl ⊢
        have RD := Lib.hid (fun (w' : World) (X : Asr) (h : Sg w w' (X.and (Asr.none.and (AI (.slice a5 m c5) (waitL s1))))) => (show ∀ (i : Nat) (x : Int), (waitL s1)[i]? = some x → ∃ g o, a5 = some ⟨g, o, none⟩ ∧ w'.cell? ⟨g, o + i, none⟩ = some (.int .i64 x) from by
          obtain ⟨a, cap', e, hc⟩ := RD w' X h
          injection e with e1 _ _
          subst e1
          exact hc))
        have S5 := Lib.hid S5
        have LW := Lib.hid (show (waitW s1).length = m from by rw [← HM.out, waitL_W, List.length_map])
        clear h5 o5 W1 hm S4
        go_wp2_with fail
        go_loopw [7, 8] (fun lt kv wr => ∃ k : Nat, k ≤ m ∧ kv = .int .i64 k ∧ lt = .bool (laterW (waitW s1) k) ∧ Sg w wr ((AT p 30 30 (j + 1) s1).and (Asr.none.and (AI (.slice a5 m c5) (waitL s1))))) (fun _ kv _ => m - (intOf kv).toNat)
        case atStart => exact ⟨0, Nat.zero_le _, rfl, rfl, S5.out⟩
        case round =>
          obtain ⟨k, hk, rfl, rfl, h⟩ := hrel
          have H := Lib.hid h
          clear h S5
          by_cases hlt : k < m
          · obtain ⟨y, hy⟩ : ∃ y, (waitW s1)[k]? = some y := ⟨_, List.getElem?_eq_getElem (by rw [LW.out]; exact hlt)⟩
            have HY := Lib.hid hy
            have yl : (waitL s1)[k]? = some y.k := by rw [waitL_W, List.getElem?_map, hy]; rfl
            obtain ⟨g, o, rfl, c0⟩ := RD.out _ _ H.out k y.k yl
            have RK := Lib.hid (fun (w' : World) (X : Asr) (h : Sg w w' (X.and (Asr.none.and (AI (.slice (some ⟨g, o, none⟩) m c5) (waitL s1))))) (i : Nat) (x : Int) (hx : (waitL s1)[i]? = some x) => (show w'.cell? ⟨g, o + i, none⟩ = some (.int .i64 x) from by
              obtain ⟨g', o', e, hc⟩ := RD.out w' X h i x hx
              injection e with e
              injection e with e1 e2
              subst e1 e2
              exact hc))
            have LK := wait_look FN.out.once hy
            have ST := sg_state y.k H.out.fst (WFS.out y (waitW_mem.1 (List.mem_of_getElem? hy)).1)
            rw [LK.1, LK.2.1, LK.2.2] at ST
            have ST := Lib.hid ST
            have LN := Lib.hid (later_next hy)
            have YL := Lib.hid yl
            obtain ⟨lt, hlt2⟩ : ∃ lt, laterW (waitW s1) k = lt := ⟨_, rfl⟩
            rw [hlt2]
            have OKL := Lib.hid (show lt = true → y.a = true from fun e => later_ok hy (by rw [hlt2]; exact e))
            obtain ⟨ya, hya⟩ : ∃ ya, y.a = ya := ⟨_, rfl⟩
            rw [hya] at ST LN OKL
            clear hy yl LK hlt2 hya
            have t1 : (lt && !ya) = false := by
              cases hl : lt with
              | false => rfl
              | true => rw [OKL.out hl]; rfl
            cases lt with
            | true =>
              have ey := OKL.out rfl
              subst ey
              go_wp2_with fail
              (with_reducible refine ST.out.mono ?_)
              rintro e w6 ⟨rfl, o6⟩
              have S6 := Lib.hid (H.out.still o6)
              clear o6 ST c0
              go_wp2_with fail
              go_loopw [12] (fun iv wr => ∃ i : Nat, i ≤ k ∧ iv = .int .i64 i ∧ Sg w wr ((AT p 30 30 (j + 1) s1).and (Asr.none.and (AI (.slice (some ⟨g, o, none⟩) m c5) (waitL s1))))) (fun iv _ => k - (intOf iv).toNat)
              case atStart => exact ⟨0, Nat.zero_le _, rfl, S6.out⟩
              case round => 
                obtain ⟨i, hi, rfl, h⟩ := hrel
                have H3 := Lib.hid h
                clear h S6
                by_cases hik : i < k
                · obtain ⟨z, hz⟩ : ∃ z, (waitW s1)[i]? = some z := ⟨_, List.getElem?_eq_getElem (by rw [LW.out]; omega)⟩
                  have zl : (waitL s1)[i]? = some z.k := by rw [waitL_W, List.getElem?_map, hz]; rfl
                  have d0 := RK.out _ _ H3.out i z.k zl
                  have d1 := RK.out _ _ H3.out k y.k YL.out
                  have nz : (z.k == y.k) = false := by
                    have := wait_apart FN.out.once hz HY.out hik
                    simpa using this
                  have il : i < m := by omega
                  clear hz zl
                  go_wp2_with fail
                  go_quiet (fail)
                  go_wp2_with fail
                  go_roundw
                  case rel => exact ⟨i + 1, by omega, by go_num, H3.out.still ((Only.refl _ _).drewN _)⟩
                  case measure => simp [intOf]; omega
                · go_wp2_with fail
                  go_roundw
                  case rel => exact ⟨k + 1, by omega, by go_num, by rw [LN.out], H3.out⟩
                  case measure => simp [intOf]; omega
            | false =>
              go_wp2_with fail
              (with_reducible refine ST.out.mono ?_)
              rintro e w6 ⟨rfl, o6⟩
              have S6 := Lib.hid (H.out.still o6)
              clear o6 ST c0
              go_wp2_with fail
              go_loopw [12] (fun iv wr => ∃ i : Nat, i ≤ k ∧ iv = .int .i64 i ∧ Sg w wr ((AT p 30 30 (j + 1) s1).and (Asr.none.and (AI (.slice (some ⟨g, o, none⟩) m c5) (waitL s1))))) (fun iv _ => k - (intOf iv).toNat)
              case atStart => exact ⟨0, Nat.zero_le _, rfl, S6.out⟩
              case round => 
                obtain ⟨i, hi, rfl, h⟩ := hrel
                have H3 := Lib.hid h
                clear h S6
                by_cases hik : i < k
                · obtain ⟨z, hz⟩ : ∃ z, (waitW s1)[i]? = some z := ⟨_, List.getElem?_eq_getElem (by rw [LW.out]; omega)⟩
                  have zl : (waitL s1)[i]? = some z.k := by rw [waitL_W, List.getElem?_map, hz]; rfl
                  have d0 := RK.out _ _ H3.out i z.k zl
                  have d1 := RK.out _ _ H3.out k y.k YL.out
                  have nz : (z.k == y.k) = false := by
                    have := wait_apart FN.out.once hz HY.out hik
                    simpa using this
                  have il : i < m := by omega
                  clear hz zl
                  go_wp2_with fail
                  go_quiet (fail)
                  go_wp2_with fail
                  go_roundw
                  case rel => exact ⟨i + 1, by omega, by go_num, H3.out.still ((Only.refl _ _).drewN _)⟩
                  case measure => simp [intOf]; omega
                · go_wp2_with fail
                  go_roundw
                  case rel => exact ⟨k + 1, by omega, by go_num, by rw [LN.out], H3.out⟩
                  case measure => simp [intOf]; omega
          · go_wp2_with fail
            go_roundw
            case rel => exact ⟨j + 1, s1, by omega, by omega, by go_num, H.out.fst.alone⟩
            case measure => simp [intOf]; omega
    · have W3 := Lib.hid H.out.only.to_below12
      rcases q1 with ⟨q1, q2⟩ | q1
      all_goals
        go_wp2_with fail
        go_ret
        exact ⟨rfl, W3.out⟩



end Go.Proofs.Ytmihinpbgppjlaa.turnRows

/- The runs that have some blocks: the document's own. -/
import Derived.Test.YtobeoknaanbakaaCv
import Derived.Deep.Cut
import Derived.Deep.CutBlock
import Derived.Deep.CutRange
namespace Go.Proofs.Ytobeoknaanbakaa
open Go.RowKit
set_option linter.unusedVariables false

set_option maxHeartbeats 4000000 in
theorem rcover_any (v : Value) (xs : List Int) (most : Int) (w : World) (hv : Reads w v xs) (hx : xs.length ≤ 1000000) :
    Calls Try.prog 11 #[v, .int .i64 most] w fun e w' => ∃ v', e = .returned (.tuple #[v', .int .i64 (coverC xs most)]) ∧ OwnsRuns w' w.heap.size v' (coverL xs most) ∧ Only none_ w w' := by
  have IX := Lib.hid (fun (x : Int) (w' : World) (o : Only none_ w w') => in_q v xs x w' (hv.still o) hx)
  have CA := Lib.hid (fun (h : mayMost most ∧ allB xs) => (And.intro (show coverC xs most = 0 from if_pos h) (show coverL xs most = cov (hasB xs) most 256 from if_pos h)))
  have CN := Lib.hid (fun (h : ¬ (mayMost most ∧ allB xs)) => (And.intro (show coverC xs most = 1 from if_neg h) (show coverL xs most = [] from if_neg h)))
  obtain ⟨i0, hi0, hz0, hz1, hz2⟩ := info_parts info_run8
  have I0 := Lib.hid hi0
  have I1 := Lib.hid hz0
  have I2 := Lib.hid hz1
  have I3 := Lib.hid hz2
  clear hi0 hz0 hz1 hz2
  obtain ⟨A, cap, rfl, hc⟩ := hv
  have H := Lib.hid hc
  generalize coverC xs most = C at *
  generalize coverL xs most = L at *
  clear hc
  by_cases h1 : most < 1
  · obtain ⟨rfl, rfl⟩ := CN.out (fun h => by have := h.1; unfold mayMost at this; omega)
    have t1 : decide (most < 1) = true := decide_eq_true h1
    clear h1
    go_enter Try.func11, Try.ntmps11
    go_wp2_with fail
    exact bodyPost_ret (results_tmp2 rfl _ _ _) rfl ⟨_, rfl, Owns.start _ _ _ _ _, Only.refl _ _⟩
  by_cases h2 : 8 < most
  · obtain ⟨rfl, rfl⟩ := CN.out (fun h => by have := h.1; unfold mayMost at this; omega)
    have t1 : decide (most < 1) = false := decide_eq_false h1
    have t2 : decide (8 < most) = true := decide_eq_true h2
    clear h1 h2
    go_enter Try.func11, Try.ntmps11
    go_wp2_with fail
    exact bodyPost_ret (results_tmp2 rfl _ _ _) rfl ⟨_, rfl, Owns.start _ _ _ _ _, Only.refl _ _⟩
  have t1 : decide (most < 1) = false := decide_eq_false h1
  have t2 : decide (8 < most) = false := decide_eq_false h2
  have HM := Lib.hid (show mayMost most from ⟨by omega, by omega⟩)
  clear h1 h2
  go_enter Try.func11, Try.ntmps11
  go_wp2_with fail
  clear t1 t2
  go_loopw [6] (fun i wr => w = wr ∧ ∃ k : Nat, k ≤ xs.length ∧ i = .int .i64 k ∧ allB (xs.take k)) (fun i _ => xs.length - (intOf i).toNat)
  case atStart => exact ⟨rfl, 0, Nat.zero_le _, rfl, fun x h => by simp at h⟩
  case round =>
    obtain ⟨hw, k, hk, rfl, ha⟩ := hrel
    subst hw
    have HA := Lib.hid ha
    clear ha
    by_cases hlt : k < xs.length
    · obtain ⟨x, hx1⟩ : ∃ x, xs[k]? = some x := ⟨_, List.getElem?_eq_getElem hlt⟩
      obtain ⟨g1, o1, rfl, c1⟩ := H.out k x hx1
      have TM := Lib.hid (take_more hx1)
      have XM := Lib.hid (List.mem_of_getElem? hx1)
      clear hx1
      by_cases q1 : x < 0
      · have t1 : decide (x < 0) = true := decide_eq_true q1
        obtain ⟨rfl, rfl⟩ := CN.out (fun h => by have := h.2 x XM.out; omega)
        clear q1
        go_wp2_with fail
        exact bodyPost_ret (results_tmp2 rfl _ _ _) rfl ⟨_, rfl, Owns.start _ _ _ _ _, Only.refl _ _⟩
      by_cases q2 : 255 < x
      · have t1 : decide (x < 0) = false := decide_eq_false q1
        have t2 : decide (255 < x) = true := decide_eq_true q2
        obtain ⟨rfl, rfl⟩ := CN.out (fun h => by have := h.2 x XM.out; omega)
        clear q1 q2
        go_wp2_with fail
        exact bodyPost_ret (results_tmp2 rfl _ _ _) rfl ⟨_, rfl, Owns.start _ _ _ _ _, Only.refl _ _⟩
      have t1 : decide (x < 0) = false := decide_eq_false q1
      have t2 : decide (255 < x) = false := decide_eq_false q2
      have XR := Lib.hid (show 0 ≤ x ∧ x < 256 from by omega)
      clear q1 q2
      go_wp2_with fail
      go_roundw
      case rel =>
        refine ⟨by trivial, k + 1, by omega, by go_num, ?_⟩
        rw [TM.out]
        intro y hy
        rw [List.mem_append, List.mem_singleton] at hy
        rcases hy with hy | rfl
        · exact HA.out y hy
        · exact XR.out
      case measure => simp [intOf]; omega
    · have hge : xs.length ≤ k := by omega
      have TK := Lib.hid (List.take_of_length_le hge)
      rw [TK.out] at HA
      obtain ⟨rfl, hL⟩ := CA.out ⟨HM.out, HA.out⟩
      have HL := Lib.hid hL
      clear hL CA CN
      go_wp2_with fail
      go_loopw [8, 7] (fun i v wr => ∃ k : Nat, k ≤ 256 ∧ i = .int .i64 k ∧ OwnsRuns wr w.heap.size v (cov (hasB xs) most k) ∧ Fit (hasB xs) most k ∧ Only none_ w wr) (fun i _ _ => 256 - (intOf i).toNat)
      case atStart => exact ⟨0, Nat.zero_le _, rfl, Owns.start _ _ _ _ _, fit_zero _ _, Only.refl _ _⟩
      case round =>
        obtain ⟨a, ha, rfl, hv, hf, ho⟩ := hrel
        have V := Lib.hid hv
        have O := Lib.hid ho
        have FI := Lib.hid hf
        clear hv ho hf
        by_cases hlt : a < 256
        · have t0 : decide ((a : Int) < 256) = true := decide_eq_true (by omega)
          have HK := Lib.hid hlt
          have HB : a ≤ 1000000 := by omega
          have IQ := Lib.hid (fun (j : Nat) (h : a + j < 256) => by
            have q := IX.out ((a : Int) + (j : Int)) wr O.out
            rw [← hasB_in (xs := xs) (show 0 ≤ (a : Int) + (j : Int) by omega) (show (a : Int) + (j : Int) < 256 by omega)] at q
            exact q)
          clear ha hlt
          go_upto_block 4 with fail
          go_cut [9] from 34 to 67 (fun n wx => wr = wx ∧ ∃ j : Nat, n = .int .i64 j ∧ (j : Int) ≤ most ∧ a + j ≤ 256 ∧ (∀ i : Nat, i < j → hasB xs ((a + i : Nat) : Int) = true) ∧ ((j : Int) = most ∨ a + j = 256 ∨ hasB xs ((a + j : Nat) : Int) = false))
          case first =>
            go_wp2_with fail
            go_loopw [9] (fun n wx => wr = wx ∧ ∃ j : Nat, n = .int .i64 j ∧ (j : Int) ≤ most ∧ a + j ≤ 256 ∧ (∀ i : Nat, i < j → hasB xs ((a + i : Nat) : Int) = true)) (fun n _ => 256 - (intOf n).toNat)
            case atStart => exact ⟨rfl, 0, rfl, by have := HM.out.1; omega, by have := HK.out; omega, fun i h => by omega⟩
            case round =>
              obtain ⟨hw, j, rfl, h1, h2, h3⟩ := hrel
              subst hw
              have H1 := Lib.hid h1
              have H2 := Lib.hid h2
              have H3 := Lib.hid h3
              have HJ : j ≤ 1000000 := by omega
              by_cases q1 : (j : Int) < most
              · have t1 : decide ((j : Int) < most) = true := decide_eq_true q1
                by_cases q2 : a + j < 256
                · have t2 : decide ((a : Int) + (j : Int) < 256) = true := decide_eq_true (by omega)
                  have Q1 := Lib.hid q1
                  have Q2 := Lib.hid q2
                  have IR := Lib.hid (IQ.out j q2)
                  clear h1 h2 h3 q1 q2
                  cases qp : hasB xs ((a : Int) + (j : Int)) with
                  | true =>
                    rw [qp] at IR
                    have QP := Lib.hid qp
                    clear qp
                    go_wp2_with fail
                    (with_reducible refine IR.out.mono ?_)
                    rintro e w2 ⟨rfl, rfl⟩
                    go_wp2_with fail
                    go_roundw
                    case rel =>
                      refine ⟨by trivial, j + 1, by go_num, by have := Q1.out; omega, by have := Q2.out; omega, fun i hi => ?_⟩
                      rcases Nat.lt_or_ge i j with c | c
                      · exact H3.out i c
                      · obtain rfl : i = j := by omega
                        exact QP.out
                    case measure => have := Q2.out; simp [intOf]; omega
                  | false =>
                    rw [qp] at IR
                    have QP := Lib.hid qp
                    clear qp
                    go_wp2_with fail
                    (with_reducible refine IR.out.mono ?_)
                    rintro e w2 ⟨rfl, rfl⟩
                    go_wp2_with fail
                    go_meet
                    exact ⟨rfl, j, rfl, H1.out, H2.out, H3.out, .inr (.inr QP.out)⟩
                · have t2 : decide ((a : Int) + (j : Int) < 256) = false := decide_eq_false (by omega)
                  have Q2 := Lib.hid (show a + j = 256 from by omega)
                  clear h1 h2 h3 q1 q2
                  go_wp2_with fail
                  go_meet
                  exact ⟨rfl, j, rfl, H1.out, H2.out, H3.out, .inr (.inl Q2.out)⟩
              · have t1 : decide ((j : Int) < most) = false := decide_eq_false q1
                have Q2 := Lib.hid (show (j : Int) = most from by omega)
                clear h1 h2 h3 q1
                go_wp2_with fail
                go_meet
                exact ⟨rfl, j, rfl, H1.out, H2.out, H3.out, .inl Q2.out⟩
          case rest =>
            obtain ⟨hw, j, rfl, h1, h2, h3, h4⟩ := hcut
            subst hw
            rcases Nat.eq_zero_or_pos j with hj | hj
            · subst hj
              have sk := cov_skip (most := most) (show hasB xs (a : Int) = false from by
                have := HM.out.1
                rcases h4 with h4 | h4 | h4
                · omega
                · have := HK.out; omega
                · exact h4)
              have MORE := Lib.hid sk.1
              have NF := Lib.hid sk.2
              clear sk h1 h2 h3 h4
              go_wp2_with fail
              go_roundw
              case rel => exact ⟨a + 1, HK.out, by go_num, by rw [MORE.out]; exact V.out, NF.out, O.out⟩
              case measure => have := HK.out; simp [intOf]; omega
            · have rn := cov_run FI.out j hj h1 h2 h3
              have NF := Lib.hid (fit_run rn h4)
              have MORE := Lib.hid rn
              have t1 : decide ((0 : Int) < (j : Int)) = true := decide_eq_true (by omega)
              have t3 : decide (0 < j) = true := decide_eq_true hj
              have H2 := Lib.hid h2
              have HJ : j ≤ 1000000 := by omega
              have PJ := Lib.hid hj
              have bl := (cov_bd (hasB xs) most a).2
              have RF := Lib.hid (Row.fresh wr 27 #[.int .i64 (a : Int), .int .i64 (j : Int)])
              have V2 := Lib.hid (V.out.still ((Only.refl none_ wr).alloc (.cells #[.int .i64 (a : Int), .int .i64 (j : Int)] 27)))
              have O2 := Lib.hid (O.out.alloc (.cells #[.int .i64 (a : Int), .int .i64 (j : Int)] 27))
              have sz : w.heap.size ≤ (wr.alloc (.cells #[.int .i64 (a : Int), .int .i64 (j : Int)] 27)).heap.size := O2.out.size
              have l1 := Lib.hid (show (cov (hasB xs) most a).length < 9223372036854775807 from by omega)
              have l2 := Lib.hid (show ((cov (hasB xs) most a).length + 1) * 16 ≤ 140737488355328 from by omega)
              have v1 : IntKind.i64.wrap ((a : Int) + (j : Int) - 1) = (a : Int) + (j : Int) - 1 := by rw [IntKind.wrap_i64]; omega
              clear rn h1 h2 h3 h4 bl
              go_wp2_with (at_builtin; go_loud (refine wpList_append_one rfl (.tmp 58) (.tmp 62) 33 rfl (c := Rn.cells) i0 _ 16 Try.underlying33 I0.out I1.out I2.out I3.out rfl (by decide) rn2 rn_one rfl V2.out (y := ⟨a, j⟩) rfl RF.out l1.out l2.out sz ?_; intro v5 w8 hown5 hO5))
              rw [← MORE.out] at hown5
              have O8 := Lib.hid (O2.out.trans hO5 (fun i hi q => by omega))
              have V8 := Lib.hid hown5
              clear hown5 hO5
              go_wp2_with fail
              go_roundw
              case rel =>
                exact ⟨a + j, H2.out, by rw [Int.natCast_add], V8.out, NF.out, O8.out⟩
              case measure => have := H2.out; have := PJ.out; simp [intOf]; omega
        · have e : a = 256 := by omega
          subst e
          have t0 : decide ((256 : Int) < 256) = false := by decide
          rw [← HL.out] at V
          go_wp2_with fail
          exact bodyPost_ret (results_tmp2 rfl _ _ _) rfl ⟨_, rfl, V.out, O.out⟩
end Go.Proofs.Ytobeoknaanbakaa

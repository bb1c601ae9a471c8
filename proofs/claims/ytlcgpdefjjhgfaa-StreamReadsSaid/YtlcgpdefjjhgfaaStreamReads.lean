/- Proved: the statement StreamReads of layer 10, for every degree, every first block and every row of counts, on no condition. -/
import Derived.Test.YtlcgpdefjjhgfaaRows
import Derived.WalkKit
import Derived.ProofKit
import Derived.OpenShut
import Derived.Below
import Derived.Test.YtlcgpdefjjhgfaaArgs
import Derived.Test.YtlcgpdefjjhgfaaAlone10
import Derived.Lib.MinMax
namespace Go.Proofs.Ytlcgpdefjjhgfaa.streamReads
open Go.ChangeShapes Go.WideShapes Go.ChangeAt Go.RowKit
set_option linter.unusedVariables false

theorem own : ownKnob Try.prog.godebug = none := by kernel_rfl
theorem laidOut : laidOutB Try.prog = true := by kernel_rfl

set_option maxHeartbeats 2000000 in
set_option maxRecDepth 100000 in
theorem walk (w : World) (dg : Int) (wd : (Lit.int .u8 dg).wf = true) (fb : Int) (wf : (Lit.int .u8 fb).wf = true) (A : Option Addr) (len cap : Nat) (xs : List Int) (hmax : len ≤ maxLen) (hlen : xs.length = len) (hold : Holds w A 1 byteC xs) (hx : ∀ a ∈ xs, (0 ≤ a ∧ a ≤ 255)) :
    Calls Try.prog 5 #[.int .u8 dg, .int .u8 fb, .slice A len cap] w fun e w' => e = .returned (.bool true) ∧ Below w.heap.size w w' := by
  unfold maxLen at hmax
  have HL := Lib.hid hlen
  have HO := Lib.hid hold
  clear hlen hold
  obtain ⟨ld, ud⟩ := bd_u8 wd
  obtain ⟨lf, uf⟩ := bd_u8 wf
  clear wd wf
  have HX := Lib.hid hx
  clear hx
  obtain ⟨D, hD, e1, e16⟩ := most_of dg ld
  have NW := Lib.hid (fun w => trk_new4 D w e1 e16)
  have OK := Lib.hid (reads_ok D e1 e16)
  go_enter Try.func5, Try.ntmps5
  go_wp2_with fail
  (with_reducible refine (awake10_any _).mono ?_)
  rintro e w1 ⟨rfl, bl⟩
  have W1 := Lib.hid (below_only8 bl)
  clear bl
  go_wp2_with fail
  (with_reducible refine (NW.out _).mono ?_)
  rintro e w2 ⟨q, rfl, h2⟩
  have H2 := Lib.hid h2
  clear h2 NW hD
  go_wp2_with fail
  go_loopw [9, 10, 11] (fun av ev i wr => ∃ (j : Nat) (tr : Tr) (a e : Int), j ≤ len ∧ j ≤ 60 ∧ i = .int .i64 j ∧ av = .int .i64 a ∧ ev = .int .i64 e ∧ 0 ≤ a ∧ a ≤ 256 ∧ Trk w1 wr q ⟨4, 4, 4, D, 256⟩ tr ∧ Fine10 ⟨4, 4, 4, D, 256⟩ tr ∧ Alone ⟨4, 4, 4, D, 256⟩ tr j a e) (fun _ _ i _ => len - (intOf i).toNat)
  case atStart => exact ⟨0, _, fb, fb, Nat.zero_le _, Nat.zero_le _, rfl, rfl, rfl, lf, by omega, H2.out, new_fine OK.out, .zero_ rfl rfl rfl⟩
  case round =>
    obtain ⟨j, tr, a, e, hj, hj2, rfl, rfl, rfl, a0, a256, h, hf, hal⟩ := hrel
    clear H2
    have H := Lib.hid h
    have HF := Lib.hid hf
    have AL := Lib.hid hal
    have few := hal.few
    have hu9 : tr.uses ≤ 900 := by omega
    have el := hal.end_le (show a ≤ ((256 : Nat) : Int) by omega)
    have el1 := el.1
    have el2 : e ≤ 256 := el.2
    clear h hf hal el
    have t12 : (j < len ∧ j < 60) ∨ (j < len ∧ 60 ≤ j) ∨ len ≤ j := by omega
    rcases t12 with ⟨q1, q2⟩ | q1
    · obtain ⟨x, hact⟩ : ∃ x, xs[j]? = some x := ⟨_, List.getElem?_eq_getElem (by rw [HL.out]; exact q1)⟩
      obtain ⟨x0, x255⟩ := HX.out x (List.mem_of_getElem? hact)
      obtain ⟨sb, so, rfl, hsb, k0⟩ := byte_at HO.out ((W1.out.same H.out.2).to_below8) hact
      obtain ⟨N, hN, n1, n8⟩ := read8 x x0
      clear hact
      by_cases hov : 256 < a + N
      · have d0 : decide (256 < a + N) = true := by simpa using hov
        have RF := Lib.hid (trk_refused (c := ⟨4, 4, 4, D, 256⟩) a N H.out HF.out (by rw [Bool.eq_false_iff]; intro k; have := (mayAcc_iff.1 k).2.2.2; have : a + N ≤ 256 := this; omega))
        clear hov
        go_wp2_with fail
        (with_reducible refine RF.out.mono ?_)
        rintro e w3 ⟨rfl, o3⟩
        have W3 := Lib.hid (W1.out.same (H.out.still o3).2)
        clear o3
        go_wp2_with fail
        go_ret
        exact ⟨rfl, (W3.out.alloc _).to_below8⟩
      · have d0 : decide (256 < a + N) = false := by simpa using hov
        have hm : mayAcc 256 a N = true := mayAcc_iff.2 ⟨n1, n8, a0, by show a + N ≤ 256; omega⟩
        have ON := AL.out.on OK.out HF.out N hm
        have NF := Lib.hid (accS_fine HF.out a N)
        have AC := Lib.hid (trk_acc a N H.out HF.out hu9)
        have hc : accC 256 a N = 0 := by unfold accC; rw [if_pos hm]
        obtain ⟨on1, on2, on3, on4, on5⟩ := ON
        have NA := Lib.hid on5
        generalize hri : accI ⟨4, 4, 4, D, 256⟩ tr a N = ri at *
        generalize hrr : accR ⟨4, 4, 4, D, 256⟩ tr a N = rr at *
        have HRI := Lib.hid hri
        have HRR := Lib.hid hrr
        have HCC := Lib.hid hc
        have aN : a + N ≤ 256 := by omega
        clear hov hm on5 hri hrr hc
        go_wp2_with fail
        (with_reducible refine AC.out.mono ?_)
        rintro e' w3 ⟨ha, h3⟩
        unfold Acc at ha
        rw [HRI.out, HRR.out, HCC.out] at ha
        subst ha
        have h4 := h3.still ((Only.refl none_ w3).alloc (.cells #[.int .i64 ri, .int .i64 rr.f, .int .i64 rr.c] 38))
        have RX := Lib.hid (Row.fresh w3 38 #[.int .i64 ri, .int .i64 rr.f, .int .i64 rr.c])
        have H4 := Lib.hid h4
        clear h3 h4 AC H
        rcases on1 with ⟨j0, i0, r0⟩ | ⟨j1, i1⟩
        · subst j0 i0 r0
          have Q0 := fun w => eq_fd ⟨0, 0, 0⟩ ⟨0, 0, 0⟩ w
          simp only [decide_true] at Q0
          go_wp2_with fail
          go_roundw
          case rel => exact ⟨1, _, a + N, max e (a + N), by omega, by omega, by go_num, rfl, by first | rfl | go_num, by omega, aN, H4.out, NF.out, by simpa using NA.out⟩
          case measure => simp [intOf]; omega
        · subst i1
          have jn : ((j : Int) == 0) = false := by simp; omega
          have jp : decide ((0 : Int) < (j : Int)) = true := by simp; omega
          have jp2 : decide (0 < j) = true := by simp; omega
          obtain ⟨rf, rc⟩ := rr
          dsimp only at on2 on3 on4 NA RX H4 ⊢
          by_cases hc : 0 < rc
          · have dc : decide (0 < rc) = true := by simpa using hc
            have on6 := on4 hc
            subst on6
            clear on4
            go_wp2_with fail
            go_roundw
            case rel => exact ⟨j + 1, _, a + N, max e (a + N) + rc, by omega, by omega, by go_num, rfl, by first | rfl | go_num, by omega, aN, H4.out, NF.out, NA.out⟩
            case measure => simp [intOf]; omega
          · have dc : decide (0 < rc) = false := by simpa using hc
            have rc0 : rc = 0 := by omega
            subst rc0
            clear on4 hc
            go_wp2_with fail
            go_roundw
            case rel => exact ⟨j + 1, _, a + N, max e (a + N) + 0, by omega, by omega, by go_num, rfl, by first | rfl | go_num | simp, by omega, aN, H4.out, NF.out, NA.out⟩
            case measure => simp [intOf]; omega
    · have EX := Lib.hid (trk_expected H.out (by omega))
      have el : tr.es.length ≤ 1 := few.1
      have d1 : decide ((tr.es.length : Int) ≤ 1) = true := by simp; omega
      have d2 : decide (tr.es.length ≤ 1) = true := by simp; omega
      rcases q1 with ⟨q1, q2⟩ | q1
      all_goals
        go_wp2_with fail
        (with_reducible refine EX.out.mono ?_)
        rintro e' w3 ⟨⟨A3, c3, rfl, _, _⟩, o3⟩
        have W3 := Lib.hid ((W1.out.same (H.out.still o3).2).to_below8)
        clear o3
        go_wp2_with fail
        go_ret
        exact ⟨rfl, W3.out⟩


set_option maxRecDepth 100000 in
theorem lifted (os : Os) (started : os.Started) (H : Type) (enc : TypeId × Value → H) :
    ReturnsInHanded {} Try.checked os 5 .any (Rows.streamReadsSpec.pre6 enc Try.prog Try.f5 Rows.streamReadsRow.domain false) (Rows.streamReadsSpec.post enc Try.prog Try.f5 false true false false) := by
  refine returnsInHanded_of_change (C := Try.checked) own started (by kernel_rfl) Try.func5
    (ChangeSpec.witness6 (enc := enc) (C := Try.checked) false ⟨#[], #[.int .u8 0, .int .u8 0, .slice none 0 0], []⟩ 8 (by kernel_rfl) (by kernel_rfl) (by kernel_rfl) (by kernel_rfl)) ?_
  intro W base args ds gs before hval0 hW hcnd _
  have hval : ∀ (j : Nat) t v, Try.f5.params[j]? = some t → args[j]? = some v → Value.okWide Try.prog W .any base t v := hval0
  have hW' := hW
  obtain ⟨p, q, hA0, hV, rfl, hfz, hnd⟩ := hW
  have hA : DataW.TrodAll enc Try.prog W 0 (fun _ => true) true Try.f5.params.toList args.toList ds p := hA0
  rw [Try.params5] at hA hval
  obtain ⟨v0, vs0, d0, ds0, p0, q0, hargs, rfl, rfl, h0, r0⟩ := trodAll_cons hA
  obtain ⟨v1, vs1, d1, ds1, p1, q1, rfl, rfl, rfl, h1, r1⟩ := trodAll_cons r0
  obtain ⟨v2, vs2, d2, ds2, p2, q2, rfl, rfl, rfl, h2, r2⟩ := trodAll_cons r1
  obtain ⟨rfl, rfl, rfl⟩ := trodAll_nil r2
  obtain rfl : args = #[v0, v1, v2] := by cases args; simp_all
  obtain ⟨rfl, rfl⟩ := trodVars_none hV
  obtain ⟨a0, rfl, rfl, rfl, w0⟩ := open_int Try.underlying5 (hval 0 5 v0 rfl rfl) h0
  obtain ⟨a1, rfl, rfl, rfl, w1⟩ := open_int Try.underlying5 (hval 1 5 v1 rfl rfl) h1
  have k2 := h2
  have lt2 : ∀ x ∈ p2, x.block < W.heap.size := by obtain ⟨m, hm⟩ := k2; exact DataW.trod_lt m _ _ _ hm
  obtain ⟨ad2, len2, cap2, rfl⟩ := okWide_slice Try.underlying62 (hval 2 62 v2 rfl rfl)
  obtain ⟨fuel2, hf2⟩ := h2
  obtain ⟨max2, xs2, el2, hold2, wf2⟩ := open_bytes hf2
  have shut : ∀ W', Below W.heap.size W W' → DataW.TrodAll enc Try.prog W' 0 (fun b => decide (b < W.heap.size)) true [5, 5, 62] [.int .u8 a0, .int .u8 a1, .slice ad2 len2 cap2] [.lit (.int .u8 a0), .lit (.int .u8 a1), d2] ([] ++ ([] ++ (p2 ++ []))) := fun W' bel =>
    (trodAll_cons_mk (shut_int Try.underlying5 w0) (trodAll_cons_mk (shut_int Try.underlying5 w1) (trodAll_cons_mk (Below.trod laidOut (by kernel_rfl) (of_decide_eq_true (by kernel_rfl)) k2 bel lt2) trodAll_mk0)))
  clear hA0 hval0
  refine (walk W a0 w0 a1 w1 ad2 len2 cap2 xs2 max2 el2 hold2 wf2).mono fun e W' ⟨he, bel⟩ => ?_
  subst he
  exact ⟨_, rfl, _, _, _, [], _, [], hW', trodAll_mk1 (shut_bool Try.underlying4 _), shut W' bel, rfl, bel.frame _, fun h => by cases h⟩

theorem over : Rows.streamReadsRow.holds Try.pinned (OpenSpec.ofChange Rows.streamReadsSpec) :=
  OpenClaim.holds_of_wide 5 Try.f5 rfl rfl rfl rfl rfl rfl rfl ⟨rfl, rfl, rfl, rfl, rfl⟩ rfl rfl rfl rfl rfl (by kernel_rfl) Try.func5 (by kernel_rfl)
    (of_decide_eq_true (by kernel_rfl)) (by unfold Func.isWrapper; first | (rw [if_pos (by decide +kernel)]; kernel_rfl) | (rw [if_neg (by decide +kernel)]; exact ⟨rfl, rfl⟩))
    (fun os started H enc _ => lifted os started H enc)

theorem streamReads_holds : Rows.StreamReadsSaid := over
#print axioms streamReads_holds
end Go.Proofs.Ytlcgpdefjjhgfaa.streamReads

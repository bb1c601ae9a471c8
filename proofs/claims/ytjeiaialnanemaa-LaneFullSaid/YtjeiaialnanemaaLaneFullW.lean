/- The walk through LaneFull's own text. -/
import Derived.WalkKit
import Derived.ProofKit
import Derived.OpenShut
import Derived.Below
import Derived.Test.YtjeiaialnanemaaArgs
import Derived.Test.YtjeiaialnanemaaLnAwake
import Derived.Test.YtjeiaialnanemaaActs11
import Derived.Test.YtjeiaialnanemaaFull11
import Derived.Deep.RegionHeld3
import Derived.Deep.CutRange
namespace Go.Proofs.Ytjeiaialnanemaa.laneFull
open Go.ChangeShapes Go.WideShapes Go.ChangeAt Go.RowKit
set_option linter.unusedVariables false


set_option maxHeartbeats 2000000 in
set_option maxRecDepth 100000 in
theorem walk (w : World) (rm : Int) (wr0 : (Lit.int .u8 rm).wf = true) (A : Option Addr) (len cap : Nat) (xs : List Int) (hmax : len ≤ maxLen) (hlen : xs.length = len) (hold : Holds w A 1 byteC xs) (wf : ∀ a ∈ xs, 0 ≤ a ∧ a ≤ 255) (pl : Int) (wp0 : (Lit.int .u8 pl).wf = true) :
    Calls Try.prog 6 #[.int .u8 rm, .slice A len cap, .int .u8 pl] w fun e w' => e = .returned (.bool true) ∧ Below w.heap.size w w' := by
  unfold maxLen at hmax
  have HL := Lib.hid hlen
  have HO := Lib.hid hold
  have WF := Lib.hid wf
  clear hlen hold wf
  have S0 := Lib.hid (show Sg w w Asr.none from ⟨⟨fun _ => False, fun _ s => s, fun _ s => s.elim⟩, Only.refl _ _⟩)
  have b0 := bd_u8 wr0
  have b1 := bd_u8 wp0
  clear wr0 wp0
  obtain ⟨N, hN, n1, n128⟩ : ∃ N : Nat, 1 + rm % 128 = (N : Int) ∧ 1 ≤ N ∧ N ≤ 128 := ⟨(1 + rm % 128).toNat, by omega, by omega, by omega⟩
  obtain ⟨K, hK, hKN⟩ : ∃ K : Nat, pl % (N : Int) = (K : Int) ∧ K < N := by
    have h1 := Int.emod_nonneg pl (show (N : Int) ≠ 0 by omega)
    have h2 := Int.emod_lt_of_pos pl (show (0 : Int) < (N : Int) by omega)
    exact ⟨(pl % (N : Int)).toNat, by omega, by omega⟩
  have PB := Lib.hid b1
  have KH := Lib.hid hK
  clear b1 hK
  obtain ⟨i0, hi0, hz0, hz1, hz2⟩ := info_parts info_int8
  have MK := run_make_flat (P := Try.prog) (c := one) 0 one1 (by decide) 43 3 i0 (.int .i64 0) Try.underlying43 hi0 hz0 hz1 rfl .i64 .i64 N (by rw [hz2]; omega) (by omega)
  rw [whC_made xs N] at MK
  clear hi0 hz0 hz1 hz2
  go_enter Try.func6, Try.ntmps6
  go_wp2_with fail
  (with_reducible refine (awake11_any _).mono ?_)
  rintro e w1 ⟨rfl, o⟩
  have S1 := Lib.hid (S0.out.still o)
  clear o S0
  have NW := Lib.hid (show Calls Try.prog 9 #[.int .i64 256, .int .i64 N] w1 _ from sg_new 256 N w _ S1.out (by decide) (by decide) n1 n128)
  go_wp2_with fail
  (with_reducible refine (NW.out).mono ?_)
  rintro e w2 ⟨p, rfl, h, _⟩
  have S2 := Lib.hid (h.fst.fresh 3 (whC xs N 0))
  clear h S1 NW
  go_wp2_with fail
  obtain ⟨bw, hbw⟩ : ∃ bw, w2.heap.size = bw := ⟨_, rfl⟩
  rw [hbw] at S2 ⊢
  clear hbw
  generalize w2.alloc (.cells (whC xs N 0) 3) = w3 at *
  clear MK
  go_loopw [11] (fun i wr => ∃ (j : Nat), j ≤ N ∧ i = .int .i64 j ∧ Sg w wr ((AL p 256 N (fillS xs j)).and (Asr.row bw 3 (whC xs N j)))) (fun i _ => N - (intOf i).toNat)
  case atStart => exact ⟨0, Nat.zero_le _, rfl, S2.out⟩
  case round =>
    obtain ⟨j, hj, rfl, h⟩ := hrel
    clear S2
    have H := Lib.hid h
    clear h
    by_cases hlt : j < N
    · have FP := Lib.hid (fill_push WF.out hlt)
      have wi := wh_in WF.out j
      have wj : IntKind.i64.wrap ((j : Int) + 1) = (j : Int) + 1 := by rw [IntKind.wrap_i64]; omega
      have fl := fill_len xs j
      have fl2 := fill_len xs (j + 1)
      have l1 : (fillS xs j).length ≤ N := by omega
      have eqn : (((j : Int) + 1) != ((j : Int) + 1)) = false := by simp
      have R := Lib.hid H.out.snd.row
      have c0 := R.out.cell j
      rw [whC_at hlt] at c0
      have z0 : wr.frozen? ⟨bw, j, none⟩ = false := R.out.frozen j
      have lw := R.out.lt
      by_cases hx : xs = []
      · have w0 : whI xs j = 0 := by unfold whI; rw [if_pos hx]
        have len0 : len = 0 := by have := HL.out; rw [hx] at this; simpa using this.symm
        have d : decide ((0 : Int) < (len : Int)) = false := by rw [len0]; rfl
        have d2 : decide (0 < len) = false := by rw [len0]; rfl
        clear len0
        rw [w0] at c0
        rw [ite_self] at c0
        have SP := Lib.hid (show Sg w wr ((AL p 256 N (fillS xs j)).and (Asr.row bw 3 (whC xs N (j + 1)))) from by
          have k := H.out
          have e : whC xs N j = whC xs N (j + 1) := by rw [hx]; exact whC_skip
          rw [e] at k
          exact k)
        have PU := sg_push 0 ((j : Int) + 1) SP.out (by decide) l1 (by omega) (wf_i _ (by omega))
        rw [w0] at FP
        rw [FP.out.1, FP.out.2] at PU
        have PU := Lib.hid PU
        clear H R hx
        go_wp2_with fail
        (with_reducible refine (PU.out).mono ?_)
        rintro e w4 ⟨rfl, h4⟩
        have H4 := Lib.hid h4
        have LE := sg_len h4.fst
        rw [fl2] at LE
        have LE := Lib.hid LE
        clear h4 PU SP z0 c0
        go_wp2_with fail
        (with_reducible refine (LE.out).mono ?_)
        rintro e w' ⟨rfl, rfl⟩
        go_wp2_with fail
        go_roundw
        case rel => exact ⟨j + 1, by omega, by go_num, H4.out⟩
        case measure => simp [intOf]; omega
      · have lp : 0 < len := by have := List.length_pos_iff.2 hx; have := HL.out; omega
        have d : decide ((0 : Int) < (len : Int)) = true := by simp; omega
        have d2 : decide (0 < len) = true := by simp; omega
        have hm' : j % len < len := Nat.mod_lt _ lp
        obtain ⟨m, hm⟩ : ∃ m, j % len = m := ⟨_, rfl⟩
        rw [hm] at hm'
        have mm : (j : Int) % (len : Int) = (m : Int) := by omega
        obtain ⟨y, hy⟩ : ∃ y, xs[m]? = some y := ⟨_, List.getElem?_eq_getElem (by rw [HL.out]; exact hm')⟩
        have ew : whI xs j = y := by unfold whI; rw [if_neg hx, HL.out, hm, hy]; rfl
        obtain ⟨sb, so, hA, hsb, ky⟩ := byte_at HO.out H.out.only.to_below11 hy
        subst hA
        clear hm
        have nz : (len : Int) ≠ 0 := by omega
        rw [ew] at wi
        have wy : IntKind.i64.wrap y = y := by rw [IntKind.wrap_i64]; omega
        clear hy
        have SP := Lib.hid (show Sg w (wr.setCell ⟨bw, j, none⟩ (.int .i64 y)) ((AL p 256 N (fillS xs j)).and (Asr.row bw 3 (whC xs N (j + 1)))) from by
          have k := (H.out.swap.put j (.int .i64 y)).swap
          rw [← ew, whC_put hlt] at k
          rw [ew] at k
          exact k)
        have PU := sg_push y ((j : Int) + 1) SP.out (by decide) l1 (by omega) (wf_i _ (by omega))
        rw [ew] at FP
        rw [FP.out.1, FP.out.2] at PU
        have PU := Lib.hid PU
        clear H R
        go_wp2_with fail
        (with_reducible refine (PU.out).mono ?_)
        rintro e w4 ⟨rfl, h4⟩
        have H4 := Lib.hid h4
        have LE := sg_len h4.fst
        rw [fl2] at LE
        have LE := Lib.hid LE
        clear h4 PU SP z0 c0
        go_wp2_with fail
        (with_reducible refine (LE.out).mono ?_)
        rintro e w' ⟨rfl, rfl⟩
        go_wp2_with fail
        go_roundw
        case rel => exact ⟨j + 1, by omega, by go_num, H4.out⟩
        case measure => simp [intOf]; omega
    · have e : N = j := by omega
      subst e
      have hK := KH.out
      have b1 := PB.out
      have wk : IntKind.i64.wrap ((K : Int) + 1) = (K : Int) + 1 := by rw [IntKind.wrap_i64]; omega
      have fl := fill_len xs N
      have ON := Lib.hid H.out.once.1
      have PU := sg_push 3 ((N : Int) + 1) H.out (by decide) (by omega) (by omega) (wf_i _ (by omega))
      rw [(full_push xs N).1, (full_push xs N).2] at PU
      have PU := Lib.hid PU
      go_wp2_with fail
      rw [KH.out]
      clear hK b1
      (with_reducible refine PU.out.mono ?_)
      rintro e w4 ⟨rfl, h4⟩
      have PL := sg_pull ((K : Int) + 1) h4 (by decide) (by omega) (wf_i _ (by omega))
      rw [(full_pull xs ON.out hKN).1, (full_pull xs ON.out hKN).2] at PL
      have PL := Lib.hid PL
      clear PU h4 H
      go_wp2_with fail
      (with_reducible refine (PL.out).mono ?_)
      rintro e w5 ⟨rfl, h5⟩
      have h5 : Sg w w5 ((AL p 256 N (fullA xs N K)).and (Asr.row bw 3 (whC xs N N))) := h5
      have al := fullA_len xs hKN
      have BL := sg_block ((K : Int) + 1) h5.fst (wf_i _ (by omega))
      rw [full_gone xs ON.out] at BL
      generalize blockI (fullA xs N K) ((K : Int) + 1) = bk at BL
      have BL := Lib.hid BL
      have PU := sg_push 3 ((N : Int) + 1) h5 (by decide) (by omega) (by omega) (wf_i _ (by omega))
      rw [(full_again xs ON.out hKN).1, (full_again xs ON.out hKN).2] at PU
      have PU := Lib.hid PU
      clear PL h5
      go_wp2_with fail
      (with_reducible refine (BL.out).mono ?_)
      rintro e w' ⟨rfl, rfl⟩
      go_wp2_with fail
      (with_reducible refine (PU.out).mono ?_)
      rintro e w6 ⟨rfl, h6⟩
      have ob := h6.once.1
      have BL := sg_block ((N : Int) + 1) h6.fst (wf_i _ (by omega))
      rw [(full_at xs ob).1, (full_at xs ob).2] at BL
      have BL := Lib.hid BL
      have LE := sg_len h6.fst
      rw [fullB_len xs hKN] at LE
      have LE := Lib.hid LE
      have PU := sg_push 3 ((N : Int) + 2) h6 (by decide) (by rw [fullB_len xs hKN]; omega) (by omega) (wf_i _ (by omega))
      rw [full_last xs ON.out hKN] at PU
      have PU := Lib.hid PU
      have c0 := h6.snd.row.cell K
      rw [whC_at hKN, if_pos hKN] at c0
      have eqw : (whI xs K == whI xs K) = true := by simp
      have eqn : ((N : Int) == (N : Int)) = true := by simp
      clear h6 ob
      go_wp2_with fail
      (with_reducible refine (BL.out).mono ?_)
      rintro e w' ⟨rfl, rfl⟩
      go_wp2_with fail
      (with_reducible refine (LE.out).mono ?_)
      rintro e w' ⟨rfl, rfl⟩
      go_wp2_with fail
      (with_reducible refine (PU.out).mono ?_)
      rintro e w7 ⟨rfl, h7⟩
      have H7 := Lib.hid h7.only.to_below11
      clear h7
      go_wp2_with fail
      go_ret
      exact ⟨rfl, H7.out⟩



end Go.Proofs.Ytjeiaialnanemaa.laneFull

/- The document's own policy: Ready, Gone, Miss_, the counts weighed. -/
import Derived.Test.YtpmhpamajkhhiaaRscC
namespace Go.Proofs.Ytpmhpamajkhhiaa
open Go.RowKit
set_option linter.unusedVariables false

set_option maxRecDepth 100000 in
set_option maxHeartbeats 400000 in
theorem ready_ref (r q hb : Nat) (ro : Nat → Prop) (c : Sc) (i : Int) (w : World) (h : RSc w r q hb ro c) :
    Calls Try.prog 30 #[.pointer (some ⟨r, 0, none⟩), .int .i64 i] w fun e w' => e = .returned (.int .i64 (c.readyC i)) ∧ RSc w' r q hb ro (c.readyS i) ∧ Only (rset r q hb ro) w w' := by
  have H := Lib.hid h
  have HM := smay_ref r q hb ro c i 0 w h.raw
  rw [show hasL 0 = true from by decide, Bool.and_true] at HM
  cases em : hasN c.s.n i with
  | false =>
    have e1 : c.readyC i = 1 := by unfold Sc.readyC; rw [em]; rfl
    have e2 : c.readyS i = c := by unfold Sc.readyS; rw [if_neg (by rw [e1]; decide)]
    rw [e1, e2]
    rw [em] at HM
    replace HM := Lib.hid HM
    clear h em e1 e2
    go_enter Try.func30, Try.ntmps30
    go_wp2_with fail
    (with_reducible refine (HM.out).mono ?_)
    rintro e w' ⟨rfl, rfl⟩
    go_wp2
    go_ret
    exact ⟨rfl, H.out, Only.refl _ _⟩
  | true =>
    rw [em] at HM
    replace HM := Lib.hid HM
    obtain ⟨j, rfl, hj⟩ := hasN_nat em
    have HI := sin_ref r q hb ro c j w h.raw hj
    by_cases ql : c.s.lst j = -1
    · have e1 : c.readyC j = 3 := by unfold Sc.readyC; rw [em, Int.toNat_natCast, if_pos rfl, if_pos ql]
      have e2 : c.readyS j = c := by unfold Sc.readyS; rw [if_neg (by rw [e1]; decide)]
      rw [show c.s.liesB j = false from by unfold Sh.liesB; simp [ql]] at HI
      rw [e1, e2]
      replace HI := Lib.hid HI
      clear h em e1 e2 ql
      go_enter Try.func30, Try.ntmps30
      go_wp2_with fail
      (with_reducible refine (HM.out).mono ?_)
      rintro e w' ⟨rfl, rfl⟩
      go_wp2_with fail
      (with_reducible refine (HI.out).mono ?_)
      rintro e w1 ⟨rfl, o1⟩
      have O1 := Lib.hid o1
      clear o1
      go_wp2
      go_ret
      exact ⟨rfl, H.out.still O1.out, O1.out.up⟩
    · rw [show c.s.liesB j = true from by unfold Sh.liesB; simp [ql]] at HI
      replace HI := Lib.hid HI
      have n64 := h.fine.s.n64
      have bj : (j : Int) < (c.s.n : Int) := by omega
      cases eh : c.s.h j with
      | false =>
        have e1 : c.readyC j = 5 := by unfold Sc.readyC; rw [em, Int.toNat_natCast, if_pos rfl, if_neg ql, eh]; rfl
        have e2 : c.readyS j = c := by unfold Sc.readyS; rw [if_neg (by rw [e1]; decide)]
        rw [e1, e2]
        have MK := Lib.hid (fun w' (o : Only none_ w w') => (h.raw.still o).mark hj)
        rw [eh] at MK
        clear h em e1 e2 ql eh
        go_enter Try.func30, Try.ntmps30
        go_wp2_with fail
        (with_reducible refine (HM.out).mono ?_)
        rintro e w' ⟨rfl, rfl⟩
        go_wp2_with fail
        (with_reducible refine (HI.out).mono ?_)
        rintro e w1 ⟨rfl, o1⟩
        have O1 := Lib.hid o1
        have R1 := Lib.hid (H.out.still o1)
        have c0 := R1.out.raw.r0
        have q4 := R1.out.raw.q4
        have mk := MK.out _ o1
        clear o1 MK
        go_wp2
        go_ret
        exact ⟨rfl, R1.out, O1.out.up⟩
      | true =>
        have e1 : c.readyC j = 0 := by unfold Sc.readyC; rw [em, Int.toNat_natCast, if_pos rfl, if_neg ql, eh]; rfl
        have e2 : c.readyS j = ⟨c.s.hold j false, c.us, c.want, c.miss, c.hits⟩ := by unfold Sc.readyS; rw [if_pos e1, Int.toNat_natCast]
        have FE := h.fine.readyS j
        rw [e2] at FE
        rw [e1, e2]
        replace FE := Lib.hid FE
        have MK := Lib.hid (fun w' (o : Only none_ w w') => (h.raw.still o).mark hj)
        rw [eh] at MK
        have LC := Lib.hid (show c.s.liesC j = 0 ∧ c.s.holdS j false = c.s.hold j false from by
          have h1 : c.s.liesC j = 0 := by
            unfold Sh.liesC
            rw [em, if_pos rfl, Int.toNat_natCast, if_neg ql]
          refine ⟨h1, ?_⟩
          unfold Sh.holdS
          rw [if_pos h1, Int.toNat_natCast])
        clear h em e1 e2 ql eh
        go_enter Try.func30, Try.ntmps30
        go_wp2_with fail
        (with_reducible refine (HM.out).mono ?_)
        rintro e w' ⟨rfl, rfl⟩
        go_wp2_with fail
        (with_reducible refine (HI.out).mono ?_)
        rintro e w1 ⟨rfl, o1⟩
        have O1 := Lib.hid o1
        have R1 := Lib.hid (H.out.still o1)
        have c0 := R1.out.raw.r0
        have q4 := R1.out.raw.q4
        have mk := MK.out _ o1
        obtain ⟨⟨vu, rw_, ou, s⟩, a1, a2, a3, a4, a5, a6⟩ := R1.out.raw
        have RW := Lib.hid rw_
        have OU := Lib.hid ou
        have HD := hold_ref q hb _ c.s j false w1 s
        rw [LC.out.1, LC.out.2] at HD
        replace HD := Lib.hid HD
        clear o1 MK rw_ ou s
        go_wp2_with fail
        (with_reducible refine (HD.out).mono ?_)
        rintro e w2 ⟨rfl, s2, o2⟩
        have R2 := Lib.hid (rraw_turn RW.out OU.out s2 o2 a1 a2 a3 a4 a5 a6)
        have O2 := Lib.hid (O1.out.then_ o2.qh (S := rset r q hb ro))
        clear s2 o2 HD c0 q4 mk
        go_wp2
        go_ret
        exact ⟨rfl, ⟨R2.out, FE.out⟩, O2.out⟩

set_option maxHeartbeats 400000 in
theorem gone_ref (r q hb : Nat) (ro : Nat → Prop) (c : Sc) (i : Int) (w : World) (h : RSc w r q hb ro c) :
    Calls Try.prog 33 #[.pointer (some ⟨r, 0, none⟩), .int .i64 i] w fun e w' => e = .returned (.int .i64 (c.s.liesC i)) ∧ RSc w' r q hb ro (c.goneS i) ∧ Only (rset r q hb ro) w w' := by
  have H := Lib.hid h
  have c0 := h.raw.r0
  have FE := Lib.hid (h.fine.goneS i)
  obtain ⟨⟨vu, rw_, ou, s⟩, a1, a2, a3, a4, a5, a6⟩ := h.raw
  have RW := Lib.hid rw_
  have OU := Lib.hid ou
  have HD := Lib.hid (drop_ref q hb _ c.s i w s)
  clear h rw_ ou s
  go_enter Try.func33, Try.ntmps33
  go_wp2_with fail
  (with_reducible refine (HD.out).mono ?_)
  rintro e w2 ⟨rfl, s2, o2⟩
  have R2 := Lib.hid (rraw_turn RW.out OU.out s2 o2 a1 a2 a3 a4 a5 a6)
  have O2 := Lib.hid (o2.qh (r := r) (ro := ro))
  clear s2 o2 HD c0
  go_wp2
  go_ret
  exact ⟨rfl, ⟨R2.out, FE.out⟩, O2.out⟩
end Go.Proofs.Ytpmhpamajkhhiaa

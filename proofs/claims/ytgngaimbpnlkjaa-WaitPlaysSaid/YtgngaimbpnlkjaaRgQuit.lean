/- The document's own register: a request quits. -/
import Derived.Test.YtgngaimbpnlkjaaRgPut2
namespace Go.Proofs.Ytgngaimbpnlkjaa
open Go.RowKit
set_option linter.unusedVariables false

set_option maxHeartbeats 2000000 in
theorem rquit14_any {q : Nat} {v : Value} {M : Nat → Prop} {room : Nat} {ss : List Sx} (r : Int) (w : World) (h : RG w q v M room ss) (hl : ss.length ≤ 1000) :
    Calls Try.prog 18 #[.pointer (some ⟨q, 0, none⟩), .int .i64 r] w fun e w' => ∃ v', e = .returned v' ∧ OwnsInts w' w.heap.size v' (quitI ss r) ∧ RGto w q M room (leftR ss r) w' := by
  have H := Lib.hid h
  obtain ⟨A, cap, rfl, ha⟩ := h.own.form
  have HA := Lib.hid ha
  have KC := Lib.hid (fun w' (o : Only none_ w w') => (show w'.cell? ⟨q, 1, none⟩ = some (.slice A ss.length cap) ∧ w'.frozen? ⟨q, 1, none⟩ = false from ⟨by rw [(o.still h.row).cell]; rfl, (o.still h.row).frozen 1⟩))
  have QL := Lib.hid h.row.lt
  obtain ⟨i0, hi0, hz0, hz1, hz2⟩ := info_parts info_sx
  have I0 := Lib.hid hi0
  have I1 := Lib.hid hz0
  have I2 := Lib.hid hz1
  have I3 := Lib.hid hz2
  clear h ha hi0 hz0 hz1 hz2
  go_enter Try.func18, Try.ntmps18
  go_wp2_with fail
  go_loopw [5, 6, 7] (fun vo vl i wr => ∃ (k : Nat), k ≤ ss.length ∧ i = .int .i64 k ∧ OwnsInts wr w.heap.size vo (quitI (ss.take k) r) ∧ Owns wr w.heap.size 58 3 Sx.cells vl (leftR (ss.take k) r) ∧ (∀ g, vo.ownBlock = some g → vl.ownBlock ≠ some g) ∧ Only none_ w wr) (fun _ _ i _ => ss.length - (intOf i).toNat)
  case atStart => exact ⟨0, Nat.zero_le _, rfl, Owns.start _ _ _ _ _, Owns.start _ _ _ _ _, fun g hg => (by cases hg), Only.refl _ _⟩
  case round =>
    obtain ⟨k, hk, rfl, hP, hV, hap, hO⟩ := hrel
    have HO := Lib.hid hO
    have HW := Lib.hid hV
    have HP := Lib.hid hP
    have AP := Lib.hid hap
    obtain ⟨s0, s1⟩ := KC.out _ hO
    clear hO hV hP hap
    by_cases hlt : k < ss.length
    · obtain ⟨y, hy⟩ : ∃ y, ss[k]? = some y := ⟨_, List.getElem?_eq_getElem hlt⟩
      obtain ⟨g1, o1, rfl, lt1, cy⟩ := HA.out k y hy
      have c0 : wr.cell? ⟨g1, o1 + k * 3, none⟩ = some (.int .i64 y.t) := HO.out.cell (cy 0 _ rfl) (fun s => s)
      have c1 : wr.cell? ⟨g1, o1 + k * 3 + 1, none⟩ = some (.int .i64 y.w.r) := HO.out.cell (cy 1 _ rfl) (fun s => s)
      have c2 : wr.cell? ⟨g1, o1 + k * 3 + 1 + 1, none⟩ = some (.int .i64 y.w.p) := HO.out.cell (cy 2 _ rfl) (fun s => s)
      have c3 : wr.cell? ⟨g1, o1 + k * 3 + 2, none⟩ = some (.int .i64 y.w.p) := c2
      have TM := Lib.hid (sxtake hy)
      have ln2 : (ss.take k).length ≤ 1000 := by rw [List.length_take]; omega
      clear hy cy
      by_cases e : y.w.r = r
      · have tt : (y.w.r != r) = false := by simp [e]
        have MO := Lib.hid (show quitI (ss.take (k + 1)) r = putI (quitI (ss.take k) r) y.t from by rw [TM.out, quit_yes e])
        have ML := Lib.hid (show leftR (ss.take (k + 1)) r = leftR (ss.take k) r from by rw [TM.out, leftR_no e])
        have PU := Lib.hid (rput14_any w.heap.size u5 (quitI (ss.take k) r) y.t wr HP.out HO.out.size (by have := quit_le (ss.take k) r; omega))
        clear e ln2
        go_wp2_with fail
        (with_reducible refine PU.out.mono ?_)
        rintro e w5 ⟨v5, rfl, hown5, hnew, o5⟩
        rw [← MO.out] at hown5
        have W5 := Lib.hid hown5
        have HW5 := Lib.hid (HW.out.still o5)
        have HO5 := Lib.hid (HO.out.same o5)
        have AP5 := Lib.hid (show ∀ g, v5.ownBlock = some g → u6.ownBlock ≠ some g from by
          rcases hnew with rfl | hn
          · exact AP.out
          · intro g hg hg2
            have := hn g hg
            have := (HW.out.base_le hg2).2
            omega)
        clear hown5 hnew o5
        go_wp2_with fail
        go_roundw
        case rel => exact ⟨k + 1, by omega, by go_num, W5.out, by rw [ML.out]; exact HW5.out, AP5.out, HO5.out⟩
        case measure => simp [intOf]; omega
      · have tt : (y.w.r != r) = true := by simp [e]
        have MO := Lib.hid (show quitI (ss.take (k + 1)) r = quitI (ss.take k) r from by rw [TM.out, quit_no e])
        have ML := Lib.hid (show leftR (ss.take (k + 1)) r = leftR (ss.take k) r ++ [y] from by rw [TM.out, leftR_yes e])
        have RF := Lib.hid (Row.fresh wr 58 #[.int .i64 y.t, .int .i64 y.w.r, .int .i64 y.w.p])
        have OA := Lib.hid ((Only.refl none_ wr).alloc (.cells #[.int .i64 y.t, .int .i64 y.w.r, .int .i64 y.w.p] 58))
        have HW2 := Lib.hid (HW.out.still OA.out)
        have HP2 := Lib.hid (HP.out.still OA.out)
        have HO2 := Lib.hid (HO.out.same OA.out)
        have SR := Lib.hid (show Src (wr.alloc (.cells #[.int .i64 y.t, .int .i64 y.w.r, .int .i64 y.w.p] 58)) (.slice (some ⟨wr.heap.size, 0, none⟩) 1 1) 1 (Sx.cells y) from .inr ⟨_, _, rfl, fun j u hj => by rw [add14, Nat.zero_add, RF.out.cell, List.getElem?_toArray]; exact hj⟩)
        have sz : w.heap.size ≤ (wr.alloc (.cells #[.int .i64 y.t, .int .i64 y.w.r, .int .i64 y.w.p] 58)).heap.size := HO2.out.size
        have ln := leftR_le (ss.take k) r
        have l1 := Lib.hid (show (leftR (ss.take k) r).length + 1 ≤ maxLen from by unfold maxLen; omega)
        have l2 := Lib.hid (show ((leftR (ss.take k) r).length + 1) * 24 ≤ 140737488355328 from by omega)
        clear e ln ln2
        go_wp2_with (at_builtin; go_loud (refine wpList_append_src _ rfl (.tmp 28) (.tmp 36) 43 rfl w.heap.size 58 i0 _ 3 24 Try.underlying43 I0.out I1.out I2.out I3.out rfl (by decide) _ (leftR (ss.take k) r).length _ rfl HW2.out _ 1 (Sx.cells y) rfl SR.out rfl (sx_one y) l1.out l2.out sz ?_; intro v5 w5 hown5 hgr5 hbl5))
        have W5 := Lib.hid (show Owns w5 w.heap.size 58 3 Sx.cells v5 (leftR (ss.take (k + 1)) r) from by
          rw [ML.out]
          unfold Owns
          rw [List.flatMap_append, List.length_append]
          simpa using hown5)
        have HO5 := Lib.hid (HO2.out.trans (Only.of_grown hgr5) (fun i hi q => by have := (HW2.out.base_le q.symm).1; omega))
        have HP5 := Lib.hid (HP2.out.keep (Only.of_grown hgr5) (fun g hg hg2 => AP.out g hg hg2.symm))
        have AP5 := Lib.hid (show ∀ g, u5.ownBlock = some g → v5.ownBlock ≠ some g from fun g hg hg2 => by
          rcases hbl5 with z | z
          · rw [z] at hg2; exact AP.out g hg hg2
          · rw [z] at hg2
            injection hg2 with hg2
            have := (HP2.out.base_le hg).2
            omega)
        clear hown5 hgr5 hbl5
        go_wp2_with fail
        go_roundw
        case rel => exact ⟨k + 1, by omega, by go_num, by rw [MO.out]; exact HP5.out, W5.out, AP5.out, HO5.out⟩
        case measure => simp [intOf]; omega
    · have hge : ss.length ≤ k := by omega
      have TK := Lib.hid (List.take_of_length_le hge)
      rw [TK.out] at HW HP
      obtain ⟨a6, n6, k6, rfl⟩ := own_form14 HW.out
      go_wp2_with fail
      go_ret
      refine ⟨_, rfl, ?_, ?_⟩
      · refine HP.out.keep ((Only.refl (fun j => j = q) _).into rfl 1 _) (fun g hg e => ?_)
        have := (HP.out.base_le hg).1
        have := QL.out
        omega
      · exact H.out.other HO.out HW.out
end Go.Proofs.Ytgngaimbpnlkjaa

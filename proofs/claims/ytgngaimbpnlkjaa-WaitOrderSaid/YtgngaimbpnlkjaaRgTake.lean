/- The document's own register: who waits for a ticket is taken. -/
import Derived.Test.YtgngaimbpnlkjaaRgOf
namespace Go.Proofs.Ytgngaimbpnlkjaa
open Go.RowKit
set_option linter.unusedVariables false

theorem RGto.from_ {w w1 w' : World} {q : Nat} {M : Nat → Prop} {room : Nat} {ss : List Sx} (h : RGto w1 q M room ss w') (o : Only none_ w w1) : RGto w q M room ss w' :=
  ⟨h.1.imp (fun v h => h.imp (fun M' h => ⟨h.1, fun g hg => (h.2 g hg).imp id (Nat.le_trans o.size)⟩)), o.then_ h.2⟩
theorem own_form14 {α : Type} {w : World} {base : Nat} {e : TypeId} {k : Nat} {c : α → List Value} {v : Value} {es : List α} (h : Owns w base e k c v es) : ∃ a n cap, v = .slice a n cap := by
  rcases h.2 with ⟨h0, _⟩ | ⟨g, cap, cur, hv, _⟩
  · exact ⟨none, 0, 0, h0⟩
  · exact ⟨_, _, _, hv⟩
set_option maxHeartbeats 1000000 in
theorem rtake14_any {q : Nat} {v : Value} {M : Nat → Prop} {room : Nat} {ss : List Sx} (t : Int) (w : World) (h : RG w q v M room ss) (hl : ss.length ≤ 1000) :
    Calls Try.prog 15 #[.pointer (some ⟨q, 0, none⟩), .int .i64 t] w fun e w' => ∃ v', e = .returned v' ∧ OwnsWt w' w.heap.size v' (ofL ss t) ∧ RGto w q M room (leftT ss t) w' := by
  have OF := Lib.hid (rof_any t w h hl)
  have H := Lib.hid h
  obtain ⟨A, cap, rfl, ha⟩ := h.own.form
  have HA := Lib.hid ha
  have KC := Lib.hid (fun w' (o : Only none_ w w') => (show w'.cell? ⟨q, 1, none⟩ = some (.slice A ss.length cap) ∧ w'.frozen? ⟨q, 1, none⟩ = false from ⟨by rw [(o.still h.row).cell]; rfl, (o.still h.row).frozen 1⟩))
  have QL := Lib.hid h.row.lt
  obtain ⟨i0, hi0, hz0, hz1, hz2⟩ := info_parts info_sx
  have I0 := Lib.hid hi0
  have I1 := Lib.hid hz0
  have I2 := Lib.hid hz1
  have I3 := Lib.hid hz2
  clear h ha hi0 hz0 hz1 hz2
  go_enter Try.func15, Try.ntmps15
  go_wp2_with fail
  (with_reducible refine OF.out.mono ?_)
  rintro e w1 ⟨vo, rfl, hv, o⟩
  have O1 := Lib.hid o
  have VO := Lib.hid hv
  clear hv o OF
  go_wp2_with fail
  go_loopw [6, 7] (fun v i wr => ∃ (k : Nat), k ≤ ss.length ∧ i = .int .i64 k ∧ Owns wr w1.heap.size 58 3 Sx.cells v (leftT (ss.take k) t) ∧ Only none_ w1 wr) (fun _ i _ => ss.length - (intOf i).toNat)
  case atStart => exact ⟨0, Nat.zero_le _, rfl, Owns.start _ _ _ _ _, Only.refl _ _⟩
  case round =>
    obtain ⟨k, hk, rfl, hV, hO⟩ := hrel
    have HO := Lib.hid hO
    have HW := Lib.hid hV
    obtain ⟨s0, s1⟩ := KC.out _ (O1.out.same hO)
    clear hO hV
    by_cases hlt : k < ss.length
    · obtain ⟨y, hy⟩ : ∃ y, ss[k]? = some y := ⟨_, List.getElem?_eq_getElem hlt⟩
      obtain ⟨g1, o1, rfl, lt1, cy⟩ := HA.out k y hy
      have HQ := Lib.hid (O1.out.same HO.out)
      have c0 : wr.cell? ⟨g1, o1 + k * 3, none⟩ = some (.int .i64 y.t) := HQ.out.cell (cy 0 _ rfl) (fun s => s)
      have c1 : wr.cell? ⟨g1, o1 + k * 3 + 1, none⟩ = some (.int .i64 y.w.r) := HQ.out.cell (cy 1 _ rfl) (fun s => s)
      have c2 : wr.cell? ⟨g1, o1 + k * 3 + 1 + 1, none⟩ = some (.int .i64 y.w.p) := HQ.out.cell (cy 2 _ rfl) (fun s => s)
      have c3 : wr.cell? ⟨g1, o1 + k * 3 + 2, none⟩ = some (.int .i64 y.w.p) := c2
      have TM := Lib.hid (sxtake hy)
      clear hy cy
      by_cases e : y.t = t
      · have tt : (y.t != t) = false := by simp [e]
        have MORE := Lib.hid (show leftT (ss.take (k + 1)) t = leftT (ss.take k) t from by rw [TM.out, leftT_no e])
        clear e
        go_wp2_with fail
        go_roundw
        case rel => exact ⟨k + 1, by omega, by go_num, by rw [MORE.out]; exact HW.out, HO.out⟩
        case measure => simp [intOf]; omega
      · have tt : (y.t != t) = true := by simp [e]
        have MORE := Lib.hid (show leftT (ss.take (k + 1)) t = leftT (ss.take k) t ++ [y] from by rw [TM.out, leftT_yes e])
        have RF := Lib.hid (Row.fresh wr 58 #[.int .i64 y.t, .int .i64 y.w.r, .int .i64 y.w.p])
        have HW2 := Lib.hid (HW.out.still ((Only.refl none_ wr).alloc (.cells #[.int .i64 y.t, .int .i64 y.w.r, .int .i64 y.w.p] 58)))
        have HO2 := Lib.hid (HO.out.idle ((Only.refl none_ wr).alloc (.cells #[.int .i64 y.t, .int .i64 y.w.r, .int .i64 y.w.p] 58)))
        have sz : w1.heap.size ≤ (wr.alloc (.cells #[.int .i64 y.t, .int .i64 y.w.r, .int .i64 y.w.p] 58)).heap.size := HO2.out.size
        have ln := leftT_le (ss.take k) t
        have ln2 : (ss.take k).length ≤ 1000 := by rw [List.length_take]; omega
        have l1 := Lib.hid (show (leftT (ss.take k) t).length < 9223372036854775807 from by omega)
        have l2 := Lib.hid (show ((leftT (ss.take k) t).length + 1) * 24 ≤ 140737488355328 from by omega)
        clear e ln ln2
        go_wp2_with (at_builtin; go_loud (refine wpList_append_one rfl (.tmp 30) (.tmp 38) 43 rfl (c := Sx.cells) i0 _ 24 Try.underlying43 I0.out I1.out I2.out I3.out rfl (by decide) sx3 sx_one rfl HW2.out (y := y) rfl RF.out l1.out l2.out sz ?_; intro v5 w5 hown5 hO5))
        rw [← MORE.out] at hown5
        have HO5 := Lib.hid (HO2.out.trans hO5 (fun i hi q => by omega))
        have W5 := Lib.hid hown5
        clear hown5 hO5
        go_wp2_with fail
        go_roundw
        case rel => exact ⟨k + 1, by omega, by go_num, W5.out, HO5.out⟩
        case measure => simp [intOf]; omega
    · have hge : ss.length ≤ k := by omega
      have TK := Lib.hid (List.take_of_length_le hge)
      rw [TK.out] at HW
      obtain ⟨a6, n6, k6, rfl⟩ := own_form14 HW.out
      go_wp2_with fail
      go_ret
      refine ⟨_, rfl, ?_, ?_⟩
      · refine (VO.out.still HO.out).keep ((Only.refl (fun j => j = q) _).into rfl 1 _) (fun g hg e => ?_)
        have := (VO.out.base_le hg).1
        have := QL.out
        omega
      · exact RGto.from_ ((H.out.still O1.out).other HO.out HW.out) O1.out
end Go.Proofs.Ytgngaimbpnlkjaa

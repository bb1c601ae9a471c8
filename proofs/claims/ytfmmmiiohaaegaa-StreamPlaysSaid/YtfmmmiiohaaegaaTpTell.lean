/- A table of what is expected: all entries are told, the youngest first. -/
import Derived.Test.YtfmmmiiohaaegaaTpList
namespace Go.Proofs.Ytfmmmiiohaaegaa
open Go.RowKit Go.Maps Go.Sort Go.Shelf
set_option linter.unusedVariables false

set_option maxHeartbeats 2000000 in
theorem list_any (p b L size life : Nat) (es : List En) (w : World) (h : Tb w p b L size life es) (hL : L < 1000000) :
    Calls Try.prog 39 #[.pointer (some ⟨p, 0, none⟩)] w (Told8 es w) := by
  have F1 := Lib.hid h.fine
  have H := Lib.hid h
  obtain ⟨lp, lb⟩ := h.lt
  obtain ⟨r, ⟨D0, hown, hr0⟩, f⟩ := h
  have len32 : es.length ≤ 32 := Nat.le_trans f.few f.s32
  have c3 : w.cell? ⟨p, 3, none⟩ = some (.map (some b)) := by rw [r.cell]; rfl
  have LEN : ∀ ty, (Builtin.len_ #[86] ty #[.map (some b)]).run Try.prog w = .ok (.int .i64 es.length) w := fun ty => by
    have := hown.len Try.underlying86 ty
    rw [hr0.size hown f.apart] at this
    exact this
  obtain ⟨i0, hi0, hz0, hz1, hz2⟩ := info_parts info_en
  have MK := run_make w 50 83 i0 (.agg #[.int .i64 0, .int .i64 0]) Try.underlying50 hi0 hz0 .i64 .i64 0 (es.length : Nat) (by omega) (by omega) (by rw [hz2]; omega) (by omega)
  have MO := World.ownsRow_made (base := w.heap.size) (e := 83) (size := 2) w (madeCells (Value.cells (.agg #[.int .i64 0, .int .i64 0])) ((es.length : Int).toNat * i0.size)) es.length (Nat.le_refl _) (by unfold maxLen; omega) (by rw [size_madeCells, hz1]; simp)
  simp only [Int.toNat_natCast, Int.toNat_zero] at MK MO
  have I0 := Lib.hid hi0
  have I1 := Lib.hid hz0
  have I2 := Lib.hid hz1
  have I3 := Lib.hid hz2
  have o1 := (Only.refl none_ w).alloc (.cells (madeCells (Value.cells (.agg #[.int .i64 0, .int .i64 0])) (es.length * i0.size)) 83)
  have OW := Lib.hid (owns_keep hown o1 (fun s => s))
  have R1 := Lib.hid (o1.still r)
  have O1 := Lib.hid o1
  have HR0 := Lib.hid hr0
  have MO1 := Lib.hid MO
  have c3' : (w.alloc (.cells (madeCells (Value.cells (.agg #[.int .i64 0, .int .i64 0])) (es.length * i0.size)) 83)).cell? ⟨p, 3, none⟩ = some (.map (some b)) := by rw [R1.out.cell]; rfl
  have SZ := Lib.hid (show (w.alloc (.cells (madeCells (Value.cells (.agg #[.int .i64 0, .int .i64 0])) (es.length * i0.size)) 83)).heap.size = w.heap.size + 1 by simp)
  clear r hown hr0 f hi0 hz0 hz1 hz2 MO o1
  generalize hW : w.alloc (.cells (madeCells (Value.cells (.agg #[.int .i64 0, .int .i64 0])) (es.length * i0.size)) 83) = W at *
  go_enter Try.func39, Try.ntmps39
  go_wp2_with (first
    | (at_range; refine wpList_range_own _ rfl _ 86 rfl 3 3 lawI Try.underlying86 _ b es.length D0 rfl (by first | exact OW.out | (rw [hW]; exact OW.out)) ?_; intro w0 hrg0 hg0 hs0)
    | go_in)
  have HG0 := Lib.hid hrg0
  have G0 := Lib.hid (show Only none_ W w0 from (Only.of_grown hg0).more (fun _ _ e => by cases e))
  clear hrg0 hg0 hs0
  go_frame
  go_loopw [3] (fun v wr => ∃ (left : Lit → Bool) (cnt : Nat) (xs : List En) (g cap : Nat), wr.ranges Try.prog 3 (plainElem Try.prog 3) b W.heap.size es.length D0 left cnt ∧ v = .slice (some ⟨g, 0, none⟩) xs.length cap ∧ Owns wr w.heap.size 83 2 En.cells v xs ∧ Got es left xs ∧ w.heap.size ≤ g ∧ Only none_ w wr)
    (fun _ wr => wr.rangeLeft b W.heap.size)
  case atStart =>
    exact ⟨_, _, [], w.heap.size, es.length, HG0.out, rfl, (show Owns W w.heap.size 83 2 En.cells _ [] from MO1.out).still G0.out, Got.start HR0.out, Nat.le_refl _, O1.out.same G0.out⟩
  case round =>
    obtain ⟨left, cnt, xs, g, cap, hrg, rfl, hv, hg, lg, ow⟩ := hrel
    have RG := Lib.hid hrg
    have OO := Lib.hid ow
    have V := Lib.hid hv
    have GO := Lib.hid hg
    have xl := hg.len
    clear ow hv hg
    go_wp2_with (first
      | (at_next; refine wpList_next_ranges_ii _ rfl _ rfl 3 3 .i64 .i64 lawI Try.underlying3 Try.underlying3 b W.heap.size es.length _ _ _ rfl hrg ?_ ?_)
      | go_in)
    · intro _ hl0
      have xe := GO.out.all hl0 (en_nodup F1.out.apart)
      have SO := Lib.hid (sortEn_any V.out F1.out.rise GO.out.1 (GO.out.over hl0) (by omega))
      have XE := Lib.hid xe
      clear hl0 xe
      go_wp2_with (go_at_call 54; refine (SO.out).mono ?_; rintro e w2 ⟨rfl, h2, o2⟩
                   have H2 := Lib.hid h2
                   have O2 := Lib.hid o2
                   clear h2 o2)
      go_ret
      refine ⟨some ⟨g, 0, none⟩, cap, (by rw [XE.out]; rfl), H2.out, fun a q => (by injection q with q; rw [← q]; exact lg), OO.out.trans O2.out (fun i hi q => by omega)⟩
    · intro x c w1 cnt1 hwx hwc hlx hat hrg1 hlt hg1 hs1 hen
      obtain ⟨e, he, rfl, rfl⟩ := entry_of HR0.out hat
      have G1 := Lib.hid (Only.of_grown hg1)
      have sz := SZ.out
      have O3 := Lib.hid (OO.out.trans G1.out (fun i hi q => by have := Option.some.inj q; omega))
      have V1 := Lib.hid (V.out.keep G1.out (fun a ha q => V.out.notIter RG.out (by rw [ha]; exact q.symm)))
      have GS := Lib.hid (GO.out.step F1.out.apart he hlx)
      have AG := Lib.hid (F1.out.young e he)
      have RG1 := Lib.hid hrg1
      have R3 := Lib.hid (G1.out.row (show Row wr p 88 #[.int .i64 size, .int .i64 life, .int .i64 L, .map (some b)] from (H.out.still OO.out).row) (fun q => by have := Option.some.inj q; omega))
      have A := Lib.hid (age_any p b size life L ((L : Int) - e.age) w1 R3.out)
      rw [show wrap64 ((L : Int) - ((L : Int) - e.age)) = (e.age : Int) by have := AG.out; have := F1.out.l64; unfold wrap64; omega] at A
      have RF := Lib.hid (Row.fresh w1 83 (En.cells e).toArray)
      have OA := Lib.hid ((Only.refl none_ w1).alloc (.cells (En.cells e).toArray 83))
      have NM := Lib.hid (V1.out.notMap RG1.out.owns)
      have NI := Lib.hid (V1.out.notIter RG1.out)
      have l1 : xs.length < 9223372036854775807 := by omega
      have l2 : (xs.length + 1) * 16 ≤ 140737488355328 := by omega
      have l1 := Lib.hid l1
      have l2 := Lib.hid l2
      have SB := Lib.hid (show w.heap.size ≤ (w1.alloc (.cells (En.cells e).toArray 83)).heap.size from (O3.out.idle OA.out).size)
      clear hat he hlx G1 hrg1 hs1 hg1 sz AG xl
      go_wp2_with (first
        | (go_at_call 53; refine (A.out).mono ?_; rintro e w2 ⟨rfl, rfl⟩)
        | (at_builtin; go_loud (refine wpList_append_one8 rfl (.tmp 22) (.tmp 28) 50 rfl (c := En.cells) i0 _ 16 Try.underlying50 I0.out I1.out I2.out I3.out rfl (by decide) en2 en_one rfl (V1.out.still OA.out) (y := e) rfl RF.out l1.out l2.out SB.out ?_; intro v5 w5 hown5 hO5))
        | go_in)
      obtain ⟨g5, cap5, rfl, hg5, _⟩ := hown5.form (by simp)
      have RG5 := Lib.hid (ranges_keep (show w1.ranges Try.prog 3 (plainElem Try.prog 3) b W.heap.size es.length D0 (strike left e.next) cnt1 from RG1.out) (OA.out.up.same hO5) (fun q => NM.out q) (fun q => NI.out q))
      have O5 := Lib.hid ((O3.out.idle OA.out).trans hO5 (fun i hi q => by have := (V1.out.base_le q.symm).1; omega))
      go_roundw
      case rel => exact ⟨strike left e.next, cnt1, xs ++ [e], g5, cap5, RG5.out, rfl, hown5, GS.out, hg5, O5.out⟩
      case measure => rw [World.ranges.left_eq RG5.out, RG.out.left_eq]; exact hlt
end Go.Proofs.Ytfmmmiiohaaegaa

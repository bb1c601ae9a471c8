/- The document's own turns: State, Waiting. -/
import Derived.Test.YtmihinpbgppjlaaRt
import Derived.Test.YtmihinpbgppjlaaInt11
import Derived.Test.YtmihinpbgppjlaaTnW
import Derived.Deep.RegionHeld3
import Derived.Deep.CutRange
namespace Go.Proofs.Ytmihinpbgppjlaa
open Go.RowKit
set_option linter.unusedVariables false

theorem info_sl : (Try.prog.info? 63).map (fun i => (i.zero, i.size, i.bytes)) = some (some (.agg #[.int .i64 0, .bool false]), 2, 16) := by kernel_rfl
theorem sl_flat_len (l : List Sl) : (l.flatMap Sl.cells).length = l.length * 2 := by
  have := flat_size sl2 l
  unfold flat at this
  simpa using this
theorem sl_cells_one (l : List Sl) : ∀ u ∈ l.flatMap Sl.cells, u.oneCell' = true := fun u hu => by
  obtain ⟨x, _, hx⟩ := List.mem_flatMap.1 hu
  exact sl_one x u hx
set_option maxHeartbeats 1000000 in
theorem rstate_any {q : Nat} {v1 v2 : Value} {M : Nat → Prop} {nd na : Nat} {ss : List Sl} (x : Int) (w : World) (h : RtAt w q v1 v2 M nd na ss) (hl : ss.length ≤ 1000) :
    Calls Try.prog 15 #[.pointer (some ⟨q, 0, none⟩), .int .i64 x] w fun e w' => e = .returned (.tuple #[.bool (atL ss x).a, .bool (atL ss x).s, .bool (hasL ss x)]) ∧ Only none_ w w' := by
  have l1 := row_le false ss
  have l2 := row_le true ss
  have F1 := Lib.hid (rfind_any x w h.od (by omega))
  have F2 := Lib.hid (rfind_any x w h.oa (by omega))
  have c0 : w.cell? ⟨q, 0, none⟩ = some v1 := by rw [h.row.cell]; rfl
  have c1 : w.cell? ⟨q, 1, none⟩ = some v2 := by rw [h.row.cell]; rfl
  rcases ix_cases (rowL false ss) x with ⟨i, y, hi, hy, e⟩ | ⟨hi, n1⟩
  · have E := Lib.hid (show atL ss x = y ∧ hasL ss x = true ∧ y.a = false from by have := stand_in h.once hy; rw [e] at this; exact ⟨this.2.1, this.1, this.2.2.1⟩)
    rw [hi] at F1
    obtain ⟨A, cap, rfl, ha⟩ := OwnsSl.form h.od
    obtain ⟨g, o, rfl, lt1, c⟩ := ha i y hy
    have d1 : w.cell? ⟨g, o + i * 2 + 1, none⟩ = some (.bool y.s) := c 1 (.bool y.s) rfl
    have li := lt_of_get hy
    have hl1 : (rowL false ss).length ≤ 1000 := by omega
    generalize (rowL false ss).length = m at *
    have dn : decide ((0 : Int) ≤ (i : Int)) = true := by simp
    clear h l1 l2 ha c hy e hi
    go_enter Try.func15, Try.ntmps15
    go_wp2_with fail
    (with_reducible refine F1.out.mono ?_)
    rintro e w' ⟨rfl, rfl⟩
    go_wp2_with fail
    go_quiet (fail)
    go_wp2_with fail
    go_ret3
    exact ⟨by rw [E.out.1, E.out.2.1, E.out.2.2]; rfl, (Only.refl _ _).drewN _⟩
  · rw [hi] at F1
    rcases ix_cases (rowL true ss) x with ⟨i, y, hi', hy, e⟩ | ⟨hi', n2⟩
    · have E := Lib.hid (show atL ss x = y ∧ hasL ss x = true ∧ y.a = true from by have := stand_in h.once hy; rw [e] at this; exact ⟨this.2.1, this.1, this.2.2.1⟩)
      rw [hi'] at F2
      obtain ⟨A, cap, rfl, ha⟩ := OwnsSl.form h.oa
      obtain ⟨g, o, rfl, lt1, c⟩ := ha i y hy
      have d1 : w.cell? ⟨g, o + i * 2 + 1, none⟩ = some (.bool y.s) := c 1 (.bool y.s) rfl
      have li := lt_of_get hy
      have hl1 : (rowL true ss).length ≤ 1000 := by omega
      generalize (rowL true ss).length = m at *
      have dn : decide ((0 : Int) ≤ (i : Int)) = true := by simp
      clear h l1 l2 ha c hy e hi hi' n1
      go_enter Try.func15, Try.ntmps15
      go_wp2_with fail
      (with_reducible refine F1.out.mono ?_)
      rintro e w' ⟨rfl, rfl⟩
      go_wp2_with fail
      (with_reducible refine F2.out.mono ?_)
      rintro e w' ⟨rfl, rfl⟩
      go_wp2_with fail
      go_quiet (fail)
      go_wp2_with fail
      go_ret3
      exact ⟨by rw [E.out.1, E.out.2.1, E.out.2.2]; rfl, (Only.refl _ _).drewN _⟩
    · have hn := stand_no n1 n2
      have E := Lib.hid (show atL ss x = ⟨0, false, false⟩ ∧ hasL ss x = false from ⟨atL_no hn, hn⟩)
      rw [hi'] at F2
      clear h l1 l2 hi hi' n1 n2 hn
      go_enter Try.func15, Try.ntmps15
      go_wp2_with fail
      (with_reducible refine F1.out.mono ?_)
      rintro e w' ⟨rfl, rfl⟩
      go_wp2_with fail
      (with_reducible refine F2.out.mono ?_)
      rintro e w' ⟨rfl, rfl⟩
      go_wp2_with fail
      go_ret3
      exact ⟨by rw [E.out.1, E.out.2]; rfl, Only.refl _ _⟩
theorem own_form12 {w : World} {base : Nat} {v : Value} {es : List Sl} (h : OwnsSl w base v es) : ∃ a n c, v = .slice a n c := by
  rcases h.2 with ⟨h0, _⟩ | ⟨g, cap, cur, hv, _⟩
  · exact ⟨none, 0, 0, h0⟩
  · exact ⟨_, _, _, hv⟩
theorem OwnsSl.holds {w : World} {base n cap : Nat} {A : Option Addr} {l : List Sl} (h : OwnsSl w base (.slice A n cap) l) : Holds w A 2 Sl.cells l := by
  obtain ⟨A', cap', e, hh⟩ := OwnsSl.form h
  injection e with e1 e2 e3
  rw [e1]
  exact hh
def wl (l : List Sl) : List Int := (l.filter (·.s)).map (·.k)
theorem wl_more {l : List Sl} {k : Nat} {y : Sl} (h : l[k]? = some y) (hs : y.s = true) : wl (l.take (k + 1)) = wl (l.take k) ++ [y.k] := by
  unfold wl
  rw [List.take_add_one, h, List.filter_append, List.map_append]
  simp [hs]
theorem wl_less {l : List Sl} {k : Nat} {y : Sl} (h : l[k]? = some y) (hs : y.s = false) : wl (l.take (k + 1)) = wl (l.take k) := by
  unfold wl
  rw [List.take_add_one, h, List.filter_append, List.map_append]
  simp [hs]
theorem wl_len (l : List Sl) : (wl l).length ≤ l.length := by
  unfold wl
  rw [List.length_map]
  exact List.length_filter_le _ _
set_option maxRecDepth 100000 in
set_option maxHeartbeats 4000000 in
theorem rwaiting_any {q : Nat} {v1 v2 : Value} {M : Nat → Prop} {nd na : Nat} {ss : List Sl} (w : World) (h : RtAt w q v1 v2 M nd na ss) (hl : ss.length ≤ 400) :
    Calls Try.prog 18 #[.pointer (some ⟨q, 0, none⟩)] w (Told (waitL ss) w) := by
  have l1 := row_le false ss
  have l2 := row_le true ss
  have R := Lib.hid h.row
  have S1 := Lib.hid (Src.own h.od)
  have S2 := Lib.hid (Src.own h.oa)
  obtain ⟨A1, k1, hv1, _⟩ := OwnsSl.form h.od
  obtain ⟨A2, k2, hv2, _⟩ := OwnsSl.form h.oa
  have E := Lib.hid (show waitL ss = wl (rowL false ss ++ rowL true ss) from rfl)
  generalize rowL false ss = a1 at *
  generalize rowL true ss = a2 at *
  subst hv1 hv2
  obtain ⟨i0, hi0, hz0, hz1, hz2⟩ := info_parts info_sl
  have I0 := Lib.hid hi0
  have I1 := Lib.hid hz0
  have I2 := Lib.hid hz1
  have I3 := Lib.hid hz2
  clear hi0 hz0 hz1 hz2 h
  have OO0 := Lib.hid (((Only.refl none_ w).alloc (.cells #[] 63)).drew)
  have OW0 := Lib.hid (show ((w.alloc (.cells #[] 63)).drew).ownsRow w.heap.size 63 2 (.slice (some ⟨w.heap.size, 0, none⟩) 0 0) 0 [] from ⟨rfl, .inr ⟨w.heap.size, 0, #[], rfl, Nat.le_refl _, Row.fresh w 63 #[], Nat.le_refl _, Nat.zero_le _, rfl, rfl⟩⟩)
  have zO : w.heap.size ≤ ((w.alloc (.cells #[] 63)).drew).heap.size := OO0.out.size
  have KQ := Lib.hid (fun w' (o : Only none_ w w') => (show w'.cell? ⟨q, 0, none⟩ = some (.slice A1 a1.length k1) ∧ w'.cell? ⟨q, 1, none⟩ = some (.slice A2 a2.length k2) from by
    have r := o.still R.out
    exact ⟨by rw [r.cell]; rfl, by rw [r.cell]; rfl⟩))
  obtain ⟨ed0, ed1⟩ := KQ.out _ ((Only.refl none_ w).drew)
  obtain ⟨ee0, ee1⟩ := KQ.out _ OO0.out
  have B1 := Lib.hid (show 0 + a1.length ≤ maxLen from by unfold maxLen; omega)
  have B2 := Lib.hid (show (0 + a1.length) * 16 ≤ 140737488355328 from by omega)
  have B3 := Lib.hid (show 0 + a1.length + a2.length ≤ maxLen from by unfold maxLen; omega)
  have B4 := Lib.hid (show (0 + a1.length + a2.length) * 16 ≤ 140737488355328 from by omega)
  obtain ⟨l, hll⟩ : ∃ l, a1 ++ a2 = l := ⟨_, rfl⟩
  have JL := Lib.hid (show l.length ≤ 800 from by rw [← hll, List.length_append]; omega)
  have LL := Lib.hid hll
  rw [E.out, hll]
  clear hll E
  go_enter Try.func18, Try.ntmps18
  go_upto_region 2 with fail
  go_cut [4] from 6 to 16 (fun s4 wx => OwnsSl wx w.heap.size s4 l ∧ Only none_ w wx)
  case first =>
   go_region_law (first
    | (refine step_append_src rfl (.tmp 6) (.tmp 10) 38 rfl w.heap.size 63 i0 _ 2 16 Try.underlying38 I0.out I1.out I2.out I3.out rfl (by decide) _ 0 [] rfl OW0.out _ a1.length _ rfl (S1.out.still OO0.out) (sl_flat_len _) (sl_cells_one _) B1.out B2.out zO ?_
       intro v5 w5 hown5 hgrow5
       have O5 := Lib.hid (OO0.out.trans (Only.of_grown hgrow5) (fun j hj q' => by have q2 : some j = some w.heap.size := q'; injection q2; omega))
       have OW5 := Lib.hid hown5
       have z5 : w.heap.size ≤ w5.heap.size := O5.out.size
       obtain ⟨ef0, ef1⟩ := KQ.out _ O5.out
       clear hown5 hgrow5)
    | (refine step_append_src rfl (.tmp 11) (.tmp 15) 38 rfl w.heap.size 63 i0 _ 2 16 Try.underlying38 I0.out I1.out I2.out I3.out rfl (by decide) _ (0 + a1.length) _ rfl OW5.out _ a2.length _ rfl (S2.out.still O5.out) (sl_flat_len _) (sl_cells_one _) B3.out B4.out z5 ?_
       intro v6 w6 hown6 hgrow6
       have O6 := Lib.hid (O5.out.trans (Only.of_grown hgrow6) (fun j hj q' => by have := (World.ownsRow.lt OW5.out j q'.symm).1; omega))
       have OW6 := Lib.hid (show OwnsSl w6 w.heap.size v6 l from by
         rw [← LL.out]
         unfold OwnsSl Owns
         rw [List.flatMap_append, List.length_append]
         simpa using hown6)
       clear hown6 hgrow6)
    | fail)
   all_goals
    go_wp2_with fail
    go_meet
    case rel => exact ⟨OW6.out, O6.out⟩
  case rest =>
    obtain ⟨hs4, ho4⟩ := hcut
    obtain ⟨A, cap, rfl, _⟩ := OwnsSl.form hs4
    have HA := Lib.hid hs4
    have O4 := Lib.hid ho4
    have JL' := JL.out
    clear hs4 ho4 ed0 ed1 ee0 ee1 KQ S1 S2 R B1 B2 B3 B4 OW0 OO0 zO l1 l2 JL
    obtain ⟨j0, hi0, hz0, hz1, hz2⟩ := info_parts info_int8
    have J0 := Lib.hid hi0
    have J1 := Lib.hid hz0
    have J2 := Lib.hid hz1
    have J3 := Lib.hid hz2
    clear hi0 hz0 hz1 hz2
    go_wp2_with fail
    go_loopw [3, 5] (fun v i wr => ∃ k : Nat, k ≤ l.length ∧ i = .int .i64 k ∧ OwnsInts wr w.heap.size v (wl (l.take k)) ∧ OwnsSl wr w.heap.size (.slice A l.length cap) l ∧ Only none_ w wr) (fun _ i _ => l.length - (intOf i).toNat)
    case atStart => exact ⟨0, Nat.zero_le _, rfl, Owns.start _ _ _ _ _, HA.out, O4.out⟩
    case round =>
      obtain ⟨k, hk, rfl, hv, hh, ho⟩ := hrel
      have HW := Lib.hid hv
      have HO := Lib.hid ho
      have HH := Lib.hid hh
      have ll := wl_len (l.take k)
      rw [List.length_take] at ll
      clear HA O4 hv hh ho
      by_cases hlt : k < l.length
      · obtain ⟨y, hy⟩ : ∃ y, l[k]? = some y := ⟨_, List.getElem?_eq_getElem hlt⟩
        obtain ⟨g1, o1, rfl, lt1, c1⟩ := HH.out.holds k y hy
        have e0 : wr.cell? ⟨g1, o1 + k * 2, none⟩ = some (.int .i64 y.k) := c1 0 (.int .i64 y.k) rfl
        have e1 : wr.cell? ⟨g1, o1 + k * 2 + 1, none⟩ = some (.bool y.s) := c1 1 (.bool y.s) rfl
        clear c1
        cases hs : y.s with
        | false =>
          have MORE := Lib.hid (wl_less hy hs)
          rw [hs] at e1
          clear hy hs
          go_wp2_with fail
          go_roundw
          case rel => exact ⟨k + 1, by omega, by go_num, by rw [MORE.out]; exact HW.out, HH.out, HO.out⟩
          case measure => simp [intOf]; omega
        | true =>
          have MORE := Lib.hid (wl_more hy hs)
          rw [hs] at e1
          have RF := Lib.hid (Row.fresh wr 3 #[.int .i64 y.k])
          have oa := (Only.refl none_ wr).alloc (.cells #[.int .i64 y.k] 3)
          have HW2 := Lib.hid (Owns.still HW.out oa)
          have HH2 := Lib.hid (Owns.still HH.out oa)
          have HO2 := Lib.hid (HO.out.idle oa)
          have sz : w.heap.size ≤ (wr.alloc (.cells #[.int .i64 y.k] 3)).heap.size := HO2.out.size
          have m1 := Lib.hid (show (wl (l.take k)).length < 9223372036854775807 from by omega)
          have m2 := Lib.hid (show ((wl (l.take k)).length + 1) * 8 ≤ 140737488355328 from by omega)
          clear hy hs oa
          go_wp2_with (first
            | (at_builtin; refine wpList_append_one8 rfl (.tmp 28) (.tmp 34) 42 rfl (c := one) j0 _ 8 Try.underlying42 J0.out J1.out J2.out J3.out rfl (by decide) one1 one_one rfl HW2.out (y := y.k) rfl RF.out m1.out m2.out sz ?_; intro v5 w5 hown5 hO5)
            | go_in)
          rw [← MORE.out] at hown5
          have HO5 := Lib.hid (HO2.out.trans hO5 (fun i hi z => by have := (Owns.base_le HW2.out z.symm).1; omega))
          have HH5 := Lib.hid (Owns.keep HH2.out hO5 (fun g hg z => own_apart HW2.out HH2.out (by decide) g z.symm hg))
          have W5 := Lib.hid hown5
          clear hown5 hO5
          go_wp2_with fail
          go_roundw
          case rel => exact ⟨k + 1, by omega, by go_num, W5.out, HH5.out, HO5.out⟩
          case measure => simp [intOf]; omega
      · have e : l.take k = l := List.take_of_length_le (by omega)
        rw [e] at HW
        obtain ⟨a, c, rfl⟩ := own_len HW.out
        have HW := HW.out
        go_wp2_with fail
        go_ret
        exact ⟨a, c, rfl, HW, HO.out⟩
end Go.Proofs.Ytmihinpbgppjlaa

/- Lanes in memory: Lane, Heads. -/
import Derived.Test.YtjeiaialnanemaaLnRead
namespace Go.Proofs.Ytjeiaialnanemaa
open Go.RowKit Go.Maps
set_option linter.unusedVariables false

theorem one_cells_one (l : List Int) : ∀ u ∈ l.flatMap one, u.oneCell' = true := fun u hu => by
  obtain ⟨x, _, hx⟩ := List.mem_flatMap.1 hu
  exact one_one x u hx
theorem one_flat_len (l : List Int) : (l.flatMap one).length = l.length * 1 := by
  have := flat_size one1 l
  unfold flat at this
  simpa using this
set_option maxRecDepth 100000 in
set_option maxHeartbeats 1000000 in
theorem clone11_any (v : Value) (l : List Int) (w : World) (h : OwnsInts w 0 v l) (hl : l.length ≤ 1000) :
    Calls Try.prog 33 #[v] w fun e w' => ∃ v', e = .returned v' ∧ OwnsInts w' w.heap.size v' l ∧ Only none_ w w' := by
  rcases h.2 with ⟨hv, h2⟩ | ⟨g, cap, cur, hv, _⟩
  · subst hv
    have hs : l = [] := List.eq_nil_of_length_eq_zero h2
    subst hs
    have he : ∀ w : World, (binOp .eql 57 (.slice none 0 0) (.slice none 0 0)).run Try.prog w = .ok (.bool true) w := fun _ => rfl
    clear h
    go_enter Try.func33, Try.ntmps33
    go_wp2_with fail
    go_ret
    exact ⟨_, rfl, Owns.start _ _ _ _ _, Only.refl none_ w⟩
  · subst hv
    obtain ⟨i0, hi0, hz0, hz1, hz2⟩ := info_parts info_int8
    have own0 : (w.alloc (.cells #[] 3)).ownsRow w.heap.size 3 1 (.slice (some ⟨w.heap.size, 0, none⟩) 0 0) 0 [] := by
      refine ⟨rfl, .inr ⟨w.heap.size, 0, #[], rfl, Nat.le_refl _, ?_, Nat.le_refl _, Nat.zero_le _, rfl, rfl⟩⟩
      exact Row.fresh w 3 #[]
    have O0 := Lib.hid ((Only.refl none_ w).alloc (.cells #[] 3))
    have H := Lib.hid h
    have all_ := Lib.hid (fun j u (hj : (l.flatMap one)[j]? = some u) => O0.out.cell (World.ownsRow.cells h (g := g) rfl j u hj) (fun s => s))
    have OW := Lib.hid own0
    have zz : w.heap.size ≤ (w.alloc (.cells #[] 3)).heap.size := O0.out.size
    have he : ∀ w : World, (binOp .eql 57 (.slice (some ⟨g, 0, none⟩) l.length cap) (.slice none 0 0)).run Try.prog w = .ok (.bool false) w := fun _ => rfl
    clear h own0
    go_enter Try.func33, Try.ntmps33
    go_wp2_with (at_builtin; go_loud (refine wpList_append_own _ rfl (.tmp 5) (.tmp 6) 57 rfl w.heap.size 3 i0 _ 1 8 Try.underlying57 hi0 hz0 hz1 hz2 rfl (by decide) _ 0 [] rfl OW.out ⟨g, 0, none⟩ l.length cap _ rfl (one_flat_len _) all_.out (one_cells_one _) (by unfold maxLen; omega) (by omega) zz ?_))
    intro v1 w1 hown1 hgrow1 _
    have O1 := Lib.hid (O0.out.trans (Only.of_grown hgrow1) (fun j hj q => by have q2 : some j = some w.heap.size := q; injection q2; omega))
    have OW1 := Lib.hid (show OwnsInts w1 w.heap.size v1 l from by
      show Owns _ _ _ _ _ _ _
      unfold Owns
      simpa using hown1)
    clear hown1 hgrow1
    go_wp2_with fail
    go_ret
    exact ⟨v1, rfl, OW1.out, O1.out⟩
theorem lLane_any {p : Nat} {M : Nat → Prop} {n room : Nat} {ss : List Sd} (x : Int) (w : World) (h : Ln w p M n room ss) (hn : n ≤ 1000) (hl : ss.length ≤ 1000) :
    Calls Try.prog 24 #[.pointer (some ⟨p, 0, none⟩), .int .i64 x] w fun e w' => ∃ v', e = .returned v' ∧ OwnsInts w' w.heap.size v' (laneL ss x) ∧ Only none_ w w' := by
  obtain ⟨r, b, vs, h⟩ := h
  have LN := Lib.hid (llane_any x w h hn)
  have le := lane_le ss x
  clear h
  generalize laneL ss x = l at LN le ⊢
  go_enter Try.func24, Try.ntmps24
  go_wp2_with fail
  (with_reducible refine LN.out.mono ?_)
  rintro e w' ⟨v, rfl, ho, rfl⟩
  have CL := Lib.hid (clone11_any v l w ho (by omega))
  clear ho LN
  go_wp2_with fail
  (with_reducible refine CL.out.mono ?_)
  rintro e w' ⟨v', rfl, ho, o⟩
  have HO := Lib.hid ho
  have OO := Lib.hid o
  clear ho o
  go_wp2_with fail
  go_ret
  exact ⟨v', rfl, HO.out, OO.out⟩
set_option maxHeartbeats 1000000 in
theorem lheads_any {p : Nat} {M : Nat → Prop} {n room : Nat} {ss : List Sd} (w : World) (h : Ln w p M n room ss) (hl : ss.length ≤ 1000) (hn : n ≤ 1000) :
    Calls Try.prog 26 #[.pointer (some ⟨p, 0, none⟩)] w fun e w' => ∃ v', e = .returned v' ∧ OwnsInts w' w.heap.size v' (headsL ss n) ∧ Only none_ w w' := by
  obtain ⟨r, b, vs, h⟩ := h
  have KR := Lib.hid (fun w' (o : Only none_ w w') => h.still o)
  have c0 : w.cell? ⟨p, 0, none⟩ = some (.slice (some ⟨r, 0, none⟩) n n) := by rw [h.row.cell]; rfl
  clear h
  obtain ⟨i0, hi0, hz0, hz1, hz2⟩ := info_parts info_int8
  have I0 := Lib.hid hi0
  have I1 := Lib.hid hz0
  have I2 := Lib.hid hz1
  have I3 := Lib.hid hz2
  clear hi0 hz0 hz1 hz2
  go_enter Try.func26, Try.ntmps26
  go_wp2_with fail
  go_loopw [3, 13] (fun v i wr => ∃ (k : Nat), k ≤ n ∧ i = .int .i64 k ∧ OwnsInts wr w.heap.size v (headsL ss k) ∧ Only none_ w wr) (fun _ i _ => n - (intOf i).toNat)
  case atStart => exact ⟨0, Nat.zero_le _, rfl, Owns.start _ _ _ _ _, Only.refl _ _⟩
  case round =>
    obtain ⟨k, hk, rfl, hV, hO⟩ := hrel
    have HO := Lib.hid hO
    have HW := Lib.hid hV
    by_cases hlt : k < n
    · have hh := KR.out _ hO
      obtain ⟨u, hu⟩ : ∃ u, vs[k]? = some u := ⟨_, List.getElem?_eq_getElem (by rw [hh.len]; exact hlt)⟩
      have c1 : wr.cell? ⟨r, k, none⟩ = some u := by rw [hh.rows.cell]; simpa using hu
      have ll := lane_le ss (k : Int)
      have AT := Lib.hid (at_any u _ 0 wr (Reads.of_owns (hh.lanes k u hu)) (by omega))
      rw [(at_head _).1, (at_head _).2] at AT
      clear hO hV hh hu ll
      cases e : laneL ss (k : Int) with
      | nil =>
        have MORE := Lib.hid (heads_skip e)
        rw [e] at AT
        have E0 := Lib.hid (show headI [] = 0 ∧ someB [] = false from ⟨rfl, rfl⟩)
        rw [E0.out.1, E0.out.2] at AT
        clear e
        go_wp2_with fail
        (with_reducible refine AT.out.mono ?_)
        rintro e w' ⟨rfl, rfl⟩
        go_wp2_with fail
        go_roundw
        case rel => exact ⟨k + 1, by omega, by go_num, by rw [MORE.out]; exact HW.out, HO.out⟩
        case measure => simp [intOf]; omega
      | cons x l =>
        have MORE := Lib.hid (heads_yes e)
        rw [e] at AT
        have E0 := Lib.hid (show headI (x :: l) = x ∧ someB (x :: l) = true from ⟨rfl, rfl⟩)
        rw [E0.out.1, E0.out.2] at AT
        clear e
        have RF := Lib.hid (Row.fresh wr 3 #[.int .i64 x])
        have HW2 := Lib.hid (HW.out.still ((Only.refl none_ wr).alloc (.cells #[.int .i64 x] 3)))
        have HO2 := Lib.hid (HO.out.idle ((Only.refl none_ wr).alloc (.cells #[.int .i64 x] 3)))
        have sz : w.heap.size ≤ (wr.alloc (.cells #[.int .i64 x] 3)).heap.size := HO2.out.size
        have ln := heads_le ss k
        have l1 := Lib.hid (show (headsL ss k).length < 9223372036854775807 from by omega)
        have l2 := Lib.hid (show ((headsL ss k).length + 1) * 8 ≤ 140737488355328 from by omega)
        clear ln
        go_wp2_with fail
        (with_reducible refine AT.out.mono ?_)
        rintro e w' ⟨rfl, rfl⟩
        go_wp2_with (at_builtin; go_loud (refine wpList_append_one rfl (.tmp 23) (.tmp 25) 43 rfl (c := one) i0 _ 8 Try.underlying43 I0.out I1.out I2.out I3.out rfl (by decide) one1 one_one rfl HW2.out (y := x) rfl RF.out l1.out l2.out sz ?_; intro v5 w5 hown5 hO5))
        rw [← MORE.out] at hown5
        have HO5 := Lib.hid (HO2.out.trans hO5 (fun i hi q => by omega))
        have W5 := Lib.hid hown5
        clear hown5 hO5
        go_wp2_with fail
        go_roundw
        case rel => exact ⟨k + 1, by omega, by go_num, W5.out, HO5.out⟩
        case measure => simp [intOf]; omega
    · have e : k = n := by omega
      subst e
      go_wp2_with fail
      go_ret
      exact ⟨_, rfl, HW.out, HO.out⟩
end Go.Proofs.Ytjeiaialnanemaa

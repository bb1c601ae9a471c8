/- The document's own lanes: Lane, Head, Last, Heads. -/
import Derived.Test.YtjeiaialnanemaaRl
import Derived.Test.YtjeiaialnanemaaInt11
namespace Go.Proofs.Ytjeiaialnanemaa
open Go.RowKit
set_option linter.unusedVariables false

set_option maxHeartbeats 1000000 in
theorem lane11_any {q : Nat} {v : Value} {M : Nat → Prop} {n room : Nat} {ss : List Sd} (b : Int) (w : World) (h : RL w q v M n room ss) (hl : ss.length ≤ 1000) :
    Calls Try.prog 25 #[.pointer (some ⟨q, 0, none⟩), .int .i64 b] w fun e w' => ∃ v', e = .returned v' ∧ OwnsInts w' w.heap.size v' (laneL ss b) ∧ Only none_ w w' := by
  have ql := h.row.lt
  obtain ⟨r, o, _, _⟩ := h
  obtain ⟨A, cap, rfl, ha⟩ := o.form
  have HA := Lib.hid ha
  have KC := Lib.hid (fun w' (o : Only none_ w w') => (show w'.cell? ⟨q, 2, none⟩ = some (.slice A ss.length cap) from by rw [(o.still r).cell]; rfl))
  clear r o ha
  obtain ⟨i0, hi0, hz0, hz1, hz2⟩ := info_parts info_int8
  have I0 := Lib.hid hi0
  have I1 := Lib.hid hz0
  have I2 := Lib.hid hz1
  have I3 := Lib.hid hz2
  clear hi0 hz0 hz1 hz2
  go_enter Try.func25, Try.ntmps25
  go_wp2_with fail
  go_loopw [5, 6] (fun v i wr => ∃ (k : Nat), k ≤ ss.length ∧ i = .int .i64 k ∧ OwnsInts wr w.heap.size v (laneL (ss.take k) b) ∧ Only none_ w wr) (fun _ i _ => ss.length - (intOf i).toNat)
  case atStart => exact ⟨0, Nat.zero_le _, rfl, Owns.start _ _ _ _ _, Only.refl _ _⟩
  case round =>
    obtain ⟨k, hk, rfl, hV, hO⟩ := hrel
    have HO := Lib.hid hO
    have HW := Lib.hid hV
    have s0 := KC.out _ hO
    clear hO hV
    by_cases hlt : k < ss.length
    · obtain ⟨y, hy⟩ : ∃ y, ss[k]? = some y := ⟨_, List.getElem?_eq_getElem hlt⟩
      obtain ⟨g1, o1, rfl, lt1, cy⟩ := HA.out k y hy
      have c0 : wr.cell? ⟨g1, o1 + k * 2, none⟩ = some (.int .i64 y.b) := HO.out.cell (cy 0 _ rfl) (fun s => s)
      have c1 : wr.cell? ⟨g1, o1 + k * 2 + 1, none⟩ = some (.int .i64 y.k) := HO.out.cell (cy 1 _ rfl) (fun s => s)
      by_cases e : y.b = b
      · have t : (y.b == b) = true := by simp [e]
        have MORE := Lib.hid (lane_yes hy e)
        have RF := Lib.hid (Row.fresh wr 3 #[.int .i64 y.k])
        have HW2 := Lib.hid (HW.out.still ((Only.refl none_ wr).alloc (.cells #[.int .i64 y.k] 3)))
        have HO2 := Lib.hid (HO.out.idle ((Only.refl none_ wr).alloc (.cells #[.int .i64 y.k] 3)))
        have sz : w.heap.size ≤ (wr.alloc (.cells #[.int .i64 y.k] 3)).heap.size := HO2.out.size
        have ln := lane_le (ss.take k) b
        have ln2 : (ss.take k).length ≤ 1000 := by rw [List.length_take]; omega
        have l1 := Lib.hid (show (laneL (ss.take k) b).length < 9223372036854775807 from by omega)
        have l2 := Lib.hid (show ((laneL (ss.take k) b).length + 1) * 8 ≤ 140737488355328 from by omega)
        clear e hy cy ln ln2
        go_wp2_with (at_builtin; go_loud (refine wpList_append_one rfl (.tmp 26) (.tmp 35) 43 rfl (c := one) i0 _ 8 Try.underlying43 I0.out I1.out I2.out I3.out rfl (by decide) one1 one_one rfl HW2.out (y := y.k) rfl RF.out l1.out l2.out sz ?_; intro v5 w5 hown5 hO5))
        rw [← MORE.out] at hown5
        have HO5 := Lib.hid (HO2.out.trans hO5 (fun i hi q => by omega))
        have W5 := Lib.hid hown5
        clear hown5 hO5
        go_wp2_with fail
        go_roundw
        case rel => exact ⟨k + 1, by omega, by go_num, W5.out, HO5.out⟩
        case measure => simp [intOf]; omega
      · have t : (y.b == b) = false := by simpa using e
        have MORE := Lib.hid (lane_skip hy e)
        clear e hy cy
        go_wp2_with fail
        go_roundw
        case rel => exact ⟨k + 1, by omega, by go_num, by rw [MORE.out]; exact HW.out, HO.out⟩
        case measure => simp [intOf]; omega
    · have ALL := Lib.hid (lane_all (b := b) (show ss.length ≤ k by omega))
      rw [ALL.out] at HW
      go_wp2_with fail
      go_ret
      exact ⟨_, rfl, HW.out, HO.out⟩
theorem head11_any {q : Nat} {v : Value} {M : Nat → Prop} {n room : Nat} {ss : List Sd} (b : Int) (w : World) (h : RL w q v M n room ss) (hl : ss.length ≤ 1000) :
    Calls Try.prog 17 #[.pointer (some ⟨q, 0, none⟩), .int .i64 b] w fun e w' => e = .returned (.tuple #[.int .i64 (headI (laneL ss b)), .bool (someB (laneL ss b))]) ∧ Only none_ w w' := by
  have LN := Lib.hid (lane11_any b w h hl)
  have le := lane_le ss b
  clear h
  generalize laneL ss b = l at LN le ⊢
  go_enter Try.func17, Try.ntmps17
  go_wp2_with fail
  (with_reducible refine LN.out.mono ?_)
  rintro e w' ⟨v', rfl, ho, o⟩
  have O := Lib.hid o
  obtain ⟨a, cap, rfl, hc⟩ := Reads.of_owns ho
  clear ho o LN
  cases l with
  | nil =>
    have E := Lib.hid (show headI [] = 0 ∧ someB [] = false from ⟨rfl, rfl⟩)
    rw [List.length_nil]
    go_wp2_with fail
    go_ret2
    exact ⟨by rw [E.out.1, E.out.2]; rfl, O.out⟩
  | cons x r =>
    have E := Lib.hid (show headI (x :: r) = x ∧ someB (x :: r) = true from ⟨rfl, rfl⟩)
    obtain ⟨g, o', rfl, c0⟩ := hc 0 x rfl
    rw [Nat.add_zero] at c0
    obtain ⟨m, hm⟩ : ∃ m, (x :: r).length = m := ⟨_, rfl⟩
    have p : 0 < m := by rw [← hm]; simp
    rw [hm] at le ⊢
    clear hm
    have t : ((m : Int) == 0) = false := by simp; omega
    have t2 : ¬ m = 0 := by omega
    clear hc
    go_wp2_with fail
    go_ret2
    exact ⟨by rw [E.out.1, E.out.2]; rfl, O.out⟩
theorem last11_any {q : Nat} {v : Value} {M : Nat → Prop} {n room : Nat} {ss : List Sd} (b : Int) (w : World) (h : RL w q v M n room ss) (hl : ss.length ≤ 1000) :
    Calls Try.prog 19 #[.pointer (some ⟨q, 0, none⟩), .int .i64 b] w fun e w' => e = .returned (.tuple #[.int .i64 (lastI (laneL ss b)), .bool (someB (laneL ss b))]) ∧ Only none_ w w' := by
  have LN := Lib.hid (lane11_any b w h hl)
  have le := lane_le ss b
  clear h
  generalize laneL ss b = l at LN le ⊢
  go_enter Try.func19, Try.ntmps19
  go_wp2_with fail
  (with_reducible refine LN.out.mono ?_)
  rintro e w' ⟨v', rfl, ho, o⟩
  have O := Lib.hid o
  obtain ⟨a, cap, rfl, hc⟩ := Reads.of_owns ho
  clear ho o LN
  cases l with
  | nil =>
    have E := Lib.hid (show lastI [] = 0 ∧ someB [] = false from ⟨rfl, rfl⟩)
    rw [List.length_nil]
    go_wp2_with fail
    go_ret2
    exact ⟨by rw [E.out.1, E.out.2]; rfl, O.out⟩
  | cons x r =>
    obtain ⟨m, hm⟩ : ∃ m, (x :: r).length = m := ⟨_, rfl⟩
    obtain ⟨y, hy⟩ : ∃ y, (x :: r)[m - 1]? = some y := ⟨_, List.getElem?_eq_getElem (by rw [← hm]; simp)⟩
    have E := Lib.hid (show lastI (x :: r) = y ∧ someB (x :: r) = true from ⟨by unfold lastI; rw [List.getLast?_eq_getElem?, hm, hy]; rfl, rfl⟩)
    obtain ⟨g, o', rfl, c0⟩ := hc (m - 1) y hy
    have p : 0 < m := by rw [← hm]; simp
    rw [hm] at le ⊢
    obtain ⟨i, hi⟩ : ∃ i, m = i + 1 := ⟨m - 1, by omega⟩
    have hwi : IntKind.i64.wrap ((m : Int) - 1) = (i : Int) := by rw [IntKind.wrap_i64]; omega
    rw [show m - 1 = i by omega] at c0
    have ib : (i : Int) < (m : Int) := by omega
    have ib2 : i < m := by omega
    clear hm hi hy
    have t : ((m : Int) == 0) = false := by simp; omega
    have t2 : ¬ m = 0 := by omega
    clear hc
    go_wp2_with fail
    go_ret2
    exact ⟨by rw [E.out.1, E.out.2]; rfl, O.out⟩
set_option maxHeartbeats 1000000 in
theorem heads11_any {q : Nat} {v : Value} {M : Nat → Prop} {n room : Nat} {ss : List Sd} (w : World) (h : RL w q v M n room ss) (hl : ss.length ≤ 1000) (hn : n ≤ 1000) :
    Calls Try.prog 27 #[.pointer (some ⟨q, 0, none⟩)] w fun e w' => ∃ v', e = .returned v' ∧ OwnsInts w' w.heap.size v' (headsL ss n) ∧ Only none_ w w' := by
  have KR := Lib.hid (fun w' (o : Only none_ w w') => h.still o)
  clear h
  obtain ⟨i0, hi0, hz0, hz1, hz2⟩ := info_parts info_int8
  have I0 := Lib.hid hi0
  have I1 := Lib.hid hz0
  have I2 := Lib.hid hz1
  have I3 := Lib.hid hz2
  clear hi0 hz0 hz1 hz2
  go_enter Try.func27, Try.ntmps27
  go_wp2_with fail
  go_loopw [3, 4] (fun v i wr => ∃ (k : Nat), k ≤ n ∧ i = .int .i64 k ∧ OwnsInts wr w.heap.size v (headsL ss k) ∧ Only none_ w wr) (fun _ i _ => n - (intOf i).toNat)
  case atStart => exact ⟨0, Nat.zero_le _, rfl, Owns.start _ _ _ _ _, Only.refl _ _⟩
  case round =>
    obtain ⟨k, hk, rfl, hV, hO⟩ := hrel
    have HO := Lib.hid hO
    have HW := Lib.hid hV
    have s0 : wr.cell? ⟨q, 0, none⟩ = some (.int .i64 n) := by rw [(KR.out _ hO).row.cell]; rfl
    have LN := Lib.hid (lane11_any (k : Int) wr (KR.out _ hO) hl)
    clear hO hV
    by_cases hlt : k < n
    · go_wp2_with fail
      (with_reducible refine LN.out.mono ?_)
      rintro e w' ⟨v', rfl, ho, o⟩
      have HO1 := Lib.hid (HO.out.idle o)
      have HW1 := Lib.hid (HW.out.still o)
      have ll := lane_le ss (k : Int)
      obtain ⟨a, cap, rfl, hc⟩ := Reads.of_owns ho
      clear ho o LN
      cases e : laneL ss (k : Int) with
      | nil =>
        have MORE := Lib.hid (heads_skip e)
        rw [List.length_nil]
        clear e hc ll
        go_wp2_with fail
        go_roundw
        case rel => exact ⟨k + 1, by omega, by go_num, by rw [MORE.out]; exact HW1.out, HO1.out⟩
        case measure => simp [intOf]; omega
      | cons x r =>
        rw [e] at hc ll
        have MORE := Lib.hid (heads_yes e)
        obtain ⟨g, o', rfl, c0⟩ := hc 0 x rfl
        rw [Nat.add_zero] at c0
        obtain ⟨m, hm⟩ : ∃ m, (x :: r).length = m := ⟨_, rfl⟩
        have p : 0 < m := by rw [← hm]; simp
        rw [hm] at ll ⊢
        have t : decide ((0 : Int) < (m : Int)) = true := by simp; omega
        have t2 : decide (0 < m) = true := by simp; omega
        have RF := Lib.hid (Row.fresh w' 3 #[.int .i64 x])
        have HW2 := Lib.hid (HW1.out.still ((Only.refl none_ w').alloc (.cells #[.int .i64 x] 3)))
        have HO2 := Lib.hid (HO1.out.idle ((Only.refl none_ w').alloc (.cells #[.int .i64 x] 3)))
        have sz : w.heap.size ≤ (w'.alloc (.cells #[.int .i64 x] 3)).heap.size := HO2.out.size
        have ln := heads_le ss k
        have l1 := Lib.hid (show (headsL ss k).length < 9223372036854775807 from by omega)
        have l2 := Lib.hid (show ((headsL ss k).length + 1) * 8 ≤ 140737488355328 from by omega)
        clear e hc hm ln
        go_wp2_with (at_builtin; go_loud (refine wpList_append_one rfl (.tmp 20) (.tmp 24) 43 rfl (c := one) i0 _ 8 Try.underlying43 I0.out I1.out I2.out I3.out rfl (by decide) one1 one_one rfl HW2.out (y := x) rfl RF.out l1.out l2.out sz ?_; intro v5 w5 hown5 hO5))
        rw [← MORE.out] at hown5
        have HO5 := Lib.hid (HO2.out.trans hO5 (fun i hi q => by omega))
        have W5 := Lib.hid hown5
        clear hown5 hO5
        go_wp2_with fail
        go_roundw
        case rel => exact ⟨k + 1, by omega, by go_num, W5.out, HO5.out⟩
        case measure => simp [intOf]; omega
    · have e : k = n := by omega
      subst e
      go_wp2_with fail
      go_ret
      exact ⟨_, rfl, HW.out, HO.out⟩
end Go.Proofs.Ytjeiaialnanemaa

/- The document's own register: who waits for a ticket; are two rows of waiters the same; is a number in a list. -/
import Derived.Test.YtgngaimbpnlkjaaRg14
namespace Go.Proofs.Ytgngaimbpnlkjaa
open Go.RowKit
set_option linter.unusedVariables false

set_option maxHeartbeats 1000000 in
theorem rof_any {q : Nat} {v : Value} {M : Nat → Prop} {room : Nat} {ss : List Sx} (t : Int) (w : World) (h : RG w q v M room ss) (hl : ss.length ≤ 1000) :
    Calls Try.prog 22 #[.pointer (some ⟨q, 0, none⟩), .int .i64 t] w fun e w' => ∃ v', e = .returned v' ∧ OwnsWt w' w.heap.size v' (ofL ss t) ∧ Only none_ w w' := by
  obtain ⟨A, cap, rfl, ha⟩ := h.own.form
  have HA := Lib.hid ha
  have KC := Lib.hid (fun w' (o : Only none_ w w') => (show w'.cell? ⟨q, 1, none⟩ = some (.slice A ss.length cap) from by rw [(o.still h.row).cell]; rfl))
  obtain ⟨i0, hi0, hz0, hz1, hz2⟩ := info_parts info_wt
  have I0 := Lib.hid hi0
  have I1 := Lib.hid hz0
  have I2 := Lib.hid hz1
  have I3 := Lib.hid hz2
  clear h ha hi0 hz0 hz1 hz2
  go_enter Try.func22, Try.ntmps22
  go_wp2_with fail
  go_loopw [5, 6] (fun v i wr => ∃ (k : Nat), k ≤ ss.length ∧ i = .int .i64 k ∧ OwnsWt wr w.heap.size v (ofL (ss.take k) t) ∧ Only none_ w wr) (fun _ i _ => ss.length - (intOf i).toNat)
  case atStart => exact ⟨0, Nat.zero_le _, rfl, Owns.start _ _ _ _ _, Only.refl _ _⟩
  case round =>
    obtain ⟨k, hk, rfl, hV, hO⟩ := hrel
    have HO := Lib.hid hO
    have HW := Lib.hid hV
    have s0 := KC.out _ hO
    clear hO hV
    by_cases hlt : k < ss.length
    · obtain ⟨y, hy⟩ : ∃ y, ss[k]? = some y := ⟨_, List.getElem?_eq_getElem hlt⟩
      obtain ⟨g1, o1, rfl, lt1, cy⟩ := HA.out k y hy
      have c0 : wr.cell? ⟨g1, o1 + k * 3, none⟩ = some (.int .i64 y.t) := HO.out.cell (cy 0 _ rfl) (fun s => s)
      have c1 : wr.cell? ⟨g1, o1 + k * 3 + 1, none⟩ = some (.int .i64 y.w.r) := HO.out.cell (cy 1 _ rfl) (fun s => s)
      have c2 : wr.cell? ⟨g1, o1 + k * 3 + 1 + 1, none⟩ = some (.int .i64 y.w.p) := HO.out.cell (cy 2 _ rfl) (fun s => s)
      have TM := Lib.hid (sxtake hy)
      clear hy cy
      by_cases e : y.t = t
      · have tt : (y.t == t) = true := by simp [e]
        have MORE := Lib.hid (show ofL (ss.take (k + 1)) t = ofL (ss.take k) t ++ [y.w] from by rw [TM.out, of_yes e])
        have RF := Lib.hid (Row.fresh wr 31 #[.int .i64 y.w.r, .int .i64 y.w.p])
        have HW2 := Lib.hid (HW.out.still ((Only.refl none_ wr).alloc (.cells #[.int .i64 y.w.r, .int .i64 y.w.p] 31)))
        have HO2 := Lib.hid (HO.out.idle ((Only.refl none_ wr).alloc (.cells #[.int .i64 y.w.r, .int .i64 y.w.p] 31)))
        have sz : w.heap.size ≤ (wr.alloc (.cells #[.int .i64 y.w.r, .int .i64 y.w.p] 31)).heap.size := HO2.out.size
        have ln := of_le (ss.take k) t
        have ln2 : (ss.take k).length ≤ 1000 := by rw [List.length_take]; omega
        have l1 := Lib.hid (show (ofL (ss.take k) t).length < 9223372036854775807 from by omega)
        have l2 := Lib.hid (show ((ofL (ss.take k) t).length + 1) * 16 ≤ 140737488355328 from by omega)
        clear e ln ln2
        go_wp2_with (at_builtin; go_loud (refine wpList_append_one rfl (.tmp 26) (.tmp 35) 36 rfl (c := Wt.cells) i0 _ 16 Try.underlying36 I0.out I1.out I2.out I3.out rfl (by decide) wt2 wt_one rfl HW2.out (y := y.w) rfl RF.out l1.out l2.out sz ?_; intro v5 w5 hown5 hO5))
        rw [← MORE.out] at hown5
        have HO5 := Lib.hid (HO2.out.trans hO5 (fun i hi q => by omega))
        have W5 := Lib.hid hown5
        clear hown5 hO5
        go_wp2_with fail
        go_roundw
        case rel => exact ⟨k + 1, by omega, by go_num, W5.out, HO5.out⟩
        case measure => simp [intOf]; omega
      · have tt : (y.t == t) = false := by simpa using e
        have MORE := Lib.hid (show ofL (ss.take (k + 1)) t = ofL (ss.take k) t from by rw [TM.out, of_no e])
        clear e
        go_wp2_with fail
        go_roundw
        case rel => exact ⟨k + 1, by omega, by go_num, by rw [MORE.out]; exact HW.out, HO.out⟩
        case measure => simp [intOf]; omega
    · have hge : ss.length ≤ k := by omega
      have TK := Lib.hid (List.take_of_length_le hge)
      rw [TK.out] at HW
      go_wp2_with fail
      go_ret
      exact ⟨_, rfl, HW.out, HO.out⟩

theorem wt_upto {xs ys : List Wt} (hl : xs.length = ys.length) (h : ∀ j, j < xs.length → xs[j]? = ys[j]?) : xs = ys := by
  apply List.ext_getElem?
  intro j
  rcases Nat.lt_or_ge j xs.length with c | c
  · exact h j c
  · rw [List.getElem?_eq_none c, List.getElem?_eq_none (by omega)]
set_option maxHeartbeats 2000000 in
theorem same14_any (v u : Value) (xs ys : List Wt) (w : World) (hx : ReadsW w v xs) (hy : ReadsW w u ys) (hm : xs.length ≤ 1000000) (hm2 : ys.length ≤ 1000000) :
    Calls Try.prog 13 #[v, u] w fun e w' => e = .returned (.bool (decide (xs = ys))) ∧ Only none_ w w' := by
  obtain ⟨a, ca, rfl, ha⟩ := hx
  obtain ⟨b, cb, rfl, hb⟩ := hy
  by_cases hl : xs.length = ys.length
  · have HA := Lib.hid ha
    have HB := Lib.hid hb
    have t : ((xs.length : Int) != (ys.length : Int)) = false := by simp [hl]
    have HL := Lib.hid hl
    clear ha hb
    have hl' : xs.length ≤ ys.length := by omega
    clear hl
    go_enter Try.func13, Try.ntmps13
    go_wp2_with fail
    go_loopw [5] (fun i wr => ∃ k : Nat, k ≤ xs.length ∧ i = .int .i64 k ∧ Only none_ w wr ∧ ∀ j, j < k → xs[j]? = ys[j]?) (fun i _ => xs.length - (intOf i).toNat)
    case atStart => exact ⟨0, Nat.zero_le _, rfl, Only.refl _ _, fun j hj => by omega⟩
    case round =>
      obtain ⟨k, hk, rfl, o, eq⟩ := hrel
      have O := Lib.hid o
      have EQ := Lib.hid eq
      clear o eq
      by_cases hlt : k < xs.length
      · obtain ⟨x, hx⟩ : ∃ x, xs[k]? = some x := ⟨_, List.getElem?_eq_getElem hlt⟩
        have hlt2 : k < ys.length := by omega
        obtain ⟨y, hy⟩ : ∃ y, ys[k]? = some y := ⟨_, List.getElem?_eq_getElem hlt2⟩
        obtain ⟨g1, o1, rfl, c1, c2⟩ := HA.out k x hx
        obtain ⟨g2, o2, rfl, c3, c4⟩ := HB.out k y hy
        have d1 := O.out.cell c1 (fun s => s)
        have d2 := O.out.cell c2 (fun s => s)
        have d3 := O.out.cell c3 (fun s => s)
        have d4 := O.out.cell c4 (fun s => s)
        have HX := Lib.hid hx
        have HY := Lib.hid hy
        have er := fun w => eq_wt x y w
        clear hx hy c1 c2 c3 c4 HA HB
        by_cases e : x = y
        · rw [decide_eq_true e] at er
          have E2 := Lib.hid e
          clear e
          go_wp2_with fail
          go_quiet (fail)
          go_wp2_with fail
          go_roundw
          case rel => exact ⟨k + 1, by omega, by go_num, O.out.drewN _, fun j hj => by
            rcases Nat.lt_or_ge j k with c | c
            · exact EQ.out j c
            · obtain rfl : j = k := by omega
              rw [HX.out, HY.out, E2.out]⟩
          case measure => simp [intOf]; omega
        · rw [decide_eq_false e] at er
          have NE := Lib.hid (show decide (xs = ys) = false from by
            have : ¬ xs = ys := fun q => by
              have := HX.out
              rw [q, HY.out] at this
              injection this with this
              exact e this.symm
            simpa using this)
          clear e
          go_wp2_with fail
          go_quiet (fail)
          go_wp2_with fail
          go_ret
          exact ⟨by rw [NE.out]; rfl, O.out.drewN _⟩
      · have YE := Lib.hid (show decide (xs = ys) = true from by
          have : xs = ys := wt_upto HL.out (fun j hj => EQ.out j (by omega))
          simpa using this)
        have hge : xs.length ≤ k := by omega
        go_wp2_with fail
        go_ret
        exact ⟨by rw [YE.out]; rfl, O.out⟩
  · have t : ((xs.length : Int) != (ys.length : Int)) = true := by simp; omega
    have NE := Lib.hid (show decide (xs = ys) = false from by
      have : ¬ xs = ys := fun q => hl (by rw [q])
      simpa using this)
    clear ha hb hl
    go_enter Try.func13, Try.ntmps13
    go_wp2_with fail
    go_ret
    exact ⟨by rw [NE.out]; rfl, Only.refl _ _⟩
set_option maxHeartbeats 2000000 in
theorem has14_q (v : Value) (xs : List Int) (x : Int) (w : World) (h : Reads w v xs) (hm : xs.length ≤ 1000000) :
    Calls Try.prog 24 #[v, .int .i64 x] w fun e w' => e = .returned (.bool (decide (x ∈ xs))) ∧ w' = w := by
  obtain ⟨A, cap, rfl, hc⟩ := h
  have H := Lib.hid hc
  clear hc
  go_enter Try.func24, Try.ntmps24
  go_wp2_with fail
  go_loopw [5] (fun i wr => w = wr ∧ ∃ k : Nat, k ≤ xs.length ∧ i = .int .i64 k ∧ (¬ x ∈ xs.take k)) (fun i _ => xs.length - (intOf i).toNat)
  case atStart => exact ⟨rfl, 0, Nat.zero_le _, rfl, by simp⟩
  case round =>
    obtain ⟨hw, k, hk, rfl, n⟩ := hrel
    subst hw
    have NI := Lib.hid n
    clear n
    by_cases hlt : k < xs.length
    · obtain ⟨y, hy⟩ : ∃ y, xs[k]? = some y := ⟨_, List.getElem?_eq_getElem hlt⟩
      obtain ⟨g1, o1, rfl, c1⟩ := H.out k y hy
      have HX := Lib.hid (sxtake hy)
      have HM := Lib.hid (List.mem_of_getElem? hy)
      clear hy H
      by_cases e : y = x
      · have t : (y == x) = true := by simp [e]
        have E2 := Lib.hid e
        clear e
        go_wp2_with fail
        go_ret
        refine ⟨?_, rfl⟩
        rw [decide_eq_true (by rw [← E2.out]; exact HM.out)]
        rfl
      · have t : (y == x) = false := by simp [e]
        have E2 := Lib.hid e
        clear e
        go_wp2_with fail
        go_roundw
        case rel =>
          refine ⟨by trivial, k + 1, by omega, by go_num, ?_⟩
          rw [HX.out, List.mem_append, List.mem_singleton]
          rintro (q | q)
          · exact NI.out q
          · exact E2.out q.symm
        case measure => simp [intOf]; omega
    · have hge : xs.length ≤ k := by omega
      have TK := Lib.hid (List.take_of_length_le hge)
      rw [TK.out] at NI
      clear hm
      go_wp2_with fail
      go_ret
      refine ⟨?_, rfl⟩
      rw [decide_eq_false NI.out]
      rfl
end Go.Proofs.Ytgngaimbpnlkjaa

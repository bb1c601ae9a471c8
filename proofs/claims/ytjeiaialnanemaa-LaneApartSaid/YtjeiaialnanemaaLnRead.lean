/- Lanes in memory: what only reads: has, lane, at, Block, Len, Head, Last. -/
import Derived.Test.YtjeiaialnanemaaLn
namespace Go.Proofs.Ytjeiaialnanemaa
open Go.RowKit Go.Maps
set_option linter.unusedVariables false

theorem lhas_any {p r b : Nat} {vs : List Value} {M : Nat → Prop} {n room : Nat} {ss : List Sd} (x : Int) (w : World) (h : LL w p r b vs M n room ss) :
    Calls Try.prog 28 #[.pointer (some ⟨p, 0, none⟩), .int .i64 x] w fun e w' => e = .returned (.bool (decide (0 ≤ x ∧ x < n))) ∧ w = w' := by
  have c0 : w.cell? ⟨p, 0, none⟩ = some (.slice (some ⟨r, 0, none⟩) n n) := by rw [h.row.cell]; rfl
  clear h
  by_cases h0 : 0 ≤ x
  · have d0 : decide (0 ≤ x) = true := by simpa using h0
    have E := Lib.hid (show decide (0 ≤ x ∧ x < n) = decide (x < n) from by simp [h0])
    clear h0
    go_enter Try.func28, Try.ntmps28
    go_wp2_with fail
    go_ret
    exact ⟨by rw [E.out]; rfl, rfl⟩
  · have d0 : decide (0 ≤ x) = false := by simpa using h0
    have E := Lib.hid (show decide (0 ≤ x ∧ x < n) = false from by simp [h0])
    clear h0
    go_enter Try.func28, Try.ntmps28
    go_wp2_with fail
    go_ret
    exact ⟨by rw [E.out]; rfl, rfl⟩

/-- a lane -/
theorem llane_any {p r b : Nat} {vs : List Value} {M : Nat → Prop} {n room : Nat} {ss : List Sd} (x : Int) (w : World) (h : LL w p r b vs M n room ss) (hn : n ≤ 1000) :
    Calls Try.prog 31 #[.pointer (some ⟨p, 0, none⟩), .int .i64 x] w fun e w' => ∃ v, e = .returned v ∧ OwnsInts w 0 v (laneL ss x) ∧ w = w' := by
  have HAS := Lib.hid (lhas_any x w h)
  have c0 : w.cell? ⟨p, 0, none⟩ = some (.slice (some ⟨r, 0, none⟩) n n) := by rw [h.row.cell]; rfl
  by_cases hx : 0 ≤ x ∧ x < n
  · have E := Lib.hid (show decide (0 ≤ x ∧ x < n) = true from decide_eq_true hx)
    obtain ⟨k, rfl⟩ : ∃ k : Nat, x = k := ⟨x.toNat, by omega⟩
    have hk : k < n := by omega
    obtain ⟨v, hv⟩ : ∃ v, vs[k]? = some v := ⟨_, List.getElem?_eq_getElem (by rw [h.len]; exact hk)⟩
    have LV := Lib.hid (h.lanes k v hv)
    have c1 : w.cell? ⟨r, k, none⟩ = some v := by rw [h.rows.cell]; simpa using hv
    clear h hx hv
    go_enter Try.func31, Try.ntmps31
    go_wp2_with fail
    (with_reducible refine HAS.out.mono ?_)
    rintro e w' ⟨rfl, rfl⟩
    rw [E.out]
    go_wp2_with fail
    go_ret
    exact ⟨v, rfl, LV.out, rfl⟩
  · have E := Lib.hid (show decide (0 ≤ x ∧ x < n) = false from decide_eq_false hx)
    have L0 := Lib.hid (h.out hx)
    clear h hx
    go_enter Try.func31, Try.ntmps31
    go_wp2_with fail
    (with_reducible refine HAS.out.mono ?_)
    rintro e w' ⟨rfl, rfl⟩
    rw [E.out]
    go_wp2_with fail
    go_ret
    exact ⟨_, rfl, by rw [L0.out]; exact Owns.start _ _ _ _ _, rfl⟩

/-- what stands at a place -/
def atI (l : List Int) (x : Int) : Int := if 0 ≤ x then (l[x.toNat]?).getD 0 else 0
def atB (l : List Int) (x : Int) : Bool := decide (0 ≤ x ∧ x < l.length)
theorem at_head (l : List Int) : atI l 0 = headI l ∧ atB l 0 = someB l := by
  cases l <;> simp [atI, atB, headI, someB]
theorem at_last (l : List Int) : atI l ((l.length : Int) - 1) = lastI l ∧ atB l ((l.length : Int) - 1) = someB l := by
  cases hl : l with
  | nil => simp [atI, atB, lastI, someB]
  | cons a m =>
    rw [← hl]
    have p : 0 < l.length := by rw [hl]; simp
    refine ⟨?_, ?_⟩
    · unfold atI lastI
      rw [if_pos (by omega), List.getLast?_eq_getElem?, show ((l.length : Int) - 1).toNat = l.length - 1 by omega]
    · unfold atB someB
      rw [decide_eq_true (by omega), hl]; rfl
theorem at_any (v : Value) (l : List Int) (x : Int) (w : World) (h : Reads w v l) (hl : l.length ≤ 1000) :
    Calls Try.prog 32 #[v, .int .i64 x] w fun e w' => e = .returned (.tuple #[.int .i64 (atI l x), .bool (atB l x)]) ∧ w = w' := by
  obtain ⟨a, cap, rfl, hc⟩ := h
  by_cases h0 : x < 0
  · have d0 : decide (x < 0) = true := by simpa using h0
    have E := Lib.hid (show atI l x = 0 ∧ atB l x = false from ⟨by unfold atI; rw [if_neg (by omega)], by unfold atB; rw [decide_eq_false (by omega)]⟩)
    clear h0 hc
    go_enter Try.func32, Try.ntmps32
    go_wp2_with fail
    go_ret2
    exact ⟨by rw [E.out.1, E.out.2]; rfl, rfl⟩
  · have d0 : decide (x < 0) = false := by simpa using h0
    by_cases h1 : (l.length : Int) ≤ x
    · have d1 : decide ((l.length : Int) ≤ x) = true := by simpa using h1
      have E := Lib.hid (show atI l x = 0 ∧ atB l x = false from ⟨by unfold atI; rw [if_pos (by omega), List.getElem?_eq_none (by omega)]; rfl, by unfold atB; rw [decide_eq_false (by omega)]⟩)
      clear h0 h1 hc
      go_enter Try.func32, Try.ntmps32
      go_wp2_with fail
      go_ret2
      exact ⟨by rw [E.out.1, E.out.2]; rfl, rfl⟩
    · obtain ⟨k, rfl⟩ : ∃ k : Nat, x = k := ⟨x.toNat, by omega⟩
      have hk : k < l.length := by omega
      have d1 : decide ((l.length : Int) ≤ (k : Int)) = false := by simpa using h1
      have d2 : decide (l.length ≤ k) = false := by simpa using hk
      obtain ⟨y, hy⟩ : ∃ y, l[k]? = some y := ⟨_, List.getElem?_eq_getElem hk⟩
      obtain ⟨g, o, rfl, c⟩ := hc k y hy
      have E := Lib.hid (show atI l k = y ∧ atB l k = true from ⟨by unfold atI; rw [if_pos (by omega), Int.toNat_natCast, hy]; rfl, by unfold atB; rw [decide_eq_true (by omega)]⟩)
      clear h0 h1 hc hy
      go_enter Try.func32, Try.ntmps32
      go_wp2_with fail
      go_ret2
      exact ⟨by rw [E.out.1, E.out.2]; rfl, rfl⟩
theorem lhead_any {p : Nat} {M : Nat → Prop} {n room : Nat} {ss : List Sd} (x : Int) (w : World) (h : Ln w p M n room ss) (hn : n ≤ 1000) (hl : ss.length ≤ 1000) :
    Calls Try.prog 16 #[.pointer (some ⟨p, 0, none⟩), .int .i64 x] w fun e w' => e = .returned (.tuple #[.int .i64 (headI (laneL ss x)), .bool (someB (laneL ss x))]) ∧ w = w' := by
  obtain ⟨r, b, vs, h⟩ := h
  have LN := Lib.hid (llane_any x w h hn)
  have le := lane_le ss x
  clear h
  generalize laneL ss x = l at LN le ⊢
  go_enter Try.func16, Try.ntmps16
  go_wp2_with fail
  (with_reducible refine LN.out.mono ?_)
  rintro e w' ⟨v, rfl, ho, rfl⟩
  have AT := Lib.hid (at_any v l 0 w (Reads.of_owns ho) (by omega))
  rw [(at_head l).1, (at_head l).2] at AT
  clear ho LN
  go_wp2_with fail
  (with_reducible refine AT.out.mono ?_)
  rintro e w' ⟨rfl, rfl⟩
  go_wp2_with fail
  go_ret2
  exact ⟨rfl, rfl⟩
theorem llast_any {p : Nat} {M : Nat → Prop} {n room : Nat} {ss : List Sd} (x : Int) (w : World) (h : Ln w p M n room ss) (hn : n ≤ 1000) (hl : ss.length ≤ 1000) :
    Calls Try.prog 18 #[.pointer (some ⟨p, 0, none⟩), .int .i64 x] w fun e w' => e = .returned (.tuple #[.int .i64 (lastI (laneL ss x)), .bool (someB (laneL ss x))]) ∧ w = w' := by
  obtain ⟨r, b, vs, h⟩ := h
  have LN := Lib.hid (llane_any x w h hn)
  have le := lane_le ss x
  clear h
  generalize laneL ss x = l at LN le ⊢
  go_enter Try.func18, Try.ntmps18
  go_wp2_with fail
  (with_reducible refine LN.out.mono ?_)
  rintro e w' ⟨v, rfl, ho, rfl⟩
  have rd := Reads.of_owns ho
  have AT := Lib.hid (at_any v l ((l.length : Int) - 1) w rd (by omega))
  rw [(at_last l).1, (at_last l).2] at AT
  obtain ⟨a, cap, rfl, hc⟩ := rd
  have hwi : IntKind.i64.wrap ((l.length : Int) - 1) = (l.length : Int) - 1 := by rw [IntKind.wrap_i64]; omega
  clear ho hc LN
  go_wp2_with fail
  (with_reducible refine AT.out.mono ?_)
  rintro e w' ⟨rfl, rfl⟩
  go_wp2_with fail
  go_ret2
  exact ⟨rfl, rfl⟩
theorem blockI_no {ss : List Sd} {x : Int} (h : hasK ss x = false) : blockI ss x = 0 := by
  rw [← tk_has] at h
  unfold blockI
  cases hk : tkAt ss x with
  | none => rfl
  | some k => rw [hk] at h; cases h
/-- what a lookup finds, whether there is anything or not -/
theorem Reads11.look {D : DataW Unit} {ss : List Sd} (h : Reads11 D ss) (o : Once ss) (x c : Int) (e : D.atKey (.int .i64 x) (.lit (.int .i64 0)) = .lit (.int .i64 c)) : c = blockI ss x := by
  cases hc : hasK ss x with
  | true => exact h.at_ o x c _ hc e
  | false =>
    have := h.1 x
    rw [hc] at this
    rw [atKey_of_not_has this] at e
    rw [blockI_no hc]
    injection e with e
    injection e with _ e
    exact e.symm
theorem lblock_any {p : Nat} {M : Nat → Prop} {n room : Nat} {ss : List Sd} (x : Int) (w : World) (h : Ln w p M n room ss) (hx : (Lit.int .i64 x).wf = true) :
    Calls Try.prog 20 #[.pointer (some ⟨p, 0, none⟩), .int .i64 x] w fun e w' => e = .returned (.tuple #[.int .i64 (blockI ss x), .bool (tkAt ss x).isSome]) ∧ w = w' := by
  obtain ⟨r, b, vs, h⟩ := h
  have c2 : w.cell? ⟨p, 2, none⟩ = some (.map (some b)) := by rw [h.row.cell]; rfl
  obtain ⟨D, hown, hr⟩ := h.md
  have hkey := keyOf_int_mk Try.underlying3 hx
  have OW := Lib.hid hown
  have q := hr.1 x
  have RD := Lib.hid (hr.look h.once x)
  rw [tk_has]
  clear h hown hr hx
  go_enter Try.func20, Try.ntmps20
  go_wp2_with (first
    | (at_lookup; refine wpList_lookup_own_ok_int _ rfl _ _ 53 rfl 3 3 .i64 lawI Try.underlying53 Try.underlying3 (zeroI _) b _ D rfl OW.out _ _ rfl hkey ?_; intro c1 hat hwc)
    | go_in)
  go_ret2
  rw [RD.out _ hat]
  exact ⟨rfl, rfl⟩
theorem llen_any {p : Nat} {M : Nat → Prop} {n room : Nat} {ss : List Sd} (w : World) (h : Ln w p M n room ss) :
    Calls Try.prog 22 #[.pointer (some ⟨p, 0, none⟩)] w fun e w' => e = .returned (.int .i64 ss.length) ∧ w = w' := by
  obtain ⟨r, b, vs, h⟩ := h
  have c2 : w.cell? ⟨p, 2, none⟩ = some (.map (some b)) := by rw [h.row.cell]; rfl
  have LEN := h.md.len h.once
  clear h
  go_enter Try.func22, Try.ntmps22
  go_wp2
  go_ret
  exact ⟨rfl, rfl⟩
end Go.Proofs.Ytjeiaialnanemaa

/- Texts of the layers below, side by side. -/
import Derived.Test.YtfbpjobobdidiaaGreatDoorGrpA
import Derived.Deep.RegionLaw
import Derived.Maps.AppendAt
import Derived.Deep.RegionHeld3
/- Lanes in memory: a row of slices, one for each block, and a map of where tickets stand; New, and what only reads. -/
namespace Go.Proofs.YtfbpjobobdidiaaGreatDoor
open Go.RowKit Go.Maps
set_option linter.unusedVariables false
set_option maxRecDepth 100000

/-- lanes at block p: their slices at block r, the map at block b; all their blocks are among M -/
structure LL (w : World) (p r b : Nat) (vs : List Value) (M : Nat → Prop) (n room : Nat) (ss : List Sd) : Prop where
  row : Row w p 142 #[.slice (some ⟨r, 0, none⟩) n n, .int .i64 room, .map (some b)]
  rows : Row w r 209 vs.toArray
  len : vs.length = n
  lanes : ∀ (i : Nat) v, vs[i]? = some v → OwnsInts w 0 v (laneL ss (i : Int))
  apart : ∀ (i j : Nat) u v g, vs[i]? = some u → vs[j]? = some v → u.ownBlock = some g → v.ownBlock = some g → i = j
  md : Md w b ss
  once : Once ss
  inb : ∀ s ∈ ss, 0 ≤ s.b ∧ s.b < n
  mp : M p
  mr : M r
  mb : M b
  mv : ∀ (i : Nat) v g, vs[i]? = some v → v.ownBlock = some g → M g
  lt : ∀ g, M g → g < w.heap.size
theorem LL.keep {w w' : World} {p r b : Nat} {vs : List Value} {M : Nat → Prop} {n room : Nat} {ss : List Sd} (h : LL w p r b vs M n room ss) {S : Nat → Prop} (o : Only S w w') (hn : ∀ g, M g → ¬ S g) : LL w' p r b vs M n room ss :=
  ⟨o.row h.row (hn p h.mp), o.row h.rows (hn r h.mr), h.len, fun i v hv => (h.lanes i v hv).keep o (fun g hg => hn g (h.mv i v g hv hg)), h.apart, h.md.keep o (hn b h.mb), h.once, h.inb, h.mp, h.mr, h.mb, h.mv, fun g hg => Nat.lt_of_lt_of_le (h.lt g hg) o.size⟩
theorem LL.still {w w' : World} {p r b : Nat} {vs : List Value} {M : Nat → Prop} {n room : Nat} {ss : List Sd} (h : LL w p r b vs M n room ss) (o : Only none_ w w') : LL w' p r b vs M n room ss := h.keep o (fun _ _ s => s)
theorem LL.out {w : World} {p r b : Nat} {vs : List Value} {M : Nat → Prop} {n room : Nat} {ss : List Sd} (h : LL w p r b vs M n room ss) {x : Int} (hx : ¬ (0 ≤ x ∧ x < n)) : laneL ss x = [] := by
  unfold laneL
  rw [List.map_eq_nil_iff, List.filter_eq_nil_iff]
  intro s hs e
  have e : s.b = x := by simpa using e
  have := h.inb s hs
  omega
/-- lanes at block p, wherever their parts lie -/
def Ln (w : World) (p : Nat) (M : Nat → Prop) (n room : Nat) (ss : List Sd) : Prop := ∃ r b vs, LL w p r b vs M n room ss
theorem Ln.keep {w w' : World} {p : Nat} {M : Nat → Prop} {n room : Nat} {ss : List Sd} (h : Ln w p M n room ss) {S : Nat → Prop} (o : Only S w w') (hn : ∀ g, M g → ¬ S g) : Ln w' p M n room ss := by
  obtain ⟨r, b, vs, h⟩ := h
  exact ⟨r, b, vs, h.keep o hn⟩
theorem Ln.still {w w' : World} {p : Nat} {M : Nat → Prop} {n room : Nat} {ss : List Sd} (h : Ln w p M n room ss) (o : Only none_ w w') : Ln w' p M n room ss := h.keep o (fun _ _ s => s)
/-- behind a call: its blocks are those that it had, and new ones -/
def LnTo (w : World) (p : Nat) (M : Nat → Prop) (n room : Nat) (ss : List Sd) (w' : World) : Prop := (∃ M' : Nat → Prop, Ln w' p M' n room ss ∧ ∀ g, M' g → M g ∨ w.heap.size ≤ g) ∧ Only M w w'
theorem Ln.to {w w' : World} {p : Nat} {M : Nat → Prop} {n room : Nat} {ss : List Sd} (h : Ln w p M n room ss) (o : Only none_ w w') : LnTo w p M n room ss w' := ⟨⟨M, h.still o, fun g hg => .inl hg⟩, o.more (fun _ _ k => k.elim)⟩

theorem nil1 (v : Value) : ([v] : List Value).length = 1 := rfl
theorem info_row : (Tryz.prog.info? 209).map (fun i => (i.zero, i.size, i.bytes)) = some (some (.slice none 0 0), 1, 24) := by kernel_rfl
set_option maxHeartbeats 1000000 in
theorem lnew_yes (n room : Nat) (w : World) (h1 : 1 ≤ n) (h2 : n ≤ 256) (h3 : 1 ≤ room) (h4 : room ≤ 128) :
    Calls Tryz.prog 34 #[.int .i64 n, .int .i64 room] w fun e w' => ∃ p, e = .returned (.tuple #[.pointer (some ⟨p, 0, none⟩), .int .i64 0]) ∧ (∃ M : Nat → Prop, Ln w' p M n room [] ∧ ∀ g, M g → w.heap.size ≤ g) ∧ Only none_ w w' := by
  have hmm := @run_makeMap Tryz.prog
  obtain ⟨i0, hi0, hz0, hz1, hz2⟩ := info_parts info_row
  have MK := run_make_flat (P := Tryz.prog) (c := fun v : Value => [v]) (.slice none 0 0) nil1 (by decide) 139 209 i0 (.slice none 0 0) Tryz.underlying139 hi0 hz0 hz1 rfl .i64 .i64 n (by rw [hz2]; omega) (by omega)
  have d1 : decide ((n : Int) < 1) = false := by simp; omega
  have d2 : decide ((256 : Int) < (n : Int)) = false := by simp; omega
  have d3 : decide ((room : Int) < 1) = false := by simp; omega
  have d4 : decide ((128 : Int) < (room : Int)) = false := by simp; omega
  have FL := Lib.hid (show flat (fun v : Value => [v]) (List.replicate n (.slice none 0 0)) = (List.replicate n (.slice none 0 0)).toArray from by unfold flat; simp)
  rw [FL.out] at MK
  clear h1 h2 h3 h4 hi0 hz0 hz1 hz2
  generalize hVS : List.replicate n (Value.slice none 0 0) = vs at MK
  have VS := Lib.hid hVS
  clear hVS FL
  go_enter Tryz.func34, Tryz.ntmps34
  go_wp2
  go_ret2
  have r0 := Row.fresh w 209 vs.toArray
  have o0 := World.ownsMap_made (H := Unit) (w.alloc (.cells vs.toArray 209)) Tryz.prog 3 (plainElem Tryz.prog 3)
  have r1 := Row.fresh ((w.alloc (.cells vs.toArray 209)).alloc (.map #[] 0)) 142 #[.slice (some ⟨w.heap.size, 0, none⟩) n n, .int .i64 room, .map (some (w.heap.size + 1))]
  simp only [World.size_alloc] at r1 o0
  have ev : ∀ (i : Nat) v, vs[i]? = some v → v = .slice none 0 0 := fun i v hv => by
    rw [← VS.out] at hv
    exact List.eq_of_mem_replicate (List.mem_of_getElem? hv)
  refine ⟨w.heap.size + 1 + 1, rfl, ⟨fun g => w.heap.size ≤ g ∧ g < w.heap.size + 3, ⟨w.heap.size, w.heap.size + 1, vs, ?_⟩, fun g hg => hg.1⟩, (((Only.refl _ _).alloc _).alloc _).alloc _⟩
  exact {
    row := r1
    rows := (r0.alloc _).alloc _
    len := by rw [← VS.out]; simp
    lanes := fun i v hv => by rw [ev i v hv]; exact Owns.start _ _ _ _ _
    apart := fun i j u v g hu hv k _ => by rw [ev i u hu] at k; cases k
    md := ⟨_, o0.alloc _, Reads11.nil⟩
    once := List.Pairwise.nil
    inb := fun s hs => by cases hs
    mp := by constructor <;> omega
    mr := by constructor <;> omega
    mb := by constructor <;> omega
    mv := fun i v g hv k => by rw [ev i v hv] at k; cases k
    lt := fun g hg => by simp only [World.size_alloc]; omega }
theorem lnew_no (n room : Int) (w : World) (h : may11 n room = false) :
    Calls Tryz.prog 34 #[.int .i64 n, .int .i64 room] w fun e w' => e = .returned (.tuple #[.pointer none, .int .i64 1]) ∧ w = w' := by
  have h := of_decide_eq_false h
  by_cases h1 : n < 1
  · have d1 : decide (n < 1) = true := by simpa using h1
    clear h h1
    go_enter Tryz.func34, Tryz.ntmps34
    go_wp2
    go_ret2
    exact ⟨rfl, rfl⟩
  · have d1 : decide (n < 1) = false := by simpa using h1
    by_cases h2 : 256 < n
    · have d2 : decide (256 < n) = true := by simpa using h2
      clear h h1 h2
      go_enter Tryz.func34, Tryz.ntmps34
      go_wp2
      go_ret2
      exact ⟨rfl, rfl⟩
    · have d2 : decide (256 < n) = false := by simpa using h2
      by_cases h3 : room < 1
      · have d3 : decide (room < 1) = true := by simpa using h3
        clear h h1 h2 h3
        go_enter Tryz.func34, Tryz.ntmps34
        go_wp2
        go_ret2
        exact ⟨rfl, rfl⟩
      · have d3 : decide (room < 1) = false := by simpa using h3
        have d4 : decide (128 < room) = true := by simp; omega
        clear h h1 h2 h3
        go_enter Tryz.func34, Tryz.ntmps34
        go_wp2
        go_ret2
        exact ⟨rfl, rfl⟩
end Go.Proofs.YtfbpjobobdidiaaGreatDoor


/- Lanes in memory: what only reads: has, lane, at, Block, Len, Head, Last. -/
namespace Go.Proofs.YtfbpjobobdidiaaGreatDoor
open Go.RowKit Go.Maps
set_option linter.unusedVariables false
set_option maxRecDepth 100000

theorem lhas_any {p r b : Nat} {vs : List Value} {M : Nat → Prop} {n room : Nat} {ss : List Sd} (x : Int) (w : World) (h : LL w p r b vs M n room ss) :
    Calls Tryz.prog 145 #[.pointer (some ⟨p, 0, none⟩), .int .i64 x] w fun e w' => e = .returned (.bool (decide (0 ≤ x ∧ x < n))) ∧ w = w' := by
  have c0 : w.cell? ⟨p, 0, none⟩ = some (.slice (some ⟨r, 0, none⟩) n n) := by rw [h.row.cell]; rfl
  clear h
  by_cases h0 : 0 ≤ x
  · have d0 : decide (0 ≤ x) = true := by simpa using h0
    have E := Lib.hid (show decide (0 ≤ x ∧ x < n) = decide (x < n) from by simp [h0])
    clear h0
    go_enter Tryz.func145, Tryz.ntmps145
    go_wp2_with fail
    go_ret
    exact ⟨by rw [E.out]; rfl, rfl⟩
  · have d0 : decide (0 ≤ x) = false := by simpa using h0
    have E := Lib.hid (show decide (0 ≤ x ∧ x < n) = false from by simp [h0])
    clear h0
    go_enter Tryz.func145, Tryz.ntmps145
    go_wp2_with fail
    go_ret
    exact ⟨by rw [E.out]; rfl, rfl⟩

/-- a lane -/
theorem llane_any {p r b : Nat} {vs : List Value} {M : Nat → Prop} {n room : Nat} {ss : List Sd} (x : Int) (w : World) (h : LL w p r b vs M n room ss) (hn : n ≤ 1000) :
    Calls Tryz.prog 133 #[.pointer (some ⟨p, 0, none⟩), .int .i64 x] w fun e w' => ∃ v, e = .returned v ∧ OwnsInts w 0 v (laneL ss x) ∧ w = w' := by
  have HAS := Lib.hid (lhas_any x w h)
  have c0 : w.cell? ⟨p, 0, none⟩ = some (.slice (some ⟨r, 0, none⟩) n n) := by rw [h.row.cell]; rfl
  by_cases hx : 0 ≤ x ∧ x < n
  · have E := Lib.hid (show decide (0 ≤ x ∧ x < n) = true from decide_eq_true hx)
    obtain ⟨k, rfl⟩ : ∃ k : Nat, x = k := ⟨x.toNat, by omega⟩
    have hk : k < n := by omega
    obtain ⟨v, hv⟩ : ∃ v, vs[k]? = some v := ⟨_, List.getElem?_eq_getElem (by rw [h.len]; exact hk)⟩
    have LV := Lib.hid (h.lanes k v hv)
    have c1 : w.cell? ⟨r, k, none⟩ = some v := by rw [h.rows.cell]; simpa using hv
    clear h hx hv
    go_enter Tryz.func133, Tryz.ntmps133
    go_wp2_with fail
    (with_reducible refine HAS.out.mono ?_)
    rintro e w' ⟨rfl, rfl⟩
    rw [E.out]
    go_wp2_with fail
    go_ret
    exact ⟨v, rfl, LV.out, rfl⟩
  · have E := Lib.hid (show decide (0 ≤ x ∧ x < n) = false from decide_eq_false hx)
    have L0 := Lib.hid (h.out hx)
    clear h hx
    go_enter Tryz.func133, Tryz.ntmps133
    go_wp2_with fail
    (with_reducible refine HAS.out.mono ?_)
    rintro e w' ⟨rfl, rfl⟩
    rw [E.out]
    go_wp2_with fail
    go_ret
    exact ⟨_, rfl, by rw [L0.out]; exact Owns.start _ _ _ _ _, rfl⟩

/-- what stands at a place -/
def atI (l : List Int) (x : Int) : Int := if 0 ≤ x then (l[x.toNat]?).getD 0 else 0
def atB (l : List Int) (x : Int) : Bool := decide (0 ≤ x ∧ x < l.length)
theorem at_head (l : List Int) : atI l 0 = headI l ∧ atB l 0 = someB l := by
  cases l <;> simp [atI, atB, headI, someB]
theorem at_last (l : List Int) : atI l ((l.length : Int) - 1) = lastI l ∧ atB l ((l.length : Int) - 1) = someB l := by
  cases hl : l with
  | nil => simp [atI, atB, lastI, someB]
  | cons a m =>
    rw [← hl]
    have p : 0 < l.length := by rw [hl]; simp
    refine ⟨?_, ?_⟩
    · unfold atI lastI
      rw [if_pos (by omega), List.getLast?_eq_getElem?, show ((l.length : Int) - 1).toNat = l.length - 1 by omega]
    · unfold atB someB
      rw [decide_eq_true (by omega), hl]; rfl
theorem at_any (v : Value) (l : List Int) (x : Int) (w : World) (h : Reads w v l) (hl : l.length ≤ 1000) :
    Calls Tryz.prog 134 #[v, .int .i64 x] w fun e w' => e = .returned (.tuple #[.int .i64 (atI l x), .bool (atB l x)]) ∧ w = w' := by
  obtain ⟨a, cap, rfl, hc⟩ := h
  by_cases h0 : x < 0
  · have d0 : decide (x < 0) = true := by simpa using h0
    have E := Lib.hid (show atI l x = 0 ∧ atB l x = false from ⟨by unfold atI; rw [if_neg (by omega)], by unfold atB; rw [decide_eq_false (by omega)]⟩)
    clear h0 hc
    go_enter Tryz.func134, Tryz.ntmps134
    go_wp2_with fail
    go_ret2
    exact ⟨by rw [E.out.1, E.out.2]; rfl, rfl⟩
  · have d0 : decide (x < 0) = false := by simpa using h0
    by_cases h1 : (l.length : Int) ≤ x
    · have d1 : decide ((l.length : Int) ≤ x) = true := by simpa using h1
      have E := Lib.hid (show atI l x = 0 ∧ atB l x = false from ⟨by unfold atI; rw [if_pos (by omega), List.getElem?_eq_none (by omega)]; rfl, by unfold atB; rw [decide_eq_false (by omega)]⟩)
      clear h0 h1 hc
      go_enter Tryz.func134, Tryz.ntmps134
      go_wp2_with fail
      go_ret2
      exact ⟨by rw [E.out.1, E.out.2]; rfl, rfl⟩
    · obtain ⟨k, rfl⟩ : ∃ k : Nat, x = k := ⟨x.toNat, by omega⟩
      have hk : k < l.length := by omega
      have d1 : decide ((l.length : Int) ≤ (k : Int)) = false := by simpa using h1
      have d2 : decide (l.length ≤ k) = false := by simpa using hk
      obtain ⟨y, hy⟩ : ∃ y, l[k]? = some y := ⟨_, List.getElem?_eq_getElem hk⟩
      obtain ⟨g, o, rfl, c⟩ := hc k y hy
      have E := Lib.hid (show atI l k = y ∧ atB l k = true from ⟨by unfold atI; rw [if_pos (by omega), Int.toNat_natCast, hy]; rfl, by unfold atB; rw [decide_eq_true (by omega)]⟩)
      clear h0 h1 hc hy
      go_enter Tryz.func134, Tryz.ntmps134
      go_wp2_with fail
      go_ret2
      exact ⟨by rw [E.out.1, E.out.2]; rfl, rfl⟩
theorem lhead_any {p : Nat} {M : Nat → Prop} {n room : Nat} {ss : List Sd} (x : Int) (w : World) (h : Ln w p M n room ss) (hn : n ≤ 1000) (hl : ss.length ≤ 1000) :
    Calls Tryz.prog 100 #[.pointer (some ⟨p, 0, none⟩), .int .i64 x] w fun e w' => e = .returned (.tuple #[.int .i64 (headI (laneL ss x)), .bool (someB (laneL ss x))]) ∧ w = w' := by
  obtain ⟨r, b, vs, h⟩ := h
  have LN := Lib.hid (llane_any x w h hn)
  have le := lane_le ss x
  clear h
  generalize laneL ss x = l at LN le ⊢
  go_enter Tryz.func100, Tryz.ntmps100
  go_wp2_with fail
  (with_reducible refine LN.out.mono ?_)
  rintro e w' ⟨v, rfl, ho, rfl⟩
  have AT := Lib.hid (at_any v l 0 w (Reads.of_owns ho) (by omega))
  rw [(at_head l).1, (at_head l).2] at AT
  clear ho LN
  go_wp2_with fail
  (with_reducible refine AT.out.mono ?_)
  rintro e w' ⟨rfl, rfl⟩
  go_wp2_with fail
  go_ret2
  exact ⟨rfl, rfl⟩
theorem llast_any {p : Nat} {M : Nat → Prop} {n room : Nat} {ss : List Sd} (x : Int) (w : World) (h : Ln w p M n room ss) (hn : n ≤ 1000) (hl : ss.length ≤ 1000) :
    Calls Tryz.prog 108 #[.pointer (some ⟨p, 0, none⟩), .int .i64 x] w fun e w' => e = .returned (.tuple #[.int .i64 (lastI (laneL ss x)), .bool (someB (laneL ss x))]) ∧ w = w' := by
  obtain ⟨r, b, vs, h⟩ := h
  have LN := Lib.hid (llane_any x w h hn)
  have le := lane_le ss x
  clear h
  generalize laneL ss x = l at LN le ⊢
  go_enter Tryz.func108, Tryz.ntmps108
  go_wp2_with fail
  (with_reducible refine LN.out.mono ?_)
  rintro e w' ⟨v, rfl, ho, rfl⟩
  have rd := Reads.of_owns ho
  have AT := Lib.hid (at_any v l ((l.length : Int) - 1) w rd (by omega))
  rw [(at_last l).1, (at_last l).2] at AT
  obtain ⟨a, cap, rfl, hc⟩ := rd
  have hwi : IntKind.i64.wrap ((l.length : Int) - 1) = (l.length : Int) - 1 := by rw [IntKind.wrap_i64]; omega
  clear ho hc LN
  go_wp2_with fail
  (with_reducible refine AT.out.mono ?_)
  rintro e w' ⟨rfl, rfl⟩
  go_wp2_with fail
  go_ret2
  exact ⟨rfl, rfl⟩
theorem blockI_no {ss : List Sd} {x : Int} (h : hasK ss x = false) : blockI ss x = 0 := by
  rw [← tk_has] at h
  unfold blockI
  cases hk : tkAt ss x with
  | none => rfl
  | some k => rw [hk] at h; cases h
/-- what a lookup finds, whether there is anything or not -/
theorem Reads11.look {D : DataW Unit} {ss : List Sd} (h : Reads11 D ss) (o : Once ss) (x c : Int) (e : D.atKey (.int .i64 x) (.lit (.int .i64 0)) = .lit (.int .i64 c)) : c = blockI ss x := by
  cases hc : hasK ss x with
  | true => exact h.at_ o x c _ hc e
  | false =>
    have := h.1 x
    rw [hc] at this
    rw [atKey_of_not_has this] at e
    rw [blockI_no hc]
    injection e with e
    injection e with _ e
    exact e.symm
theorem llen_any {p : Nat} {M : Nat → Prop} {n room : Nat} {ss : List Sd} (w : World) (h : Ln w p M n room ss) :
    Calls Tryz.prog 209 #[.pointer (some ⟨p, 0, none⟩)] w fun e w' => e = .returned (.int .i64 ss.length) ∧ w = w' := by
  obtain ⟨r, b, vs, h⟩ := h
  have c2 : w.cell? ⟨p, 2, none⟩ = some (.map (some b)) := by rw [h.row.cell]; rfl
  have LEN := h.md.len h.once
  clear h
  go_enter Tryz.func209, Tryz.ntmps209
  go_wp2
  go_ret
  exact ⟨rfl, rfl⟩
end Go.Proofs.YtfbpjobobdidiaaGreatDoor


/- Lanes in memory: Lane, Heads. -/
namespace Go.Proofs.YtfbpjobobdidiaaGreatDoor
open Go.RowKit Go.Maps
set_option linter.unusedVariables false
set_option maxRecDepth 100000

theorem one_cells_one (l : List Int) : ∀ u ∈ l.flatMap one, u.oneCell' = true := fun u hu => by
  obtain ⟨x, _, hx⟩ := List.mem_flatMap.1 hu
  exact one_one x u hx
theorem one_flat_len (l : List Int) : (l.flatMap one).length = l.length * 1 := by
  have := flat_size one1 l
  unfold flat at this
  simpa using this
set_option maxHeartbeats 1000000 in
theorem lheads_any {p : Nat} {M : Nat → Prop} {n room : Nat} {ss : List Sd} (w : World) (h : Ln w p M n room ss) (hl : ss.length ≤ 1000) (hn : n ≤ 1000) :
    Calls Tryz.prog 135 #[.pointer (some ⟨p, 0, none⟩)] w fun e w' => ∃ v', e = .returned v' ∧ OwnsInts w' w.heap.size v' (headsL ss n) ∧ Only none_ w w' := by
  obtain ⟨r, b, vs, h⟩ := h
  have KR := Lib.hid (fun w' (o : Only none_ w w') => h.still o)
  have c0 : w.cell? ⟨p, 0, none⟩ = some (.slice (some ⟨r, 0, none⟩) n n) := by rw [h.row.cell]; rfl
  clear h
  obtain ⟨i0, hi0, hz0, hz1, hz2⟩ := info_parts info_int8
  have I0 := Lib.hid hi0
  have I1 := Lib.hid hz0
  have I2 := Lib.hid hz1
  have I3 := Lib.hid hz2
  clear hi0 hz0 hz1 hz2
  go_enter Tryz.func135, Tryz.ntmps135
  go_wp2_with fail
  go_loopw [3, 13] (fun v i wr => ∃ (k : Nat), k ≤ n ∧ i = .int .i64 k ∧ OwnsInts wr w.heap.size v (headsL ss k) ∧ Only none_ w wr) (fun _ i _ => n - (intOf i).toNat)
  case atStart => exact ⟨0, Nat.zero_le _, rfl, Owns.start _ _ _ _ _, Only.refl _ _⟩
  case round =>
    obtain ⟨k, hk, rfl, hV, hO⟩ := hrel
    have HO := Lib.hid hO
    have HW := Lib.hid hV
    by_cases hlt : k < n
    · have hh := KR.out _ hO
      obtain ⟨u, hu⟩ : ∃ u, vs[k]? = some u := ⟨_, List.getElem?_eq_getElem (by rw [hh.len]; exact hlt)⟩
      have c1 : wr.cell? ⟨r, k, none⟩ = some u := by rw [hh.rows.cell]; simpa using hu
      have ll := lane_le ss (k : Int)
      have AT := Lib.hid (at_any u _ 0 wr (Reads.of_owns (hh.lanes k u hu)) (by omega))
      rw [(at_head _).1, (at_head _).2] at AT
      clear hO hV hh hu ll
      cases e : laneL ss (k : Int) with
      | nil =>
        have MORE := Lib.hid (heads_skip e)
        rw [e] at AT
        have E0 := Lib.hid (show headI [] = 0 ∧ someB [] = false from ⟨rfl, rfl⟩)
        rw [E0.out.1, E0.out.2] at AT
        clear e
        go_wp2_with fail
        (with_reducible refine AT.out.mono ?_)
        rintro e w' ⟨rfl, rfl⟩
        go_wp2_with fail
        go_roundw
        case rel => exact ⟨k + 1, by omega, by go_num, by rw [MORE.out]; exact HW.out, HO.out⟩
        case measure => simp [intOf]; omega
      | cons x l =>
        have MORE := Lib.hid (heads_yes e)
        rw [e] at AT
        have E0 := Lib.hid (show headI (x :: l) = x ∧ someB (x :: l) = true from ⟨rfl, rfl⟩)
        rw [E0.out.1, E0.out.2] at AT
        clear e
        have RF := Lib.hid (Row.fresh wr 3 #[.int .i64 x])
        have HW2 := Lib.hid (HW.out.still ((Only.refl none_ wr).alloc (.cells #[.int .i64 x] 3)))
        have HO2 := Lib.hid (HO.out.idle ((Only.refl none_ wr).alloc (.cells #[.int .i64 x] 3)))
        have sz : w.heap.size ≤ (wr.alloc (.cells #[.int .i64 x] 3)).heap.size := HO2.out.size
        have ln := heads_le ss k
        have l1 := Lib.hid (show (headsL ss k).length < 9223372036854775807 from by omega)
        have l2 := Lib.hid (show ((headsL ss k).length + 1) * 8 ≤ 140737488355328 from by omega)
        clear ln
        go_wp2_with fail
        (with_reducible refine AT.out.mono ?_)
        rintro e w' ⟨rfl, rfl⟩
        go_wp2_with (at_builtin; go_loud (refine wpList_append_one rfl (.tmp 23) (.tmp 25) 44 rfl (c := one) i0 _ 8 Tryz.underlying44 I0.out I1.out I2.out I3.out rfl (by decide) one1 one_one rfl HW2.out (y := x) rfl RF.out l1.out l2.out sz ?_; intro v5 w5 hown5 hO5))
        rw [← MORE.out] at hown5
        have HO5 := Lib.hid (HO2.out.trans hO5 (fun i hi q => by omega))
        have W5 := Lib.hid hown5
        clear hown5 hO5
        go_wp2_with fail
        go_roundw
        case rel => exact ⟨k + 1, by omega, by go_num, W5.out, HO5.out⟩
        case measure => simp [intOf]; omega
    · have e : k = n := by omega
      subst e
      go_wp2_with fail
      go_ret
      exact ⟨_, rfl, HW.out, HO.out⟩
end Go.Proofs.YtfbpjobobdidiaaGreatDoor


/- Lanes in memory: slices.Index, slices.Delete of one ticket, in place; a lane without one ticket. -/
namespace Go.Proofs.YtfbpjobobdidiaaGreatDoor
open Go.RowKit Go.Maps
set_option linter.unusedVariables false
set_option maxRecDepth 100000

theorem Owns.row11 {α : Type} {w : World} {base : Nat} {e : TypeId} {k : Nat} {c : α → List Value} {n g cap : Nat} {xs : List α} (h : Owns w base e k c (.slice (some ⟨g, 0, none⟩) n cap) xs) :
    ∃ cur : Array Value, Row w g e cur ∧ base ≤ g ∧ n = xs.length ∧ n ≤ cap ∧ cap ≤ maxLen ∧ cur.size = cap * k ∧ cur.toList.take (n * k) = xs.flatMap c := by
  obtain ⟨h1, h2⟩ := h
  rcases h2 with ⟨h', _⟩ | ⟨g', cap', cur, h', hb, hg, h3, h4, h5, h6⟩
  · simp at h'
  · simp only [Value.slice.injEq, Option.some.injEq, Addr.mk.injEq, and_true] at h'
    obtain ⟨rfl, rfl, rfl⟩ := h'
    exact ⟨cur, hg, hb, rfl, h3, h4, h5, h6⟩
theorem Row.lays {t : TypeId} {g : Nat} : ∀ (vs : List Value) (o : Nat) (w : World) (cs : Array Value), Row w g t cs →
    ∃ cs', Row (w.setCells g o vs) g t cs' ∧ cs'.size = cs.size ∧ ∀ j, cs'[j]? = if o ≤ j ∧ j < o + vs.length ∧ j < cs.size then vs[j - o]? else cs[j]?
  | [], o, w, cs, h => ⟨cs, h, rfl, fun j => by rw [if_neg (by simp; omega)]⟩
  | v :: r, o, w, cs, h => by
    obtain ⟨cs', h1, h2, h3⟩ := Row.lays r (o + 1) _ _ (h.put o v)
    refine ⟨cs', h1, by rw [h2, Array.size_setIfInBounds], fun j => ?_⟩
    rw [h3, Array.size_setIfInBounds, List.length_cons]
    by_cases q : o + 1 ≤ j ∧ j < o + 1 + r.length ∧ j < cs.size
    · rw [if_pos q, if_pos (by omega), show j - o = (j - (o + 1)) + 1 by omega, List.getElem?_cons_succ]
    · rw [if_neg q, Array.getElem?_setIfInBounds]
      by_cases e : o = j
      · subst e
        rw [if_pos rfl]
        by_cases l : o < cs.size
        · rw [if_pos l, if_pos (by omega), Nat.sub_self, List.getElem?_cons_zero]
        · rw [if_neg l, if_neg (by omega), Array.getElem?_eq_none (by omega)]
      · rw [if_neg e, if_neg (by omega)]
theorem Only.lays {S : Nat → Prop} {g : Nat} (hg : S g) {a : World} : ∀ (vs : List Value) (o : Nat) (w : World), Only S a w → Only S a (w.setCells g o vs)
  | [], _, _, h => h
  | v :: r, o, w, h => Only.lays hg r (o + 1) _ (h.into hg o v)
theorem one_len (l : List Int) : (l.flatMap one).length = l.length := by rw [one_flat_len, Nat.mul_one]
theorem one_erase (l : List Int) (k : Nat) : (l.eraseIdx k).flatMap one = (l.flatMap one).take k ++ (l.drop (k + 1)).flatMap one := by
  rw [List.eraseIdx_eq_take_drop_succ, List.flatMap_append, flat_takeL one1, Nat.mul_one]
/-- one is taken out, and those behind it lie one place nearer -/
theorem Owns.out11 {w : World} {g cap k n : Nat} {ss : List Int} (h : OwnsInts w 0 (.slice (some ⟨g, 0, none⟩) n cap) ss) (hk : k < ss.length) (z : Value) :
    OwnsInts ((w.drew.setCells g k ((ss.drop (k + 1)).flatMap one)).setCells g (n - 1) [z]) 0 (.slice (some ⟨g, 0, none⟩) (n - 1) cap) (ss.eraseIdx k) := by
  obtain ⟨cur, r, hb, hn, h3, h4, h5, h6⟩ := Owns.row11 h
  rw [Nat.mul_one] at h5 h6
  obtain ⟨c1, r1, s1, e1⟩ := Row.lays ((ss.drop (k + 1)).flatMap one) k _ _ r.drew
  obtain ⟨c2, r2, s2, e2⟩ := Row.lays [z] (n - 1) _ _ r1
  have e : c2.toList.take (n - 1) = (ss.eraseIdx k).flatMap one := by
    apply List.ext_getElem?
    intro j
    rcases Nat.lt_or_ge j (n - 1) with q | q
    · rw [List.getElem?_take_of_lt q, Array.getElem?_toList, e2, if_neg (by omega), e1, one_len, List.length_drop, one_erase]
      have e6 : ∀ j, j < n → cur[j]? = (ss.flatMap one)[j]? := fun j hj => by
        rw [← h6, List.getElem?_take_of_lt hj, Array.getElem?_toList]
      by_cases a : j < k
      · rw [if_neg (by omega), List.getElem?_append_left (by rw [List.length_take, one_len]; omega), List.getElem?_take_of_lt a, e6 j (by omega)]
      · rw [if_pos ⟨by omega, by omega, by omega⟩, List.getElem?_append_right (by rw [List.length_take, one_len]; omega), List.length_take, one_len]
        congr 1
        omega
    · rw [List.getElem?_eq_none (by rw [List.length_take]; omega), List.getElem?_eq_none (by rw [one_len, List.length_eraseIdx, if_pos hk]; omega)]
  refine ⟨?_, .inr ⟨g, cap, c2, by rw [List.length_eraseIdx, if_pos hk, hn], hb, r2, by rw [List.length_eraseIdx, if_pos hk]; omega, h4, by rw [s2, s1, Nat.mul_one]; exact h5, ?_⟩⟩
  · rw [one_flat_len]
  · rw [List.length_eraseIdx, if_pos hk, ← hn, Nat.mul_one]; exact e
theorem clear_one (g m n c : Nat) (ty : TypeId) (w : World) (cs : Array Value) (hn : n = 1) (r : Row w g 3 cs) (h : m + 1 ≤ cs.size) (zs : List Value) (hz : zs = [.int .i64 0]) :
    (Builtin.clear_ #[209] ty #[.slice (some ⟨g, m, none⟩) n c]).run Tryz.prog w = .ok (.tuple #[]) (w.setCells g m zs) := by
  subst hn
  have hst := run_storeCells_cells (P := Tryz.prog) g m zs 0 w (fun j hj => by
    have hj : j < 1 := by simpa [hz] using hj
    rw [r.cell, Array.getElem?_eq_getElem (by omega)]; rfl) (fun j hj => r.frozen _) (by intro v hv; rw [hz] at hv; rw [List.mem_singleton.1 hv]; rfl)
  simp only [Nat.add_zero] at hst
  have zi : ∀ w : World, (zeroValue 3).run Tryz.prog w = .ok (.int .i64 0) w := zeroI
  have e : (Builtin.zeroCells (Value.int .i64 0).cells 1).toList = zs := by rw [hz]; kernel_rfl
  clear hz
  simp [Builtin.clear_, run_underlying Tryz.underlying209, e, hst, zi]

set_option maxRecDepth 100000 in
set_option maxHeartbeats 4000000 in
theorem del11_any (g cap k : Nat) (ss : List Int) (w : World) (h : OwnsInts w 0 (.slice (some ⟨g, 0, none⟩) ss.length cap) ss) (hk : k < ss.length) (hl : ss.length ≤ 1000) :
    Calls Tryz.prog 160 #[.slice (some ⟨g, 0, none⟩) ss.length cap, .int .i64 k, .int .i64 ((k : Int) + 1)] w fun e w' => e = .returned (.slice (some ⟨g, 0, none⟩) (ss.length - 1) cap) ∧ OwnsInts w' 0 (.slice (some ⟨g, 0, none⟩) (ss.length - 1) cap) (ss.eraseIdx k) ∧ Only (fun j => j = g) w w' := by
  have OUT := Lib.hid (Owns.out11 h hk (.int .i64 0))
  obtain ⟨cur, r, _, _, hc1, hc2, hc3, hc4⟩ := Owns.row11 h
  rw [Nat.mul_one] at hc3
  have lw := r.lt
  have R := Lib.hid r
  have H := Lib.hid h
  obtain ⟨i0, hi0, hz0, hz1, hz2⟩ := info_parts info_int8
  have I0 := Lib.hid hi0
  have I2 := Lib.hid hz1
  clear hi0 hz0 hz1 hz2
  have CS := Lib.hid hc3
  have HC := Lib.hid hc1
  have q0 : ((k : Int) == (k : Int) + 1) = false := by simp; omega
  have q1 : (0 : Int) ≤ (k : Int) + 1 := by omega
  have q2 : (k : Int) + 1 ≤ (ss.length : Int) := by omega
  have q3 : ((k : Int) + 1).toNat = k + 1 := by omega
  have q4 : (k : Int) ≤ (k : Int) + 1 := by omega
  have q5 : k ≤ cap := by omega
  have q6 : ss.length ≤ cap := hc1
  have q7 : (k : Int) ≤ (ss.length : Int) := by omega
  clear h r hc3 hc4
  go_enter Tryz.func160, Tryz.ntmps160
  go_wp2_with fail
  by_cases hcc : cap = k + 1
  · subst hcc
    have SP := Lib.hid (show ∀ j, j < ((ss.drop (k + 1)).flatMap one).length → (w.drew.cell? ⟨g, 0 + k * 1 + j, none⟩).isSome = true ∧ w.drew.frozen? ⟨g, 0 + k * 1 + j, none⟩ = false from fun j hj => by
      rw [one_len, List.length_drop] at hj
      refine ⟨?_, R.out.drew.frozen _⟩
      rw [R.out.drew.cell, Array.getElem?_eq_getElem (by have := CS.out; omega)]
      rfl)
    have N2 := Lib.hid (show ((ss.drop (k + 1)).flatMap one).length = 0 * 1 by rw [one_len, List.length_drop]; omega)
    have xl : ss.length - 1 = k := by omega
    rw [xl] at OUT
    have XL := Lib.hid xl
    clear xl
    have C2 := Lib.hid (show ∀ j u, ((ss.drop (k + 1)).flatMap one)[j]? = some u → w.drew.cell? ((Addr.mk g 0 none).add j) = some u from fun j u hj => by
      rw [List.drop_of_length_le (by omega)] at hj
      simp at hj)
    go_region_law (refine step_append_room rfl (.tmp 22) (.tmp 25) 209 rfl 3 i0 1 Tryz.underlying209 I0.out I2.out g 0 k (k + 1) (by simp [Act.eval, Act.put]) ⟨g, 0, none⟩ 0 0 ((ss.drop (k + 1)).flatMap one) (by simp [Act.eval, Act.put]) N2.out C2.out (one_cells_one _) (by omega) SP.out ?_)
    have RW := Lib.hid (Row.lays ((ss.drop (k + 1)).flatMap one) k _ _ R.out.drew)
    have OW := Lib.hid (Only.lays (S := fun j => j = g) rfl ((ss.drop (k + 1)).flatMap one) k _ (Only.refl (fun j => j = g) w).drew)
    obtain ⟨c1, rw1, rw2, rw3⟩ := RW.out
    have R1 := Lib.hid rw1
    have RS := Lib.hid rw2
    obtain ⟨zs, hzs⟩ : ∃ zs : List Value, zs = [.int .i64 0] := ⟨_, rfl⟩
    rw [← hzs] at OUT
    have ZS := Lib.hid hzs
    clear rw1 rw2 rw3 RW hzs
    generalize w.drew.setCells g k ((ss.drop (k + 1)).flatMap one) = W1 at *
    have CL := fun ty => clear_one g k (ss.length - k) 1 ty W1 c1 (by omega) R1.out (by have := CS.out; have := RS.out; omega) zs ZS.out
    have OZ := Lib.hid (Only.lays (S := fun j => j = g) rfl zs k _ OW.out)
    go_wp2
    go_ret
    rw [XL.out]
    exact ⟨rfl, OUT.out, OZ.out⟩
  · have SP := Lib.hid (show ∀ j, j < ((ss.drop (k + 1)).flatMap one).length → (w.drew.cell? ⟨g, 0 + k * 1 + j, none⟩).isSome = true ∧ w.drew.frozen? ⟨g, 0 + k * 1 + j, none⟩ = false from fun j hj => by
      rw [one_len, List.length_drop] at hj
      refine ⟨?_, R.out.drew.frozen _⟩
      rw [R.out.drew.cell, Array.getElem?_eq_getElem (by have := CS.out; omega)]
      rfl)
    have N2 := Lib.hid (show ((ss.drop (k + 1)).flatMap one).length = (ss.length - (k + 1)) * 1 by rw [one_flat_len, List.length_drop])
    have C2 := Lib.hid (show ∀ j u, ((ss.drop (k + 1)).flatMap one)[j]? = some u → w.drew.cell? ((Addr.mk g (k + 1) none).add j) = some u from fun j u hj => by
      rw [flat_dropL one1, List.getElem?_drop] at hj
      have := World.ownsRow.cells H.out (g := g) rfl _ u hj
      rw [addL11] at this ⊢
      simpa using this)
    go_region_law (refine step_append_room rfl (.tmp 22) (.tmp 25) 209 rfl 3 i0 1 Tryz.underlying209 I0.out I2.out g 0 k cap (by simp [Act.eval, Act.put]) ⟨g, k + 1, none⟩ (ss.length - (k + 1)) (cap - (k + 1)) ((ss.drop (k + 1)).flatMap one) (by simp [Act.eval, Act.put]) N2.out C2.out (one_cells_one _) (by omega) SP.out ?_)
    rw [show k + (ss.length - (k + 1)) = ss.length - 1 from by omega]
    have RW := Lib.hid (Row.lays ((ss.drop (k + 1)).flatMap one) k _ _ R.out.drew)
    have OW := Lib.hid (Only.lays (S := fun j => j = g) rfl ((ss.drop (k + 1)).flatMap one) k _ (Only.refl (fun j => j = g) w).drew)
    obtain ⟨c1, rw1, rw2, rw3⟩ := RW.out
    have R1 := Lib.hid rw1
    have RS := Lib.hid rw2
    obtain ⟨zs, hzs⟩ : ∃ zs : List Value, zs = [.int .i64 0] := ⟨_, rfl⟩
    rw [← hzs] at OUT
    have ZS := Lib.hid hzs
    clear rw1 rw2 rw3 RW hzs
    generalize w.drew.setCells g k ((ss.drop (k + 1)).flatMap one) = W1 at *
    have CL := fun ty => clear_one g (ss.length - 1) (ss.length - (ss.length - 1)) (cap - (ss.length - 1)) ty W1 c1 (by omega) R1.out (by have := CS.out; have := RS.out; omega) zs ZS.out
    have OZ := Lib.hid (Only.lays (S := fun j => j = g) rfl zs (ss.length - 1) _ OW.out)
    go_wp2
    go_ret
    exact ⟨rfl, OUT.out, OZ.out⟩
end Go.Proofs.YtfbpjobobdidiaaGreatDoor


/- Lanes in memory: slices.Index; a lane without one ticket. -/
namespace Go.Proofs.YtfbpjobobdidiaaGreatDoor
open Go.RowKit Go.Maps
set_option linter.unusedVariables false
set_option maxRecDepth 100000

/-- one ticket is left out -/
def outI (l : List Int) (x : Int) : List Int := l.filter (fun y => !(y == x))
theorem lane_cut (ss : List Sd) (x b : Int) : laneL (cutK ss x) b = outI (laneL ss b) x := by
  unfold laneL cutK outI
  rw [List.filter_map, List.filter_filter, List.filter_filter]
  congr 1
  apply List.filter_congr
  intro s _
  simp [Bool.and_comm]
theorem lane_nodup {ss : List Sd} (h : Once ss) (b : Int) : (laneL ss b).Nodup := by
  unfold laneL List.Nodup
  rw [List.pairwise_map]
  exact List.Pairwise.filter _ h
theorem lane_mem {ss : List Sd} {x : Int} (h : Once ss) (hx : hasK ss x = true) : x ∈ laneL ss (blockI ss x) := by
  obtain ⟨s, hs, rfl⟩ := hasK_iff.1 hx
  rw [blockI_of h hs]
  exact List.mem_map.2 ⟨s, List.mem_filter.2 ⟨hs, by simp⟩, rfl⟩
theorem lane_other {ss : List Sd} {x b : Int} (h : Once ss) (hb : b ≠ blockI ss x) : x ∉ laneL ss b := by
  intro hm
  obtain ⟨s, hs, e⟩ := List.mem_map.1 hm
  obtain ⟨h1, h2⟩ := List.mem_filter.1 hs
  have h2 : s.b = b := by simpa using h2
  subst e
  rw [blockI_of h h1] at hb
  exact hb h2.symm
theorem out_not {l : List Int} {x : Int} (h : x ∉ l) : outI l x = l := by
  unfold outI
  rw [List.filter_eq_self]
  intro y hy
  have : y ≠ x := fun e => h (by rw [← e]; exact hy)
  simpa using this
theorem out_at : ∀ {l : List Int}, l.Nodup → ∀ {k : Nat} {x : Int}, l[k]? = some x → l.eraseIdx k = outI l x
  | [], _, k, x, h => by simp at h
  | a :: r, hn, 0, x, h => by
    simp only [List.getElem?_cons_zero, Option.some.injEq] at h
    subst h
    have := (List.nodup_cons.1 hn).1
    show r = outI (a :: r) a
    have e : outI (a :: r) a = outI r a := by unfold outI; rw [List.filter_cons_of_neg (by simp)]
    rw [e, out_not this]
  | a :: r, hn, k + 1, x, h => by
    rw [List.getElem?_cons_succ] at h
    obtain ⟨n1, n2⟩ := List.nodup_cons.1 hn
    have hx : a ≠ x := fun e => n1 (by rw [e]; exact List.mem_of_getElem? h)
    show a :: r.eraseIdx k = _
    have e : outI (a :: r) x = a :: outI r x := by unfold outI; rw [List.filter_cons_of_pos (by simpa using hx)]
    rw [e, out_at n2 h]
theorem sd_cut : ∀ {ss : List Sd}, Once ss → ∀ {k : Nat} {s : Sd}, ss[k]? = some s → ss.take k ++ ss.drop (k + 1) = cutK ss s.k
  | [], _, k, x, h => by simp at h
  | a :: r, hn, 0, x, h => by
    simp only [List.getElem?_cons_zero, Option.some.injEq] at h
    subst h
    have := (List.pairwise_cons.1 hn).1
    show r = cutK (a :: r) a.k
    unfold cutK
    rw [List.filter_cons_of_neg (by simp)]
    symm
    rw [List.filter_eq_self]
    intro y hy
    have : y.k ≠ a.k := fun e => this y hy e.symm
    simpa using this
  | a :: r, hn, k + 1, x, h => by
    rw [List.getElem?_cons_succ] at h
    obtain ⟨n1, n2⟩ := List.pairwise_cons.1 hn
    have hx : a.k ≠ x.k := n1 x (List.mem_of_getElem? h)
    show a :: (r.take k ++ r.drop (k + 1)) = _
    have e : cutK (a :: r) x.k = a :: cutK r x.k := by unfold cutK; rw [List.filter_cons_of_pos (by simpa using hx)]
    rw [e, sd_cut (show Once r from n2) h]
theorem pull_cut {ss : List Sd} (h : Once ss) (x : Int) : pullS ss x = cutK ss x := by
  unfold pullS
  cases hk : tkAt ss x with
  | none =>
    symm
    show cutK ss x = ss
    unfold cutK
    rw [List.filter_eq_self]
    intro y hy
    obtain ⟨i, hi, e⟩ := List.getElem_of_mem hy
    have : y.k ≠ x := tk_none hk i y (by rw [List.getElem?_eq_getElem hi, e])
    simpa using this
  | some k =>
    obtain ⟨s, hs, rfl, _⟩ := tk_of hk
    exact sd_cut h hs

/-- the place of a number; -1: it isn't there -/
def idxI (l : List Int) (x : Int) : Int := match l.findIdx? (fun y => y == x) with | some k => k | none => -1
theorem idx_at {l : List Int} {x : Int} {k : Nat} {y : Int} (h : l[k]? = some y) (hx : y = x) (hb : ∀ (j : Nat) a, j < k → l[j]? = some a → a ≠ x) : idxI l x = k := by
  have hk := lt_of_get h
  have : l.findIdx? (fun y => y == x) = some k := by
    rw [List.findIdx?_eq_some_iff_getElem]
    refine ⟨hk, ?_, fun j hj => ?_⟩
    · rw [List.getElem?_eq_getElem hk] at h
      injection h with h
      rw [h]; simp [hx]
    · have := hb j l[j] hj (List.getElem?_eq_getElem (by omega))
      simp [this]
  unfold idxI
  rw [this]
theorem idx_no {l : List Int} {x : Int} (hb : ∀ (j : Nat) a, l[j]? = some a → a ≠ x) : idxI l x = -1 := by
  have : l.findIdx? (fun y => y == x) = none := by
    rw [List.findIdx?_eq_none_iff]
    intro a ha
    obtain ⟨j, hj, rfl⟩ := List.getElem_of_mem ha
    simpa using hb j _ (List.getElem?_eq_getElem hj)
  unfold idxI
  rw [this]
theorem idx_mem {l : List Int} {x : Int} (h : x ∈ l) : ∃ k : Nat, idxI l x = k ∧ l[k]? = some x := by
  unfold idxI
  cases hk : l.findIdx? (fun y => y == x) with
  | none =>
    rw [List.findIdx?_eq_none_iff] at hk
    have := hk x h
    simp at this
  | some k =>
    rw [List.findIdx?_eq_some_iff_getElem] at hk
    obtain ⟨hl, h1, _⟩ := hk
    have h1 : l[k] = x := by simpa using h1
    exact ⟨k, rfl, by rw [List.getElem?_eq_getElem hl, h1]⟩
set_option maxHeartbeats 1000000 in
theorem index_any (v : Value) (l : List Int) (x : Int) (w : World) (h : Reads w v l) (hl : l.length ≤ 1000) :
    Calls Tryz.prog 159 #[v, .int .i64 x] w fun e w' => e = .returned (.int .i64 (idxI l x)) ∧ w = w' := by
  obtain ⟨a, cap, rfl, hc⟩ := h
  have HC := Lib.hid hc
  clear hc
  go_enter Tryz.func159, Tryz.ntmps159
  go_wp2_with fail
  go_loop [8] (fun i => ∃ k : Nat, k ≤ l.length ∧ i = .int .i64 k ∧ ∀ j a, j < k → l[j]? = some a → a ≠ x) (fun i => l.length - (intOf i).toNat)
  case atStart => exact ⟨0, Nat.zero_le _, rfl, fun j a hj => by omega⟩
  case round =>
    obtain ⟨k, hk, rfl, hn⟩ := hrel
    have HN := Lib.hid hn
    clear hn
    by_cases hlt : k < l.length
    · obtain ⟨y, hy⟩ : ∃ y, l[k]? = some y := ⟨_, List.getElem?_eq_getElem hlt⟩
      obtain ⟨g1, o1, rfl, c1⟩ := HC.out k y hy
      have HY := Lib.hid hy
      clear hy
      by_cases e : x = y
      · have t : (x == y) = true := by simp [e]
        have FE := Lib.hid (show idxI l x = k from idx_at HY.out e.symm HN.out)
        clear e
        go_wp2_with fail
        go_ret
        exact ⟨by rw [FE.out]; try rfl, rfl⟩
      · have t : (x == y) = false := by simpa using e
        have NX := Lib.hid (show ∀ j a, j < k + 1 → l[j]? = some a → a ≠ x from fun j a hj ha => by
          by_cases q : j = k
          · subst q; rw [HY.out] at ha; injection ha with ha; subst ha; exact fun z => e z.symm
          · exact HN.out j a (by omega) ha)
        clear e
        go_wp2_with fail
        go_round
        case rel => exact ⟨k + 1, by omega, by go_num, NX.out⟩
        case measure => simp [intOf]; omega
    · have hge : l.length ≤ k := by omega
      have FE := Lib.hid (show idxI l x = -1 from idx_no (fun j a ha => HN.out j a (Nat.lt_of_lt_of_le (lt_of_get ha) hge) ha))
      go_wp2_with fail
      go_ret
      exact ⟨by rw [FE.out]; try rfl, rfl⟩
theorem with_any (v : Value) (l : List Int) (x : Int) (w : World) (h : OwnsInts w 0 v l) (hn : l.Nodup) (hx : x ∈ l) (hl : l.length ≤ 1000) :
    Calls Tryz.prog 143 #[v, .int .i64 x] w fun e w' => ∃ v', e = .returned v' ∧ OwnsInts w' 0 v' (outI l x) ∧ v'.ownBlock = v.ownBlock ∧ Only (fun j => some j = v.ownBlock) w w' := by
  obtain ⟨k, hk, hkx⟩ := idx_mem hx
  have lk := lt_of_get hkx
  have IX := Lib.hid (index_any v l x w (Reads.of_owns h) hl)
  rw [hk] at IX
  have E1 := Lib.hid (out_at hn hkx)
  obtain ⟨g, cap, rfl, _⟩ := Owns.form h (fun e => by rw [e] at hx; cases hx)
  have DL := Lib.hid (del11_any g cap k l w h lk hl)
  rw [E1.out] at DL
  have hwi : IntKind.i64.wrap ((k : Int) + 1) = (k : Int) + 1 := by rw [IntKind.wrap_i64]; omega
  clear h hn hx hk hkx E1
  go_enter Tryz.func143, Tryz.ntmps143
  go_wp2_with fail
  (with_reducible refine IX.out.mono ?_)
  rintro e w' ⟨rfl, rfl⟩
  go_wp2_with fail
  (with_reducible refine DL.out.mono ?_)
  rintro e w' ⟨rfl, ho, o⟩
  have HO := Lib.hid ho
  have OO := Lib.hid o
  clear ho o IX DL
  go_wp2_with fail
  go_ret
  exact ⟨_, rfl, HO.out, rfl, OO.out.more (fun i _ e => by rw [e]; rfl)⟩
end Go.Proofs.YtfbpjobobdidiaaGreatDoor


/- Lanes in memory: one lane is another one, and the map with it. -/
namespace Go.Proofs.YtfbpjobobdidiaaGreatDoor
open Go.RowKit Go.Maps
set_option linter.unusedVariables false
set_option maxRecDepth 100000

theorem row_of_owns {w : World} {v : Value} {l : List Int} {g : Nat} (h : OwnsInts w 0 v l) (hg : v.ownBlock = some g) : ∃ cur, Row w g 3 cur := by
  rcases h.2 with ⟨hv, _⟩ | ⟨g', cap, cur, hv, _, hh, _⟩
  · rw [hv] at hg; cases hg
  · rw [hv] at hg
    injection hg with hg
    exact ⟨cur, by rw [← hg]; exact hh⟩
theorem LL.gp {w : World} {p r b : Nat} {vs : List Value} {M : Nat → Prop} {n room : Nat} {ss : List Sd} (h : LL w p r b vs M n room ss) {i : Nat} {v : Value} {g : Nat} (hv : vs[i]? = some v) (hg : v.ownBlock = some g) : g ≠ p ∧ g ≠ r ∧ g ≠ b := by
  obtain ⟨cur, hr⟩ := row_of_owns (h.lanes i v hv) hg
  exact ⟨hr.apart h.row (by decide), hr.apart h.rows (by decide), h.md.ne hr⟩
theorem LL.pr {w : World} {p r b : Nat} {vs : List Value} {M : Nat → Prop} {n room : Nat} {ss : List Sd} (h : LL w p r b vs M n room ss) : p ≠ r ∧ p ≠ b ∧ r ≠ b := ⟨h.row.apart h.rows (by decide), h.md.ne h.row, h.md.ne h.rows⟩
/-- one lane is another one, and the map with it -/
theorem LL.turned {w w5 w7 : World} {p r b k : Nat} {vs : List Value} {v v5 : Value} {M : Nat → Prop} {n room : Nat} {ss fs : List Sd} (h : LL w p r b vs M n room ss) (hv : vs[k]? = some v) (o5 : Only (fun j => some j = v.ownBlock) w w5)
    (ho : OwnsInts w5 0 v5 (laneL fs (k : Int))) (hat : v5.ownBlock = v.ownBlock ∨ ∃ g, v5.ownBlock = some g ∧ w.heap.size ≤ g) (o7 : Only (fun j => j = b) (w5.setCell ⟨r, k, none⟩ v5) w7) (md : Md w7 b fs)
    (hs : ∀ i : Int, i ≠ k → laneL fs i = laneL ss i) (once : Once fs) (inb : ∀ s ∈ fs, 0 ≤ s.b ∧ s.b < n) : LnTo w p M n room fs w7 := by
  have hk := lt_of_get hv
  have ng : ∀ g, v5.ownBlock = some g → g ≠ p ∧ g ≠ r ∧ g ≠ b := fun g hg => by
    rcases hat with q | ⟨g', q, hl⟩
    · exact h.gp hv (by rw [← q]; exact hg)
    · rw [q] at hg
      injection hg with hg
      have := h.lt p h.mp
      have := h.lt r h.mr
      have := h.lt b h.mb
      omega
  have np : ¬ some p = v.ownBlock := fun e => (h.gp hv e.symm).1 rfl
  have nr : ¬ some r = v.ownBlock := fun e => (h.gp hv e.symm).2.1 rfl
  have o6 := (Only.refl (fun j => j = r) w5).into rfl k v5
  have O57 : Only (fun j => j = r ∨ j = b) w5 w7 := (o6.more (fun _ _ e => Or.inl e)).trans o7 (fun _ _ e => Or.inr e)
  have rows := o7.row ((o5.row h.rows nr).put k v5) (fun e => h.pr.2.2 e)
  have evs : vs.toArray.setIfInBounds k v5 = (vs.set k v5).toArray := by simp
  rw [evs] at rows
  have gv : ∀ i u, (vs.set k v5)[i]? = some u → (i = k ∧ u = v5) ∨ (i ≠ k ∧ vs[i]? = some u) := fun i u hu => by
    rw [List.getElem?_set] at hu
    by_cases e : k = i
    · rw [if_pos e, if_pos hk] at hu
      injection hu with hu
      exact .inl ⟨e.symm, hu.symm⟩
    · rw [if_neg e] at hu
      exact .inr ⟨fun q => e q.symm, hu⟩
  have z5 := o5.size
  have z7 := O57.size
  have nv : ∀ i u g, i ≠ k → vs[i]? = some u → u.ownBlock = some g → v5.ownBlock ≠ some g := fun i u g hi hu hg e => by
    rcases hat with q | ⟨g', q, hl⟩
    · rw [q] at e
      exact hi (h.apart i k u v g hu hv hg e)
    · rw [q] at e
      injection e with e
      have := h.lt g (h.mv i u g hu hg)
      omega
  refine ⟨⟨fun g => M g ∨ (w.heap.size ≤ g ∧ g < w7.heap.size), ⟨r, b, vs.set k v5, ?_⟩, fun g hg => hg.imp id (·.1)⟩, ?_⟩
  · exact {
      row := O57.row (o5.row h.row np) (fun e => by rcases e with e | e; exact h.pr.1 e; exact h.pr.2.1 e)
      rows := rows
      len := by rw [List.length_set]; exact h.len
      lanes := fun i u hu => by
        rcases gv i u hu with ⟨rfl, rfl⟩ | ⟨hi, hu⟩
        · exact ho.keep O57 (fun g hg e => by rcases e with e | e; exact (ng g hg).2.1 e; exact (ng g hg).2.2 e)
        · rw [hs (i : Int) (by omega)]
          refine ((h.lanes i u hu).keep o5 (fun g hg e => hi (h.apart i k u v g hu hv hg e.symm))).keep O57 (fun g hg e => ?_)
          have := h.gp hu hg
          rcases e with e | e
          · exact this.2.1 e
          · exact this.2.2 e
      apart := fun i j u v' g hu hv' hg hg' => by
        rcases gv i u hu with ⟨rfl, rfl⟩ | ⟨hi, hu2⟩
        · rcases gv j v' hv' with ⟨rfl, rfl⟩ | ⟨hj, hv'⟩
          · rfl
          · exact absurd hg (nv j v' g hj hv' hg')
        · rcases gv j v' hv' with ⟨rfl, rfl⟩ | ⟨hj, hv2⟩
          · exact absurd hg' (nv i u g hi hu2 hg)
          · exact h.apart i j u v' g hu2 hv2 hg hg'
      md := md
      once := once
      inb := inb
      mp := .inl h.mp
      mr := .inl h.mr
      mb := .inl h.mb
      mv := fun i u g hu hg => by
        rcases gv i u hu with ⟨rfl, rfl⟩ | ⟨hi, hu⟩
        · rcases hat with q | ⟨g', q, hl⟩
          · exact .inl (h.mv _ v g hv (by rw [← q]; exact hg))
          · have l5 := (ho.base_le hg).2
            rw [q] at hg
            injection hg with hg
            exact .inr ⟨by omega, by omega⟩
        · exact .inl (h.mv i u g hu hg)
      lt := fun g hg => by
        rcases hg with hg | hg
        · have := h.lt g hg; omega
        · exact hg.2 }
  · refine (o5.more (fun i _ e => h.mv k v i hv e.symm)).trans O57 (fun i _ e => ?_)
    rcases e with e | e
    · rw [e]; exact h.mr
    · rw [e]; exact h.mb
theorem lane_more (ss : List Sd) (b x i : Int) : laneL (ss ++ [⟨b, x⟩]) i = if b = i then laneL ss i ++ [x] else laneL ss i := by
  unfold laneL
  rw [List.filter_append, List.map_append]
  by_cases h : b = i
  · rw [if_pos h, List.filter_cons_of_pos (by simpa using h)]; rfl
  · rw [if_neg h, List.filter_cons_of_neg (by simpa using h)]; simp
theorem step_append_at11 {P : Program} {ops : Array Oper} {o : Oper} {a : Act} {w : World} {K : Act → World → Prop} {Q : Exit → Act → World → Prop} {E : Prop}
    (hg : o.guard = none) (s x : Operand) (t : TypeId) (hop : o.op = Op.call { callee := Callee.builtin Builtin.append, args := #[s, x], argTypes := #[t, t] })
    (base : Nat) (e : TypeId) (i : TypeInfo) (z : Value) (size bytes : Nat) (h1 : P.underlying t = some (.slice e)) (h2 : P.info? e = some i) (h3 : i.zero = some z) (h4 : i.size = size) (h5 : i.bytes = bytes) (h6 : z.cells.size = size) (h7 : 0 < size)
    (v : Value) (k : Nat) (xs : List Value) (hs : a.eval s = v) (hown : w.ownsRow base e size v k xs)
    (ad : Addr) (m c : Nat) (news : List Value) (hx : a.eval x = .slice (some ad) m c) (hn : news.length = m * size) (hc : ∀ j u, news[j]? = some u → w.cell? (ad.add j) = some u) (h1c : ∀ u ∈ news, u.oneCell' = true)
    (b1 : k + m ≤ maxLen) (b2 : (k + m) * bytes ≤ 140737488355328) (b3 : base ≤ w.heap.size)
    (hK : ∀ v' w', w'.ownsRow base e size v' (k + m) (xs ++ news) → w.grownBy w' v.ownBlock → (v'.ownBlock = v.ownBlock ∨ v'.ownBlock = some w.heap.size) → K (a.put o.dst v') w') :
    if Region.wanted o (yielded ops a.tmps) = true then Oper.wp P o a w K Q else E := by
  have hw : Region.wanted o (yielded ops a.tmps) = true := by simp [Region.wanted, hg]
  rw [if_pos hw]
  obtain ⟨v', w', hrun, r1, r2, _, r4⟩ := run_append_own_at (P := P) w base t o.type e i z size bytes h1 h2 h3 h4 h5 h6 h7 v k xs hown ad m c news hn hc h1c b1 b2 b3
  unfold Oper.wp
  simp [execOp, hop, resolve, invoke, builtin, hs, hx, hrun, Result.andThen]
  exact hK v' w' r1 r2 r4
end Go.Proofs.YtfbpjobobdidiaaGreatDoor


/- Lanes in memory: a ticket is pushed. -/
namespace Go.Proofs.YtfbpjobobdidiaaGreatDoor
open Go.RowKit Go.Maps
set_option linter.unusedVariables false
set_option maxRecDepth 100000

def lpushTo (p : Nat) (M : Nat → Prop) (n room : Nat) (ss : List Sd) (b x : Int) (w : World) (e : Ending) (w' : World) : Prop := e = .returned (.int .i64 (pushC n room ss b x)) ∧ LnTo w p M n room (pushS n room ss b x) w'
theorem int_form {w : World} {v : Value} {n : Nat} {xs : List Value} (h : w.ownsRow 0 3 1 v n xs) : ∃ a n c, v = .slice a n c := by
  rcases h.2 with ⟨h0, _⟩ | ⟨g, cap, cur, hv, _⟩
  · exact ⟨none, 0, 0, h0⟩
  · exact ⟨_, _, _, hv⟩
theorem lpush_arg {p r mb : Nat} {vs : List Value} {M : Nat → Prop} {n room : Nat} {ss : List Sd} (b x : Int) (w : World) (h : LL w p r mb vs M n room ss) (hin : ¬ (0 ≤ b ∧ b < n ∧ 1 ≤ x)) :
    Calls Tryz.prog 109 #[.pointer (some ⟨p, 0, none⟩), .int .i64 b, .int .i64 x] w (lpushTo p M n room ss b x w) := by
  have HAS := Lib.hid (lhas_any b w h)
  have PC := Lib.hid (show pushC n room ss b x = 1 from by unfold pushC; rw [if_neg hin])
  have PS := Lib.hid (show pushS n room ss b x = ss from by unfold pushS; rw [PC.out]; rfl)
  have H := Lib.hid (show Ln w p M n room ss from ⟨r, mb, vs, h⟩)
  by_cases hb : 0 ≤ b ∧ b < n
  · have E := Lib.hid (show decide (0 ≤ b ∧ b < n) = true from decide_eq_true hb)
    have d : decide (x < 1) = true := by simp; omega
    clear h hin hb
    go_enter Tryz.func109, Tryz.ntmps109
    go_wp2_with fail
    (with_reducible refine HAS.out.mono ?_)
    rintro e w' ⟨rfl, rfl⟩
    rw [E.out]
    go_wp2_with fail
    go_ret
    exact ⟨by rw [PC.out]; rfl, by rw [PS.out]; exact H.out.to (Only.refl _ _)⟩
  · have E := Lib.hid (show decide (0 ≤ b ∧ b < n) = false from decide_eq_false hb)
    clear h hin hb
    go_enter Tryz.func109, Tryz.ntmps109
    go_wp2_with fail
    (with_reducible refine HAS.out.mono ?_)
    rintro e w' ⟨rfl, rfl⟩
    rw [E.out]
    go_wp2_with fail
    go_ret
    exact ⟨by rw [PC.out]; rfl, by rw [PS.out]; exact H.out.to (Only.refl _ _)⟩
theorem lpush_exists {p r mb : Nat} {vs : List Value} {M : Nat → Prop} {n room : Nat} {ss : List Sd} (b x : Int) (w : World) (h : LL w p r mb vs M n room ss) (hin : 0 ≤ b ∧ b < n ∧ 1 ≤ x) (hx : (Lit.int .i64 x).wf = true) (hk : hasK ss x = true) :
    Calls Tryz.prog 109 #[.pointer (some ⟨p, 0, none⟩), .int .i64 b, .int .i64 x] w (lpushTo p M n room ss b x w) := by
  have HAS := Lib.hid (lhas_any b w h)
  rw [decide_eq_true (show 0 ≤ b ∧ b < (n : Int) by omega)] at HAS
  have PC := Lib.hid (show pushC n room ss b x = 4 from by unfold pushC; rw [if_pos hin, tk_has, hk, if_pos rfl])
  have PS := Lib.hid (show pushS n room ss b x = ss from by unfold pushS; rw [PC.out]; rfl)
  have H := Lib.hid (show Ln w p M n room ss from ⟨r, mb, vs, h⟩)
  have c2 : w.cell? ⟨p, 2, none⟩ = some (.map (some mb)) := by rw [h.row.cell]; rfl
  obtain ⟨D, hown, hr⟩ := h.md
  have hkey := keyOf_int_mk Tryz.underlying3 hx
  have OW := Lib.hid hown
  have q := hr.1 x
  rw [hk] at q
  have d : decide (x < 1) = false := by simp; omega
  clear h hin hk hown hr hx
  go_enter Tryz.func109, Tryz.ntmps109
  go_wp2_with fail
  (with_reducible refine HAS.out.mono ?_)
  rintro e w' ⟨rfl, rfl⟩
  go_wp2_with (first
    | (at_lookup; refine wpList_lookup_own_ok_int _ rfl _ _ 140 rfl 3 3 .i64 lawI Tryz.underlying140 Tryz.underlying3 (zeroI _) mb _ D rfl OW.out _ _ rfl hkey ?_; intro c1 hat hwc)
    | go_in)
  go_ret
  exact ⟨by rw [PC.out]; rfl, by rw [PS.out]; exact H.out.to (Only.refl _ _)⟩
set_option maxHeartbeats 1000000 in
theorem lpush_full {p r mb : Nat} {vs : List Value} {M : Nat → Prop} {n room : Nat} {ss : List Sd} (b x : Int) (w : World) (h : LL w p r mb vs M n room ss) (hin : 0 ≤ b ∧ b < n ∧ 1 ≤ x) (hx : (Lit.int .i64 x).wf = true) (hk : hasK ss x = false) (hr : ss.length = room) :
    Calls Tryz.prog 109 #[.pointer (some ⟨p, 0, none⟩), .int .i64 b, .int .i64 x] w (lpushTo p M n room ss b x w) := by
  have HAS := Lib.hid (lhas_any b w h)
  rw [decide_eq_true (show 0 ≤ b ∧ b < (n : Int) by omega)] at HAS
  have PC := Lib.hid (show pushC n room ss b x = 2 from by unfold pushC; rw [if_pos hin, tk_has, hk, if_neg (by decide), if_pos (by omega)])
  have PS := Lib.hid (show pushS n room ss b x = ss from by unfold pushS; rw [PC.out]; rfl)
  have H := Lib.hid (show Ln w p M n room ss from ⟨r, mb, vs, h⟩)
  have c2 : w.cell? ⟨p, 2, none⟩ = some (.map (some mb)) := by rw [h.row.cell]; rfl
  have c2' : w.drew.cell? ⟨p, 2, none⟩ = some (.map (some mb)) := c2
  have c1' : w.drew.cell? ⟨p, 1, none⟩ = some (.int .i64 room) := by show w.cell? _ = _; rw [h.row.cell]; rfl
  have LEN := (h.md.still (Only.refl none_ w).drew).len h.once
  have t : ((ss.length : Int) == (room : Int)) = true := by simp; omega
  obtain ⟨D, hown, hrd⟩ := h.md
  have hkey := keyOf_int_mk Tryz.underlying3 hx
  have OW := Lib.hid hown
  have q := hrd.1 x
  rw [hk] at q
  have d : decide (x < 1) = false := by simp; omega
  clear h hin hk hown hrd hx hr
  generalize ss.length = m at LEN t OW
  go_enter Tryz.func109, Tryz.ntmps109
  go_wp2_with fail
  (with_reducible refine HAS.out.mono ?_)
  rintro e w' ⟨rfl, rfl⟩
  go_wp2_with (first
    | (at_lookup; refine wpList_lookup_own_ok_int _ rfl _ _ 140 rfl 3 3 .i64 lawI Tryz.underlying140 Tryz.underlying3 (zeroI _) mb _ D rfl OW.out _ _ rfl hkey ?_; intro c1 hat hwc)
    | go_in)
  go_region
  all_goals
    go_wp2_with fail
    go_ret
    exact ⟨by rw [PC.out]; rfl, by rw [PS.out]; exact H.out.to (Only.refl _ _).drew⟩
end Go.Proofs.YtfbpjobobdidiaaGreatDoor


/- Lanes in memory: a ticket is pushed where there is room. -/
namespace Go.Proofs.YtfbpjobobdidiaaGreatDoor
open Go.RowKit Go.Maps
set_option linter.unusedVariables false
set_option maxRecDepth 100000

theorem wf_small {n : Nat} (h : n ≤ 1000) : (Lit.int .i64 (n : Int)).wf = true := wf_i _ (by omega)
set_option maxRecDepth 100000 in
set_option maxHeartbeats 4000000 in
theorem lpush_yes {p r mb k : Nat} {vs : List Value} {M : Nat → Prop} {n room : Nat} {ss : List Sd} (x : Int) (w : World) (h : LL w p r mb vs M n room ss) (hk : k < n) (hn : n ≤ 1000) (h1 : 1 ≤ x) (hl : ss.length ≤ 1000) (hx : (Lit.int .i64 x).wf = true) (hx0 : hasK ss x = false) (hr : ss.length < room) :
    Calls Tryz.prog 109 #[.pointer (some ⟨p, 0, none⟩), .int .i64 k, .int .i64 x] w fun e w' => e = .returned (.int .i64 0) ∧ LnTo w p M n room (ss ++ [⟨k, x⟩]) w' := by
  have HAS := Lib.hid (lhas_any k w h)
  rw [decide_eq_true (show 0 ≤ (k : Int) ∧ (k : Int) < (n : Int) by omega)] at HAS
  have H := Lib.hid h
  have c2 : w.cell? ⟨p, 2, none⟩ = some (.map (some mb)) := by rw [h.row.cell]; rfl
  have c2' : w.drew.cell? ⟨p, 2, none⟩ = some (.map (some mb)) := c2
  have c1' : w.drew.cell? ⟨p, 1, none⟩ = some (.int .i64 room) := by show w.cell? _ = _; rw [h.row.cell]; rfl
  have LEN := (h.md.still (Only.refl none_ w).drew).len h.once
  have t : ((ss.length : Int) == (room : Int)) = false := by simp; omega
  obtain ⟨D, hown, hrd⟩ := h.md
  have hkey := keyOf_int_mk Tryz.underlying3 hx
  have OW := Lib.hid hown
  have q := hrd.1 x
  rw [hx0] at q
  have d : decide (x < 1) = false := by simp; omega
  have HX := Lib.hid hx
  have HX0 := Lib.hid hx0
  have HL := Lib.hid hl
  have HK := Lib.hid hk
  have HN := Lib.hid hn
  obtain ⟨m, hm⟩ : ∃ m, ss.length = m := ⟨_, rfl⟩
  rw [hm] at LEN t OW
  clear h hown hrd hx hr hm hx0 hl hn h1
  go_enter Tryz.func109, Tryz.ntmps109
  go_wp2_with fail
  (with_reducible refine HAS.out.mono ?_)
  rintro e w' ⟨rfl, rfl⟩
  go_wp2_with (first
    | (at_lookup; refine wpList_lookup_own_ok_int _ rfl _ _ 140 rfl 3 3 .i64 lawI Tryz.underlying140 Tryz.underlying3 (zeroI _) mb _ D rfl OW.out _ _ rfl hkey ?_; intro c1 hat hwc)
    | go_in)
  go_region
  clear c2 c2' c1' LEN t OW q d hkey hat hwc HAS
  go_wp2_with fail
  have h := H.out.still (Only.refl none_ w).drew
  have OW0 := Lib.hid (show Only M w w.drew from (Only.refl M w).drew)
  have LE0 := Lib.hid (show w.heap.size ≤ w.drew.heap.size from Nat.le_refl _)
  generalize w.drew = W at *
  obtain ⟨v, hv⟩ : ∃ v, vs[k]? = some v := ⟨_, List.getElem?_eq_getElem (by rw [h.len]; exact hk)⟩
  have NGV := Lib.hid (fun g (hg : v.ownBlock = some g) => h.gp hv hg)
  have lp := h.row.lt
  have lr := h.rows.lt
  have pr := h.pr.1
  have KS := Lib.hid (fun w' (o : Only (fun j => some j = v.ownBlock) W w') => (show w'.cell? ⟨p, 0, none⟩ = some (.slice (some ⟨r, 0, none⟩) n n) ∧ w'.cell? ⟨p, 2, none⟩ = some (.map (some mb)) ∧ w'.cell? ⟨r, k, none⟩ = some v ∧ w'.frozen? ⟨r, k, none⟩ = false from by
    have r1 := o.row h.row (fun e => (NGV.out p e.symm).1 rfl)
    have r2 := o.row h.rows (fun e => (NGV.out r e.symm).2.1 rfl)
    exact ⟨by rw [r1.cell]; rfl, by rw [r1.cell]; rfl, by rw [r2.cell]; simpa using hv, r2.frozen k⟩))
  obtain ⟨l, hl⟩ : ∃ l, laneL ss (k : Int) = l := ⟨_, rfl⟩
  have LV := h.lanes k v hv
  rw [hl] at LV
  have OA := Lib.hid (((Only.refl none_ W).drew).alloc (.cells #[.int .i64 x] 3))
  have OWN := Lib.hid (show ((W.drew).alloc (.cells #[.int .i64 x] 3)).ownsRow 0 3 1 v l.length (l.flatMap one) from LV.still OA.out)
  have NEWS := Lib.hid (show ∀ j u, ([.int .i64 x] : List Value)[j]? = some u → ((W.drew).alloc (.cells #[.int .i64 x] 3)).cell? ((Addr.mk (W.drew).heap.size 0 none).add j) = some u from fun j u hj => by rw [addL11, Nat.zero_add, (Row.fresh W.drew _ _).cell, List.getElem?_toArray]; exact hj)
  have ONES := Lib.hid (show ∀ u ∈ ([.int .i64 x] : List Value), u.oneCell' = true from fun u hu => by rw [List.mem_singleton.1 hu]; rfl)
  have ll := lane_le ss (k : Int)
  rw [hl] at ll
  have B1 := Lib.hid (show l.length + 1 ≤ maxLen from by have := HL.out; unfold maxLen; omega)
  have B2 := Lib.hid (show (l.length + 1) * 8 ≤ 140737488355328 from by have := HL.out; omega)
  have LVF := Lib.hid (int_form (show W.ownsRow 0 3 1 v l.length (l.flatMap one) from LV))
  have HV := Lib.hid hv
  have H2 := Lib.hid h
  have LVH := Lib.hid LV
  have HLL := Lib.hid hl
  obtain ⟨i0, hi0, hz0, hz1, hz2⟩ := info_parts info_int8
  have I0 := Lib.hid hi0
  have I1 := Lib.hid hz0
  have I2 := Lib.hid hz1
  have I3 := Lib.hid hz2
  clear hi0 hz0 hz1 hz2 ll LV h hv hl H
  obtain ⟨g0, g2, g3, z2⟩ := KS.out _ (Only.refl _ W)
  obtain ⟨e0, e2, e3, z3⟩ := KS.out _ ((Only.refl _ W).drew)
  obtain ⟨f0, f2, f3, z4⟩ := KS.out _ OA.out.up
  have lpd : p < W.drew.heap.size := lp
  have lrd : r < W.drew.heap.size := lr
  have kn : (k : Int) < (n : Int) := by omega
  go_region_law
    (first
      | (refine step_append_at11 rfl (.tmp 48) (.tmp 50) 209 rfl 0 3 i0 _ 1 8 Tryz.underlying209 I0.out I1.out I2.out I3.out rfl (by decide) v l.length (l.flatMap one) (by simp [Act.eval]) OWN.out ⟨W.drew.heap.size, 0, none⟩ 1 1 [.int .i64 x] (by simp [Act.eval]) rfl NEWS.out ONES.out B1.out B2.out (Nat.zero_le _) ?_
         intro v5 w5 hown5 hgrow5 hat5
         obtain ⟨a5, n5, k5, rfl⟩ := int_form hown5
         have G5 := Lib.hid hgrow5
         have AT := Lib.hid hat5
         have W5 := Lib.hid hown5
         have O5 := Lib.hid (OA.out.up.trans (S' := fun j => some j = v.ownBlock) (Only.of_grown hgrow5) (fun i _ s => s))
         obtain ⟨y0, y2, y3, y4⟩ := KS.out _ O5.out
         have lp5 : p < w5.heap.size := Nat.lt_of_lt_of_le lp O5.out.size
         have lr5 : r < w5.heap.size := Nat.lt_of_lt_of_le lr O5.out.size
         clear hown5 hgrow5 hat5)
      | fail)
  all_goals
    have MORE := Lib.hid (show laneL (ss ++ [⟨(k : Int), x⟩]) (k : Int) = l ++ [x] from by rw [lane_more, if_pos rfl, HLL.out])
    have ow : OwnsInts w5 0 (.slice a5 n5 k5) (laneL (ss ++ [⟨(k : Int), x⟩]) (k : Int)) := by
      rw [MORE.out]
      show Owns _ _ _ _ _ _ _
      unfold Owns
      have k := W5.out
      rw [List.flatMap_append, List.length_append]
      simpa [one] using k
    have O6 := Lib.hid ((Only.refl (fun j => j = r) w5).into rfl k (.slice a5 n5 k5))
    have md6 := (H2.out.md.keep O5.out (fun e => (NGV.out mb e.symm).2.2 rfl)).keep O6.out (fun e => H2.out.pr.2.2 e.symm)
    obtain ⟨w7, run7, md7, o7⟩ := store11 md6 H2.out.once HL.out x (k : Int) HX0.out HX.out (wf_small (by have := HN.out; omega))
    have c6 : (w5.setCell ⟨r, k, none⟩ (.slice a5 n5 k5)).cell? ⟨p, 2, none⟩ = some (.map (some mb)) := O6.out.cell y2 pr
    have K := Lib.hid (H2.out.turned (fs := ss ++ [⟨(k : Int), x⟩]) HV.out O5.out ow (AT.out.imp id (fun e => ⟨_, e, OA.out.size⟩)) o7 md7 (fun i hi => by rw [lane_more, if_neg (fun e => hi e.symm)]) (H2.out.once.more _ _ HX0.out) (fun s hs => by
      rcases List.mem_append.1 hs with hs | hs
      · exact H2.out.inb s hs
      · rw [List.mem_singleton.1 hs]
        exact ⟨Int.natCast_nonneg _, kn⟩))
    clear md6 md7 o7 ow
    generalize w5.setCell ⟨r, k, none⟩ (.slice a5 n5 k5) = w6 at *
    go_wp2_with fail
    go_ret
    exact ⟨rfl, K.out.1.imp (fun _ k => ⟨k.1, fun g hg => (k.2 g hg).imp id (fun z => Nat.le_trans LE0.out z)⟩), OW0.out.same K.out.2⟩
theorem lpush_any {p : Nat} {M : Nat → Prop} {n room : Nat} {ss : List Sd} (b x : Int) (w : World) (h : Ln w p M n room ss) (hn : n ≤ 1000) (hl : ss.length ≤ 1000) (hr : ss.length ≤ room) (hx : (Lit.int .i64 x).wf = true) :
    Calls Tryz.prog 109 #[.pointer (some ⟨p, 0, none⟩), .int .i64 b, .int .i64 x] w (lpushTo p M n room ss b x w) := by
  obtain ⟨r, mb, vs, h⟩ := h
  by_cases hin : 0 ≤ b ∧ b < n ∧ 1 ≤ x
  · cases hk : hasK ss x with
    | true => exact lpush_exists b x w h hin hx hk
    | false =>
      by_cases hf : ss.length = room
      · exact lpush_full b x w h hin hx hk hf
      · obtain ⟨k, rfl⟩ : ∃ k : Nat, b = k := ⟨b.toNat, by omega⟩
        have PC : pushC n room ss k x = 0 := by unfold pushC; rw [if_pos hin, tk_has, hk, if_neg (by decide), if_neg (by omega)]
        have PS : pushS n room ss k x = ss ++ [⟨(k : Int), x⟩] := by unfold pushS; rw [if_pos PC]
        unfold lpushTo
        rw [PC, PS]
        exact lpush_yes x w h (by omega) hn hin.2.2 hl hx hk (by omega)
  · exact lpush_arg b x w h hin
end Go.Proofs.YtfbpjobobdidiaaGreatDoor


/- Lanes in memory: a ticket is pulled. -/
namespace Go.Proofs.YtfbpjobobdidiaaGreatDoor
open Go.RowKit Go.Maps
set_option linter.unusedVariables false
set_option maxRecDepth 100000

def lpullTo (p : Nat) (M : Nat → Prop) (n room : Nat) (ss : List Sd) (x : Int) (w : World) (e : Ending) (w' : World) : Prop := e = .returned (.tuple #[.int .i64 (blockI ss x), .int .i64 (pullC ss x)]) ∧ LnTo w p M n room (pullS ss x) w'
theorem int_form11 {w : World} {v : Value} {l : List Int} (h : OwnsInts w 0 v l) : ∃ a n c, v = .slice a n c := by
  rcases h.2 with ⟨h0, _⟩ | ⟨g, cap, cur, hv, _⟩
  · exact ⟨none, 0, 0, h0⟩
  · exact ⟨_, _, _, hv⟩
theorem lpull_no {p r mb : Nat} {vs : List Value} {M : Nat → Prop} {n room : Nat} {ss : List Sd} (x : Int) (w : World) (h : LL w p r mb vs M n room ss) (hx : (Lit.int .i64 x).wf = true) (hk : hasK ss x = false) :
    Calls Tryz.prog 105 #[.pointer (some ⟨p, 0, none⟩), .int .i64 x] w (lpullTo p M n room ss x w) := by
  have PC := Lib.hid (show blockI ss x = 0 ∧ pullC ss x = 3 ∧ pullS ss x = ss from ⟨blockI_no hk, by unfold pullC; rw [tk_has, hk]; rfl, by
    have e := hk
    rw [← tk_has] at e
    unfold pullS
    cases q : tkAt ss x with
    | none => rfl
    | some k => rw [q] at e; cases e⟩)
  have H := Lib.hid (show Ln w p M n room ss from ⟨r, mb, vs, h⟩)
  have c2 : w.cell? ⟨p, 2, none⟩ = some (.map (some mb)) := by rw [h.row.cell]; rfl
  obtain ⟨D, hown, hr⟩ := h.md
  have hkey := keyOf_int_mk Tryz.underlying3 hx
  have OW := Lib.hid hown
  have q := hr.1 x
  rw [hk] at q
  clear h hk hown hr hx
  go_enter Tryz.func105, Tryz.ntmps105
  go_wp2_with (first
    | (at_lookup; refine wpList_lookup_own_ok_int _ rfl _ _ 140 rfl 3 3 .i64 lawI Tryz.underlying140 Tryz.underlying3 (zeroI _) mb _ D rfl OW.out _ _ rfl hkey ?_; intro c1 hat hwc)
    | go_in)
  go_ret2
  exact ⟨by rw [PC.out.1, PC.out.2.1]; rfl, by rw [PC.out.2.2]; exact H.out.to (Only.refl _ _)⟩

set_option maxRecDepth 100000 in
set_option maxHeartbeats 1000000 in
theorem lpull_yes {p r mb : Nat} {vs : List Value} {M : Nat → Prop} {n room : Nat} {ss : List Sd} (x : Int) (w : World) (h : LL w p r mb vs M n room ss) (hn : n ≤ 1000) (hl : ss.length ≤ 1000) (hx : (Lit.int .i64 x).wf = true) (hk : hasK ss x = true) :
    Calls Tryz.prog 105 #[.pointer (some ⟨p, 0, none⟩), .int .i64 x] w (lpullTo p M n room ss x w) := by
  have PC := Lib.hid (show pullC ss x = 0 ∧ pullS ss x = cutK ss x from ⟨by unfold pullC; rw [tk_has, hk]; rfl, pull_cut h.once x⟩)
  have hb : 0 ≤ blockI ss x ∧ blockI ss x < n := by
    obtain ⟨s, hs, rfl⟩ := hasK_iff.1 hk
    rw [blockI_of h.once hs]
    exact h.inb s hs
  have MEM := Lib.hid (lane_mem h.once hk)
  have OTH := Lib.hid (fun (i : Int) (hi : i ≠ blockI ss x) => (lane_cut ss x i).trans (out_not (lane_other h.once hi)))
  have CUT := Lib.hid (lane_cut ss x (blockI ss x))
  have NOD := Lib.hid (lane_nodup h.once (blockI ss x))
  have LLE := Lib.hid (Nat.le_trans (lane_le ss (blockI ss x)) hl)
  unfold lpullTo
  rw [PC.out.1, PC.out.2]
  have H := Lib.hid h
  have c2 : w.cell? ⟨p, 2, none⟩ = some (.map (some mb)) := by rw [h.row.cell]; rfl
  obtain ⟨D, hown, hr⟩ := h.md
  have hkey := keyOf_int_mk Tryz.underlying3 hx
  have OW := Lib.hid hown
  have q := hr.1 x
  rw [hk] at q
  have RD := Lib.hid (hr.look h.once x)
  have HR := Lib.hid hr
  obtain ⟨k, hbk⟩ : ∃ k : Nat, blockI ss x = k := ⟨(blockI ss x).toNat, by omega⟩
  rw [hbk] at MEM OTH CUT NOD LLE hb RD ⊢
  have hkn : k < n := by omega
  obtain ⟨v, hv⟩ : ∃ v, vs[k]? = some v := ⟨_, List.getElem?_eq_getElem (by rw [h.len]; exact hkn)⟩
  have HV := Lib.hid hv
  have NGV := Lib.hid (fun g (hg : v.ownBlock = some g) => h.gp hv hg)
  have lp := h.row.lt
  have lr := h.rows.lt
  have pr := h.pr.1
  have KS := Lib.hid (fun w' (o : Only (fun j => some j = v.ownBlock) w w') => (show w'.cell? ⟨p, 0, none⟩ = some (.slice (some ⟨r, 0, none⟩) n n) ∧ w'.cell? ⟨p, 2, none⟩ = some (.map (some mb)) ∧ w'.cell? ⟨r, k, none⟩ = some v ∧ w'.frozen? ⟨r, k, none⟩ = false from by
    have r1 := o.row h.row (fun e => (NGV.out p e.symm).1 rfl)
    have r2 := o.row h.rows (fun e => (NGV.out r e.symm).2.1 rfl)
    exact ⟨by rw [r1.cell]; rfl, by rw [r1.cell]; rfl, by rw [r2.cell]; simpa using hv, r2.frozen k⟩))
  have WITH := Lib.hid (with_any v _ x w.drew ((h.lanes k v hv).still (Only.refl none_ w).drew) NOD.out MEM.out LLE.out)
  have kn : (k : Int) < (n : Int) := by omega
  clear h hk hown hr hx hbk hv hb
  go_enter Tryz.func105, Tryz.ntmps105
  go_wp2_with (first
    | (at_lookup; refine wpList_lookup_own_ok_int _ rfl _ _ 140 rfl 3 3 .i64 lawI Tryz.underlying140 Tryz.underlying3 (zeroI _) mb _ D rfl OW.out _ _ rfl hkey ?_; intro c1 hat hwc)
    | go_in)
  have hc := RD.out _ hat
  subst hc
  clear hat hwc c2
  obtain ⟨g0, g2, g3, z2⟩ := KS.out _ (Only.refl _ w)
  obtain ⟨e0, e2, e3, z3⟩ := KS.out _ ((Only.refl _ w).drew)
  go_region_with (first
    | (go_at_call 143; (with_reducible refine (WITH.out).mono ?_); rintro e w5 ⟨v5, rfl, h5, a5, o5⟩; obtain ⟨b5, n5, k5, rfl⟩ := int_form11 h5; dsimp only
       have W5 := Lib.hid h5
       have A5 := Lib.hid a5
       have O5 := Lib.hid ((Only.refl _ w).drew.same o5)
       obtain ⟨y0, y2, y3, y4⟩ := KS.out _ O5.out
       have lp5 : p < w5.heap.size := Nat.lt_of_lt_of_le lp O5.out.size
       have lr5 : r < w5.heap.size := Nat.lt_of_lt_of_le lr O5.out.size
       clear h5 a5 o5)
    | fail)
  all_goals
    have O6 := Lib.hid ((Only.refl (fun j => j = r) w5).into rfl k (.slice b5 n5 k5))
    have OW6 := Lib.hid (owns_keep (owns_keep OW.out O5.out (fun e => (NGV.out mb e.symm).2.2 rfl)) O6.out (fun e => H.out.pr.2.2 e.symm))
    have c6 : (w5.setCell ⟨r, k, none⟩ (.slice b5 n5 k5)).cell? ⟨p, 2, none⟩ = some (.map (some mb)) := O6.out.cell y2 pr
    have K := Lib.hid (fun w7 (own2 : w7.ownsMap Tryz.prog 3 (plainElem Tryz.prog 3) mb ss.length (D.del (.int .i64 x))) (turn2 : (w5.setCell ⟨r, k, none⟩ (.slice b5 n5 k5)).mapTurned w7 mb) => H.out.turned (w7 := w7) (fs := cutK ss x) HV.out O5.out (by rw [CUT.out]; exact W5.out) (.inl A5.out) (only_turned turn2) (Md.of own2 (HR.out.del x) (H.out.once.cut x)) (fun i hi => OTH.out i hi) (H.out.once.cut x) (fun s hs => H.out.inb s (List.mem_filter.1 hs).1))
    generalize w5.setCell ⟨r, k, none⟩ (.slice b5 n5 k5) = w6 at *
    clear y0 y2 y3 y4 e0 e2 e3 z3 g0 g2 g3 z2 O6 W5 A5 O5
    go_wp2_with (first
      | (at_delete; refine wpList_delete_own _ rfl _ _ 140 3 rfl 3 lawI Tryz.underlying140 _ mb _ D rfl OW6.out _ _ rfl hkey ?_; intro w7 own2 turn2)
      | go_in)
    go_ret2
    exact ⟨rfl, K.out w7 own2 turn2⟩
theorem lpull_any {p : Nat} {M : Nat → Prop} {n room : Nat} {ss : List Sd} (x : Int) (w : World) (h : Ln w p M n room ss) (hn : n ≤ 1000) (hl : ss.length ≤ 1000) (hx : (Lit.int .i64 x).wf = true) :
    Calls Tryz.prog 105 #[.pointer (some ⟨p, 0, none⟩), .int .i64 x] w (lpullTo p M n room ss x w) := by
  obtain ⟨r, mb, vs, h⟩ := h
  cases hk : hasK ss x with
  | true => exact lpull_yes x w h hn hl hx hk
  | false => exact lpull_no x w h hx hk
end Go.Proofs.YtfbpjobobdidiaaGreatDoor


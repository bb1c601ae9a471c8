/- Texts of the layers below, side by side. -/
import Derived.Test.YtfbpjobobdidiaaGreatDoorGrpF
import Derived.Test.YtfbpjobobdidiaaGreatDoorShelf
import Derived.BigRegion
import Derived.BigQuiet
import Derived.Test.YtfbpjobobdidiaaGreatDoorGrpH
import Derived.RangeFuncBox
import Derived.Lib.SlicesCompact
import Derived.Test.YtfbpjobobdidiaaGreatDoorGrpA
import Derived.Sort.OwnSortedInts
import Derived.Lib.RowBridge
/- The code's own register in memory; a new one; who waits; how many more there is room for; how two compare. -/
namespace Go.Proofs.YtfbpjobobdidiaaGreatDoor
open Go.RowKit Go.Maps
set_option linter.unusedVariables false
set_option maxRecDepth 100000

/-- the code's own register at block p, its map at block b -/
structure WAt (w : World) (p b : Nat) (room came : Nat) (es : List En) : Prop where
  row : Row w p 150 #[.int .i64 room, .map (some b), .int .i64 came]
  md : Md14 w b es
  fine : FineE came es
  good : GoodR room (seats es)
theorem WAt.keep {w w' : World} {p b room came : Nat} {es : List En} (h : WAt w p b room came es) {S : Nat → Prop} (o : Only S w w') (hp : ¬ S p) (hb : ¬ S b) : WAt w' p b room came es := ⟨o.row h.row hp, h.md.keep o hb, h.fine, h.good⟩
theorem WAt.still {w w' : World} {p b room came : Nat} {es : List En} (h : WAt w p b room came es) (o : Only none_ w w') : WAt w' p b room came es := h.keep o (fun s => s) (fun s => s)
theorem WAt.once {w : World} {p b room came : Nat} {es : List En} (h : WAt w p b room came es) : OnceE es := once_of h.good.once
theorem WAt.len {w : World} {p b room came : Nat} {es : List En} (h : WAt w p b room came es) : es.length ≤ 64 := by
  have h1 := h.good.len
  have h2 := h.good.high
  rw [seats_len] at h1
  omega
theorem WAt.ne {w : World} {p b room came : Nat} {es : List En} (h : WAt w p b room came es) : p ≠ b := h.md.ne h.row
/-- what may turn in it -/
abbrev two14 (p b : Nat) : Nat → Prop := fun k => k = p ∨ k = b

/-- the code's own register at block p; all its blocks are among M; no more than L came -/
structure WG (w : World) (p : Nat) (M : Nat → Prop) (room L : Nat) (ss : List Sx) : Prop where
  good : GoodR room ss
  ex : ∃ b came es, WAt w p b room came es ∧ seats es = ss ∧ came ≤ L ∧ M p ∧ M b
  lt : ∀ g, M g → g < w.heap.size
theorem WG.keep {w w' : World} {p : Nat} {M : Nat → Prop} {room L : Nat} {ss : List Sx} (h : WG w p M room L ss) {S : Nat → Prop} (o : Only S w w') (hn : ∀ g, M g → ¬ S g) : WG w' p M room L ss := by
  obtain ⟨b, came, es, h1, h2, h3, mp, mb⟩ := h.ex
  exact ⟨h.good, ⟨b, came, es, h1.keep o (hn p mp) (hn b mb), h2, h3, mp, mb⟩, fun g hg => Nat.lt_of_lt_of_le (h.lt g hg) o.size⟩
theorem WG.still {w w' : World} {p : Nat} {M : Nat → Prop} {room L : Nat} {ss : List Sx} (h : WG w p M room L ss) (o : Only none_ w w') : WG w' p M room L ss := h.keep o (fun _ _ s => s)
theorem WG.up {w : World} {p : Nat} {M : Nat → Prop} {room L : Nat} {ss : List Sx} (h : WG w p M room L ss) {L' : Nat} (k : L ≤ L') : WG w p M room L' ss := by
  obtain ⟨b, came, es, h1, h2, h3, r⟩ := h.ex
  exact ⟨h.good, ⟨b, came, es, h1, h2, Nat.le_trans h3 k, r⟩, h.lt⟩
/-- behind a call -/
def WGto (w : World) (p : Nat) (M : Nat → Prop) (room L : Nat) (ss : List Sx) (w' : World) : Prop := (∃ M' : Nat → Prop, WG w' p M' room L ss ∧ ∀ g, M' g → M g ∨ w.heap.size ≤ g) ∧ Only M w w'
/-- .. and a slice that it has answered is none of the register's own -/
def WGtoV (w : World) (p : Nat) (M : Nat → Prop) (room L : Nat) (ss : List Sx) (v : Value) (w' : World) : Prop := (∃ M' : Nat → Prop, WG w' p M' room L ss ∧ (∀ g, M' g → M g ∨ w.heap.size ≤ g) ∧ ∀ g, v.ownBlock = some g → ¬ M' g) ∧ Only M w w'
theorem WGtoV.to {w w' : World} {p : Nat} {M : Nat → Prop} {room L : Nat} {ss : List Sx} {v : Value} (h : WGtoV w p M room L ss v w') : WGto w p M room L ss w' := ⟨h.1.imp (fun M' h => ⟨h.1, h.2.1⟩), h.2⟩
/-- what a call that turns just the two blocks comes to -/
theorem WG.went {w w' : World} {p b room came L L' : Nat} {M : Nat → Prop} {ss : List Sx} {es : List En} (h : WG w p M room L ss) (mp : M p) (mb : M b) (k : WAt w' p b room came es) (hl : came ≤ L') (o : Only (two14 p b) w w') : WGto w p M room L' (seats es) w' :=
  ⟨⟨M, ⟨k.good, ⟨b, came, es, k, rfl, hl, mp, mb⟩, fun g hg => Nat.lt_of_lt_of_le (h.lt g hg) o.size⟩, fun g hg => .inl hg⟩, o.more (fun i _ k => by rcases k with rfl | rfl <;> assumption)⟩
theorem WG.wentV {w w' : World} {p b room came L L' : Nat} {M : Nat → Prop} {ss : List Sx} {es : List En} {v : Value} (h : WG w p M room L ss) (mp : M p) (mb : M b) (k : WAt w' p b room came es) (hl : came ≤ L') (o : Only (two14 p b) w w') (hv : ∀ g, v.ownBlock = some g → w.heap.size ≤ g) : WGtoV w p M room L' (seats es) v w' :=
  ⟨⟨M, ⟨k.good, ⟨b, came, es, k, rfl, hl, mp, mb⟩, fun g hg => Nat.lt_of_lt_of_le (h.lt g hg) o.size⟩, fun g hg => .inl hg, fun g hg hm => by have := hv g hg; have := h.lt g hm; omega⟩, o.more (fun i _ k => by rcases k with rfl | rfl <;> assumption)⟩

theorem wnew_yes (room : Nat) (w : World) (h1 : 1 ≤ room) (h2 : room ≤ 64) :
    Calls Tryz.prog 36 #[.int .i64 room] w fun e w' => ∃ p, e = .returned (.tuple #[.pointer (some ⟨p, 0, none⟩), .int .i64 0]) ∧ (∃ M, WG w' p M room 0 [] ∧ ∀ g, M g → w.heap.size ≤ g) ∧ Only none_ w w' := by
  have hmm := @run_makeMap Tryz.prog
  have d1 : decide ((room : Int) < 1) = false := by simp; omega
  have d2 : decide ((64 : Int) < (room : Int)) = false := by simp; omega
  have GN := Lib.hid (good_nil h1 h2)
  clear h1 h2
  go_enter Tryz.func36, Tryz.ntmps36
  go_wp2
  go_ret2
  have o0 := World.ownsMap_made (H := Unit) w Tryz.prog 36 stElem
  have r1 := Row.fresh (w.alloc (.map #[] 0)) 150 #[.int .i64 room, .map (some w.heap.size), .int .i64 0]
  simp only [World.size_alloc] at r1
  refine ⟨w.heap.size + 1, rfl, ⟨two14 (w.heap.size + 1) w.heap.size, ⟨GN.out, ⟨w.heap.size, 0, [], ⟨r1, ⟨_, o0.alloc _, Reads14.nil⟩, fine_nil 0, GN.out⟩, rfl, Nat.le_refl _, .inl rfl, .inr rfl⟩, fun g hg => ?_⟩, fun g hg => ?_⟩, ((Only.refl _ _).alloc _).alloc _⟩
  · simp only [World.size_alloc]
    rcases hg with rfl | rfl <;> omega
  · rcases hg with rfl | rfl <;> omega

theorem wnew_no (room : Int) (w : World) (h : ¬ (1 ≤ room ∧ room ≤ 64)) :
    Calls Tryz.prog 36 #[.int .i64 room] w fun e w' => e = .returned (.tuple #[.pointer none, .int .i64 1]) ∧ Only none_ w w' := by
  by_cases h1 : room < 1
  · have d1 : decide (room < 1) = true := by simpa using h1
    clear h h1
    go_enter Tryz.func36, Tryz.ntmps36
    go_wp2
    go_ret2
    exact ⟨rfl, Only.refl _ _⟩
  · have d1 : decide (room < 1) = false := by simpa using h1
    have d2 : decide (64 < room) = true := by simp; omega
    clear h h1
    go_enter Tryz.func36, Tryz.ntmps36
    go_wp2
    go_ret2
    exact ⟨rfl, Only.refl _ _⟩

theorem may25_any (x : Wt) (w : World) :
    Calls Tryz.prog 114 #[.agg #[.int .i64 x.r, .int .i64 x.p]] w fun e w' => e = .returned (.bool (decide (1 ≤ x.r ∧ 0 ≤ x.p ∧ x.p < 8))) ∧ Only none_ w w' := by
  have O1 := Lib.hid ((Only.refl none_ w).alloc (.cells #[.int .i64 x.r, .int .i64 x.p] 36))
  have c0 : (w.alloc (.cells #[.int .i64 x.r, .int .i64 x.p] 36)).cell? ⟨w.heap.size, 0, none⟩ = some (.int .i64 x.r) := by rw [(Row.fresh _ _ _).cell]; rfl
  have c1 : (w.alloc (.cells #[.int .i64 x.r, .int .i64 x.p] 36)).cell? ⟨w.heap.size, 1, none⟩ = some (.int .i64 x.p) := by rw [(Row.fresh _ _ _).cell]; rfl
  by_cases h1 : 1 ≤ x.r
  · have t1 : decide (1 ≤ x.r) = true := decide_eq_true h1
    by_cases h2 : 0 ≤ x.p
    · have t2 : decide (0 ≤ x.p) = true := decide_eq_true h2
      have E := Lib.hid (show decide (1 ≤ x.r ∧ 0 ≤ x.p ∧ x.p < 8) = decide (x.p < 8) from by simp [h1, h2])
      rw [E.out]
      clear h1 h2
      go_enter Tryz.func114, Tryz.ntmps114
      go_wp2
      go_ret
      exact ⟨rfl, O1.out⟩
    · have t2 : decide (0 ≤ x.p) = false := decide_eq_false h2
      have E := Lib.hid (show decide (1 ≤ x.r ∧ 0 ≤ x.p ∧ x.p < 8) = false from decide_eq_false (fun k => h2 k.2.1))
      rw [E.out]
      clear h1 h2
      go_enter Tryz.func114, Tryz.ntmps114
      go_wp2
      go_ret
      exact ⟨rfl, O1.out⟩
  · have t1 : decide (1 ≤ x.r) = false := decide_eq_false h1
    have E := Lib.hid (show decide (1 ≤ x.r ∧ 0 ≤ x.p ∧ x.p < 8) = false from decide_eq_false (fun k => h1 k.1))
    rw [E.out]
    clear h1
    go_enter Tryz.func114, Tryz.ntmps114
    go_wp2
    go_ret
    exact ⟨rfl, O1.out⟩

set_option maxHeartbeats 1000000 in
theorem waits19 {p b room came : Nat} {es : List En} (x : Wt) (wx : wfW x) (w : World) (h : WAt w p b room came es) :
    Calls Tryz.prog 107 #[.pointer (some ⟨p, 0, none⟩), .agg #[.int .i64 x.r, .int .i64 x.p]] w fun e w' => e = .returned (.bool (hasE es x)) ∧ Only none_ w w' := by
  obtain ⟨W1, hW1⟩ : ∃ W1, W1 = w.alloc (.cells #[.int .i64 x.r, .int .i64 x.p] 36) := ⟨_, rfl⟩
  have o1 : Only none_ w W1 := by rw [hW1]; exact (Only.refl none_ w).alloc _
  have OZ := Lib.hid (((Only.refl none_ W1).alloc (.cells #[.int .i64 0, .int .i64 0] 193)).drew)
  have XR : Row W1 w.heap.size 36 #[.int .i64 x.r, .int .i64 x.p] := by rw [hW1]; exact Row.fresh _ _ _
  have c2 : W1.drew.cell? ⟨p, 1, none⟩ = some (.map (some b)) := by show W1.cell? _ = _; rw [(o1.still h.row).cell]; rfl
  have x0 : W1.drew.cell? ⟨w.heap.size, 0, none⟩ = some (.int .i64 x.r) := by show W1.cell? _ = _; rw [XR.cell]; rfl
  have x1 : W1.drew.cell? ⟨w.heap.size, 1, none⟩ = some (.int .i64 x.p) := by show W1.cell? _ = _; rw [XR.cell]; rfl
  have c2z : ((W1.alloc (.cells #[.int .i64 0, .int .i64 0] 193)).drew).cell? ⟨p, 1, none⟩ = some (.map (some b)) := OZ.out.cell (show W1.cell? _ = _ from c2) (fun s => s)
  have x0z : ((W1.alloc (.cells #[.int .i64 0, .int .i64 0] 193)).drew).cell? ⟨w.heap.size, 0, none⟩ = some (.int .i64 x.r) := OZ.out.cell (show W1.cell? _ = _ from x0) (fun s => s)
  have x1z : ((W1.alloc (.cells #[.int .i64 0, .int .i64 0] 193)).drew).cell? ⟨w.heap.size, 1, none⟩ = some (.int .i64 x.p) := OZ.out.cell (show W1.cell? _ = _ from x1) (fun s => s)
  have LK := ((h.md.still o1).still ((Only.refl none_ W1).drew)).look h.once wx
  have LZ := ((h.md.still o1).still OZ.out).look h.once wx
  have O1 := Lib.hid o1
  unfold stVal at LK LZ
  generalize tick es x = tk at LK LZ
  generalize turn es x = tn at LK LZ
  generalize hasE es x = hs at LK LZ ⊢
  clear h o1 XR wx
  go_enter Tryz.func107, Tryz.ntmps107
  go_wp2_with fail
  rw [← hW1]
  clear hW1
  go_region
  all_goals (try go_wp2_with fail)
  all_goals go_ret
  all_goals first
    | exact ⟨rfl, (O1.out.drew).alloc _⟩
    | exact ⟨rfl, (O1.out.alloc _).drew⟩

theorem free23 {p b room came : Nat} {es : List En} (w : World) (h : WAt w p b room came es) :
    Calls Tryz.prog 53 #[.pointer (some ⟨p, 0, none⟩)] w fun e w' => e = .returned (.int .i64 ((room : Int) - (es.length : Int))) ∧ Only none_ w w' := by
  have c0 : w.cell? ⟨p, 0, none⟩ = some (.int .i64 room) := by rw [h.row.cell]; rfl
  have c1 : w.cell? ⟨p, 1, none⟩ = some (.map (some b)) := by rw [h.row.cell]; rfl
  have LE := fun n ty => (h.md.still ((Only.refl none_ w).drewN n)).len h.once ty
  have v1 : IntKind.i64.wrap ((room : Int) - (es.length : Int)) = (room : Int) - (es.length : Int) := by have := h.len; have := h.good.high; rw [IntKind.wrap_i64]; omega
  generalize es.length = len at *
  clear h
  go_enter Tryz.func53, Tryz.ntmps53
  go_wp2_with fail
  go_quiet (fail)
  go_wp2_with fail
  go_ret
  exact ⟨rfl, (Only.refl _ _).drewN _⟩
/-- how two of them compare: by their turns -/
theorem less31 {p b room came : Nat} {es : List En} (w : World) (h : WAt w p b room came es) (x y : Wt) (wx : wfW x) (wy : wfW y) :
    Calls Tryz.prog 123 #[.pointer (some ⟨p, 0, none⟩), .agg #[.int .i64 x.r, .int .i64 x.p], .agg #[.int .i64 y.r, .int .i64 y.p]] w fun e w' => e = .returned (.int .i64 (kcmp (fun z => (turn es z : Int)) x y)) ∧ Only none_ w w' := by
  obtain ⟨W1, hW1⟩ : ∃ W1, W1 = (w.alloc (.cells #[.int .i64 x.r, .int .i64 x.p] 36)).alloc (.cells #[.int .i64 y.r, .int .i64 y.p] 36) := ⟨_, rfl⟩
  have o1 : Only none_ w W1 := by rw [hW1]; exact ((Only.refl none_ w).alloc _).alloc _
  have XR : Row W1 w.heap.size 36 #[.int .i64 x.r, .int .i64 x.p] := by rw [hW1]; exact (Row.fresh _ _ _).alloc _
  have YR : Row W1 (w.heap.size + 1) 36 #[.int .i64 y.r, .int .i64 y.p] := by
    rw [hW1]
    have := Row.fresh (w.alloc (.cells #[.int .i64 x.r, .int .i64 x.p] 36)) 36 #[.int .i64 y.r, .int .i64 y.p]
    rwa [World.size_alloc] at this
  have c1 : W1.cell? ⟨p, 1, none⟩ = some (.map (some b)) := by rw [(o1.still h.row).cell]; rfl
  obtain ⟨x0, x1⟩ := XR.two
  obtain ⟨y0, y1⟩ := YR.two
  have GX := fun n => ((h.md.still o1).still ((Only.refl none_ W1).drewN n)).get h.once wx
  have GY := fun n => ((h.md.still o1).still ((Only.refl none_ W1).drewN n)).get h.once wy
  have CM := Lib.hid (fun W => Tryz.cmp_Compare_int (turn es x) (turn es y) W)
  have O1 := Lib.hid o1
  unfold kcmp
  dsimp only
  unfold stVal at GX GY
  have FX := fun (W : World) => (show (Instr.field 193 (.agg #[.int .i64 (tick es x), .int .i64 (turn es x)]) 1).run Tryz.prog W = .ok (.int .i64 (turn es x)) W from by kernel_rfl)
  have FY := fun (W : World) => (show (Instr.field 193 (.agg #[.int .i64 (tick es y), .int .i64 (turn es y)]) 1).run Tryz.prog W = .ok (.int .i64 (turn es y)) W from by kernel_rfl)
  generalize tick es x = tx at GX FX
  generalize tick es y = ty at GY FY
  generalize (turn es x : Int) = nx at GX CM FX ⊢
  generalize (turn es y : Int) = ny at GY CM FY ⊢
  clear h o1 XR YR wx wy
  go_enter Tryz.func123, Tryz.ntmps123
  go_wp2_with fail
  rw [← hW1]
  clear hW1
  go_quiet ((go_at_call 154; exact Calls.quiet_of_same (CM.out _)))
  go_wp2_with fail
  go_ret
  exact ⟨rfl, O1.out.drewN _⟩
end Go.Proofs.YtfbpjobobdidiaaGreatDoor


/- The document's own register: who waits for a ticket; are two rows of waiters the same; is a number in a list. -/
namespace Go.Proofs.YtfbpjobobdidiaaGreatDoor
open Go.RowKit
set_option linter.unusedVariables false
set_option maxRecDepth 100000

theorem wt_upto {xs ys : List Wt} (hl : xs.length = ys.length) (h : ∀ j, j < xs.length → xs[j]? = ys[j]?) : xs = ys := by
  apply List.ext_getElem?
  intro j
  rcases Nat.lt_or_ge j xs.length with c | c
  · exact h j c
  · rw [List.getElem?_eq_none c, List.getElem?_eq_none (by omega)]
set_option maxHeartbeats 2000000 in
theorem same14_any (v u : Value) (xs ys : List Wt) (w : World) (hx : ReadsW w v xs) (hy : ReadsW w u ys) (hm : xs.length ≤ 1000000) (hm2 : ys.length ≤ 1000000) :
    Calls Tryz.prog 29 #[v, u] w fun e w' => e = .returned (.bool (decide (xs = ys))) ∧ Only none_ w w' := by
  obtain ⟨a, ca, rfl, ha⟩ := hx
  obtain ⟨b, cb, rfl, hb⟩ := hy
  by_cases hl : xs.length = ys.length
  · have HA := Lib.hid ha
    have HB := Lib.hid hb
    have t : ((xs.length : Int) != (ys.length : Int)) = false := by simp [hl]
    have HL := Lib.hid hl
    clear ha hb
    have hl' : xs.length ≤ ys.length := by omega
    clear hl
    go_enter Tryz.func29, Tryz.ntmps29
    go_wp2_with fail
    go_loopw [5] (fun i wr => ∃ k : Nat, k ≤ xs.length ∧ i = .int .i64 k ∧ Only none_ w wr ∧ ∀ j, j < k → xs[j]? = ys[j]?) (fun i _ => xs.length - (intOf i).toNat)
    case atStart => exact ⟨0, Nat.zero_le _, rfl, Only.refl _ _, fun j hj => by omega⟩
    case round =>
      obtain ⟨k, hk, rfl, o, eq⟩ := hrel
      have O := Lib.hid o
      have EQ := Lib.hid eq
      clear o eq
      by_cases hlt : k < xs.length
      · obtain ⟨x, hx⟩ : ∃ x, xs[k]? = some x := ⟨_, List.getElem?_eq_getElem hlt⟩
        have hlt2 : k < ys.length := by omega
        obtain ⟨y, hy⟩ : ∃ y, ys[k]? = some y := ⟨_, List.getElem?_eq_getElem hlt2⟩
        obtain ⟨g1, o1, rfl, c1, c2⟩ := HA.out k x hx
        obtain ⟨g2, o2, rfl, c3, c4⟩ := HB.out k y hy
        have d1 := O.out.cell c1 (fun s => s)
        have d2 := O.out.cell c2 (fun s => s)
        have d3 := O.out.cell c3 (fun s => s)
        have d4 := O.out.cell c4 (fun s => s)
        have HX := Lib.hid hx
        have HY := Lib.hid hy
        have er := fun w => eq_wt x y w
        clear hx hy c1 c2 c3 c4 HA HB
        by_cases e : x = y
        · rw [decide_eq_true e] at er
          have E2 := Lib.hid e
          clear e
          go_wp2_with fail
          go_quiet (fail)
          go_wp2_with fail
          go_roundw
          case rel => exact ⟨k + 1, by omega, by go_num, O.out.drewN _, fun j hj => by
            rcases Nat.lt_or_ge j k with c | c
            · exact EQ.out j c
            · obtain rfl : j = k := by omega
              rw [HX.out, HY.out, E2.out]⟩
          case measure => simp [intOf]; omega
        · rw [decide_eq_false e] at er
          have NE := Lib.hid (show decide (xs = ys) = false from by
            have : ¬ xs = ys := fun q => by
              have := HX.out
              rw [q, HY.out] at this
              injection this with this
              exact e this.symm
            simpa using this)
          clear e
          go_wp2_with fail
          go_quiet (fail)
          go_wp2_with fail
          go_ret
          exact ⟨by rw [NE.out]; rfl, O.out.drewN _⟩
      · have YE := Lib.hid (show decide (xs = ys) = true from by
          have : xs = ys := wt_upto HL.out (fun j hj => EQ.out j (by omega))
          simpa using this)
        have hge : xs.length ≤ k := by omega
        go_wp2_with fail
        go_ret
        exact ⟨by rw [YE.out]; rfl, O.out⟩
  · have t : ((xs.length : Int) != (ys.length : Int)) = true := by simp; omega
    have NE := Lib.hid (show decide (xs = ys) = false from by
      have : ¬ xs = ys := fun q => hl (by rw [q])
      simpa using this)
    clear ha hb hl
    go_enter Tryz.func29, Tryz.ntmps29
    go_wp2_with fail
    go_ret
    exact ⟨by rw [NE.out]; rfl, Only.refl _ _⟩
end Go.Proofs.YtfbpjobobdidiaaGreatDoor


/- The document's own register: who waits for a ticket is taken. -/
namespace Go.Proofs.YtfbpjobobdidiaaGreatDoor
open Go.RowKit
set_option linter.unusedVariables false
set_option maxRecDepth 100000

theorem own_form14 {α : Type} {w : World} {base : Nat} {e : TypeId} {k : Nat} {c : α → List Value} {v : Value} {es : List α} (h : Owns w base e k c v es) : ∃ a n cap, v = .slice a n cap := by
  rcases h.2 with ⟨h0, _⟩ | ⟨g, cap, cur, hv, _⟩
  · exact ⟨none, 0, 0, h0⟩
  · exact ⟨_, _, _, hv⟩
end Go.Proofs.YtfbpjobobdidiaaGreatDoor


/- Somebody waits: the code's own register. -/
namespace Go.Proofs.YtfbpjobobdidiaaGreatDoor
open Go.RowKit Go.Maps
set_option linter.unusedVariables false
set_option maxRecDepth 100000

theorem good_push {came : Nat} {es : List En} (h : FineE came es) (s : Sx) : seats (es ++ [⟨s, came + 1⟩]) = seats es ++ [s] := by unfold seats; rw [List.map_append]; rfl
theorem may_of (t : Int) (x : Wt) : mayW t x ↔ ¬ t < 1 ∧ (1 ≤ x.r ∧ 0 ≤ x.p ∧ x.p < 8) := by unfold mayW; omega

set_option maxHeartbeats 1000000 in
theorem add11 {p b room came : Nat} {es : List En} (t : Int) (x : Wt) (wx : wfW x) (w : World) (h : WAt w p b room came es) (hc : came < 1000000) :
    Calls Tryz.prog 69 #[.pointer (some ⟨p, 0, none⟩), .int .i64 t, .agg #[.int .i64 x.r, .int .i64 x.p]] w fun e w' => e = .returned (.int .i64 (addI room (seats es) t x)) ∧ ∃ came' es', WAt w' p b room came' es' ∧ seats es' = addS room (seats es) t x ∧ came' ≤ came + 1 ∧ Only (two14 p b) w w' := by
  have H := Lib.hid h
  have C25 := Lib.hid (fun W => may25_any x W)
  have C19 := Lib.hid (fun W (o : Only none_ w W) => waits19 x wx W (h.still o))
  have C23 := Lib.hid (fun W (o : Only none_ w W) => free23 W (h.still o))
  have RO := Lib.hid (Only.refl none_ w)
  obtain ⟨c, hcc⟩ : ∃ c, addI room (seats es) t x = c := ⟨_, rfl⟩
  have HC := Lib.hid hcc
  have HN := Lib.hid hc
  clear h hc hcc
  rw [HC.out]
  by_cases h1 : t < 1
  · have t1 : decide (t < 1) = true := decide_eq_true h1
    have C1 := Lib.hid (show c = 1 from by rw [← HC.out]; exact if_neg (fun k => ((may_of t x).1 k).1 h1))
    clear h1
    go_enter Tryz.func69, Tryz.ntmps69
    go_wp2_with fail
    go_ret
    refine ⟨?_, came, es, H.out.still ((Only.refl _ _).alloc _), ?_, Nat.le_succ _, ((Only.refl _ _).alloc _)⟩
    · rw [C1.out]; rfl
    · unfold addS; rw [HC.out, C1.out]; rfl
  · have t1 : decide (t < 1) = false := decide_eq_false h1
    have H1 := Lib.hid h1
    clear h1
    by_cases h2 : 1 ≤ x.r ∧ 0 ≤ x.p ∧ x.p < 8
    · have t2 : decide (1 ≤ x.r ∧ 0 ≤ x.p ∧ x.p < 8) = true := decide_eq_true h2
      have MY := Lib.hid ((may_of t x).2 ⟨H1.out, h2⟩)
      rw [t2] at C25
      have CC := Lib.hid (show c = if waitsB (seats es) x then 4 else if room ≤ (seats es).length then 2 else 0 from by rw [← HC.out]; exact if_pos MY.out)
      clear h2 t2
      obtain ⟨hs, hhs⟩ : ∃ hs, hasE es x = hs := ⟨_, rfl⟩
      have HS := Lib.hid hhs
      rw [hhs] at C19
      clear hhs
      go_enter Tryz.func69, Tryz.ntmps69
      go_wp2_with fail
      (with_reducible refine (C25.out _).mono ?_)
      rintro e w1 ⟨rfl, o⟩
      have O1 := Lib.hid (((Only.refl none_ w).alloc (.cells #[.int .i64 x.r, .int .i64 x.p] 36)).idle o)
      have XR := Lib.hid (o.row (Row.fresh w 36 #[.int .i64 x.r, .int .i64 x.p]) (fun s => s))
      clear o
      have x0 : w1.cell? ⟨w.heap.size, 0, none⟩ = some (.int .i64 x.r) := by rw [XR.out.cell]; rfl
      have x1 : w1.cell? ⟨w.heap.size, 1, none⟩ = some (.int .i64 x.p) := by rw [XR.out.cell]; rfl
      go_wp2_with fail
      (with_reducible refine (C19.out w1 O1.out).mono ?_)
      rintro e w2 ⟨rfl, o⟩
      have O2 := Lib.hid (O1.out.idle o)
      have XR2 := Lib.hid (o.row XR.out (fun s => s))
      clear o x0 x1
      cases hs with
      | true =>
        have C4 := Lib.hid (show c = 4 from by rw [CC.out, ← has_seats, HS.out]; rfl)
        go_wp2_with fail
        go_ret
        refine ⟨?_, came, es, H.out.still O2.out, ?_, Nat.le_succ _, O2.out.more (fun i hi k => absurd k (fun s => s))⟩
        · rw [C4.out]; rfl
        · unfold addS; rw [HC.out, C4.out]; rfl
      | false =>
        go_wp2_with fail
        (with_reducible refine (C23.out w2 O2.out).mono ?_)
        rintro e w3 ⟨rfl, o⟩
        have O3 := Lib.hid (O2.out.idle o)
        have XR3 := Lib.hid (o.row XR2.out (fun s => s))
        clear o
        obtain ⟨ln, hln⟩ : ∃ n, es.length = n := ⟨_, rfl⟩
        have LN := Lib.hid hln
        rw [hln]
        clear hln
        have RL := Lib.hid (show ln ≤ room ∧ room ≤ 64 from by rw [← LN.out]; exact ⟨by have := H.out.good.len; rw [seats_len] at this; exact this, H.out.good.high⟩)
        by_cases h3 : ln = room
        · have t3 : ((room : Int) - (ln : Int) == 0) = true := by rw [beq_iff_eq]; omega
          have C2 := Lib.hid (show c = 2 from by rw [CC.out, ← has_seats, HS.out, seats_len, LN.out, if_neg (by simp), if_pos (by omega)])
          clear h3
          go_wp2_with fail
          go_ret
          refine ⟨?_, came, es, H.out.still O3.out, ?_, Nat.le_succ _, O3.out.more (fun i hi k => absurd k (fun s => s))⟩
          · rw [C2.out]; rfl
          · unfold addS; rw [HC.out, C2.out]; rfl
        · have t3 : ((room : Int) - (ln : Int) == 0) = false := by rw [beq_eq_false_iff_ne]; intro k; exact h3 (by omega)
          have C0 := Lib.hid (show c = 0 from by rw [CC.out, ← has_seats, HS.out, seats_len, LN.out, if_neg (by simp), if_neg (by have := RL.out; omega)])
          clear h3
          have H3 := Lib.hid (H.out.still O3.out)
          have c2 : w3.cell? ⟨p, 2, none⟩ = some (.int .i64 came) := by rw [H3.out.row.cell]; rfl
          have f2 : w3.frozen? ⟨p, 2, none⟩ = false := H3.out.row.frozen 2
          have v2 : IntKind.i64.wrap ((came : Int) + 1) = ((came + 1 : Nat) : Int) := by have := HN.out; rw [IntKind.wrap_i64]; omega
          obtain ⟨w4, hw4⟩ : ∃ w4, w4 = w3.setCell ⟨p, 2, none⟩ (.int .i64 ((came : Int) + 1)) := ⟨_, rfl⟩
          have o4 : Only (fun k => k = p) w3 w4 := by rw [hw4]; exact (Only.refl (fun k => k = p) w3).into rfl _ _
          have NE := Lib.hid (show p ≠ b from H.out.ne)
          have R4 : Row w4 p 150 #[.int .i64 room, .map (some b), .int .i64 ((came : Int) + 1)] := by rw [hw4]; exact H3.out.row.put 2 _
          have o4d := o4.idle ((Only.refl none_ w4).drew)
          have R4d := ((Only.refl none_ w4).drew).still R4
          have M4d := H3.out.md.keep o4d (fun k => NE.out k.symm)
          have XR4 := o4d.row XR3.out (fun k => by have := H.out.row.lt; omega)
          have d1 : w4.drew.cell? ⟨p, 1, none⟩ = some (.map (some b)) := by rw [R4d.cell]; rfl
          have d2 : w4.drew.cell? ⟨p, 2, none⟩ = some (.int .i64 ((came : Int) + 1)) := by rw [R4d.cell]; rfl
          obtain ⟨x0, x1⟩ := XR4.two
          obtain ⟨w5, run5, m5, o5⟩ := M4d.store H.out.once (by have := H.out.len; omega) ⟨⟨t, x⟩, came + 1⟩ wx HS.out
          dsimp only at run5
          rw [show ((came + 1 : Nat) : Int) = (came : Int) + 1 from rfl] at run5
          have GD := good_add H.out.good t x
          have SE : seats (es ++ [⟨⟨t, x⟩, came + 1⟩]) = addS room (seats es) t x := by rw [good_push H.out.fine]; unfold addS; rw [HC.out, C0.out, if_pos rfl]
          rw [← SE] at GD
          have R5 := o5.row R4d (fun k => NE.out k)
          have FIN := Lib.hid (show WAt w5 p b room (came + 1) (es ++ [⟨⟨t, x⟩, came + 1⟩]) from ⟨R5, m5, H.out.fine.add _, GD⟩)
          have FO := Lib.hid (show Only (two14 p b) w w5 from ((O3.out.up (S := two14 p b)).same (o4d.more (fun i hi e => .inl e))).same (o5.more (fun i hi e => .inr e)))
          have SO := Lib.hid SE
          clear o4 R4 o4d R4d M4d XR4 m5 o5 GD SE R5
          go_upto_region 8 with fail
          rw [← hw4]
          clear hw4
          go_region
          all_goals
            go_wp2_with fail
            go_ret
            exact ⟨by rw [C0.out]; rfl, _, _, FIN.out, SO.out, Nat.le_refl _, FO.out⟩
    · have t2 : decide (1 ≤ x.r ∧ 0 ≤ x.p ∧ x.p < 8) = false := decide_eq_false h2
      have C1 := Lib.hid (show c = 1 from by rw [← HC.out]; exact if_neg (fun k => h2 ((may_of t x).1 k).2))
      rw [t2] at C25
      clear h2 t2
      go_enter Tryz.func69, Tryz.ntmps69
      go_wp2_with fail
      (with_reducible refine (C25.out _).mono ?_)
      rintro e w1 ⟨rfl, o⟩
      have O1 := Lib.hid (((Only.refl none_ w).alloc (.cells #[.int .i64 x.r, .int .i64 x.p] 36)).idle o)
      clear o
      go_wp2_with fail
      go_ret
      refine ⟨?_, came, es, H.out.still O1.out, ?_, Nat.le_succ _, O1.out.more (fun i hi k => absurd k (fun s => s))⟩
      · rw [C1.out]; rfl
      · unfold addS; rw [HC.out, C1.out]; rfl
end Go.Proofs.YtfbpjobobdidiaaGreatDoor


/- Who waits for a ticket: the code's own register. -/
namespace Go.Proofs.YtfbpjobobdidiaaGreatDoor
open Go.RowKit Go.Maps Go.Shelf
set_option linter.unusedVariables false
set_option maxRecDepth 100000
attribute [local go_sem] Oper.semAt_some

/-! ### what a round owes to the iterator -/
theorem walks_put {A : World} {l : Nat} {o : Obj} (o' : Obj) (h : A.heap[l]? = some o) (hw : o.isWalk = false) : KeepsWalks A (A.putObj l o') := by
  refine ⟨by simp, fun k u hk hu => ?_⟩
  have : k ≠ l := fun e => by subst e; rw [h] at hk; cases hk; rw [hw] at hu; cases hu
  exact (World.putObj_heap_other this).trans hk
theorem takes_walks {b : Nat} {x : En} {W W' : World} (h : KeepsWalks W W') : Takes b x W W' := fun r n D left cnt _ hr => ⟨D, cnt, hr.of_walks h, Nat.le_refl _, .inl rfl⟩
theorem walks_others {W W' : World} (h : KeepsOthers W W') : KeepsWalks W W' := ⟨h.size, fun k o hk hw => h.same k o hk (Obj.not_cells_of_walk hw)⟩
theorem takes_from {b : Nat} {x : En} {A A' B : World} (h : KeepsWalks A A') (t : Takes b x A' B) : Takes b x A B := fun r n D left cnt q hr => t r n D left cnt q (hr.of_walks h)
theorem takes_to {b : Nat} {x : En} {A B B' : World} (t : Takes b x A B) (h : KeepsWalks B B') : Takes b x A B' := fun r n D left cnt q hr => by
  obtain ⟨D', c, h1, h2, h3⟩ := t r n D left cnt q hr
  exact ⟨D', c, h1.of_walks h, h2, h3⟩
theorem row_kept {W W' : World} {row : Option Nat} {g : Nat} {t : TypeId} {cs : Array Value} (h : Row W g t cs) (hg : W.grownBy W' row) (hr : ∀ r, row = some r → ∃ o : Obj, W.heap[r]? = some o ∧ o.isCells = false) : Row W' g t cs :=
  (grownBy_keeps_cells hg hr (show W.heap[g]? = _ from h) rfl).trans h
/-- the iterator hands out each entry once -/
theorem hand14 (m : Nat) (hm : 1 ≤ m) {w0 : World} {Bs p b room came : Nat} {es : List En} (h : WAt w0 p b room came es) (hBs : Row w0 Bs 93 #[.pointer (some ⟨p, 0, none⟩)]) :
    Handing Fence.wide m Tryz.prog 149 #[.pointer (some ⟨Bs, 0, none⟩)] encE (fun pre x => (pre ++ [x]).Nodup ∧ ∀ y ∈ pre ++ [x], y ∈ es) (Takes b) (fun xs => xs.Perm es) w0 := by
  intro l J W hb hJ hY h0
  have o := Only.of_below hb
  have pl := h.row.lt
  have bl := h.md.lt
  have sl := hBs.lt
  have h2 := h.keep o (by omega) (by omega)
  obtain ⟨D0, k1, k2⟩ := h2.md
  refine iter14 m hm l Bs b es.length p D0 es room came k2 h2.once J hY W hJ ?_ h2.row k1 h0
  rw [(o.row hBs (by omega)).cell]; rfl

/-! ### sorting -/
/-- a slice that reads as these waiters; its block is a later one -/
theorem WAt.wf {w : World} {p b room came : Nat} {es : List En} (h : WAt w p b room came es) : ∀ e ∈ es, wfW e.s.w := by
  obtain ⟨D, _, k⟩ := h.md
  exact k.wf
structure RdW (w : World) (base : Nat) (v : Value) (xs : List Wt) : Prop where
  reads : ReadsW w v xs
  late : ∀ g, v.ownBlock = some g → base ≤ g ∧ g < w.heap.size
theorem sortV {W : World} {p b room came n0 : Nat} {es : List En} {v : Value} {ws : List Wt} (h : WAt W p b room came es) (ho : OwnsWt W n0 v ws) (hp : p < n0) (hb : b < n0) (wf : ∀ x ∈ ws, wfW x) (hl : ws.length ≤ 1000) :
    Calls Tryz.prog 122 #[v, cmpV p] W fun e w' => e = .returned (.tuple #[]) ∧ ∃ ws', ws'.Perm ws ∧ ws'.Pairwise (fun x y => ¬ (turn es y < turn es x)) ∧ RdW w' n0 v ws' ∧ Only (fun k => v.ownBlock = some k) W w' := by
  have h0 := ho
  rcases ho.2 with ⟨hv, h2⟩ | ⟨g, cap, cur, hv, hg, hh, h3, h4, h5, h6⟩
  · have : ws = [] := List.eq_nil_of_length_eq_zero h2
    subst this
    subst hv
    refine (sort30_none none 0 (cmpV p) W).mono ?_
    rintro e w' ⟨rfl, rfl⟩
    exact ⟨rfl, [], List.Perm.refl _, List.Pairwise.nil, ⟨ReadsW.of_owns h0, fun g hg => by cases hg⟩, Only.refl _ _⟩
  · subst hv
    have gl := (Array.getElem?_eq_some_iff.1 hh).1
    obtain ⟨a, cp, e1, rd⟩ := ReadsW.of_owns h0
    have L : Less (fun z => (turn es z : Int)) W g p := fun w o x y wx wy => less31 w (h.keep o (by omega) (by omega)) x y wx wy
    have eg : a = some ⟨g, 0, none⟩ := by simpa using (Value.slice.inj e1).1.symm
    have get : ∀ i, i < ws.length → ws[i]? = some ws.toArray[i]! := fun i hi => by simp [hi]
    have S : Sq W W g ws.toArray := by
      refine ⟨fun i hi => ?_, fun k => by unfold World.frozen?; rw [hh]; simp, fun i hi => ?_, Only.refl _ _, gl⟩
      · have hi' : i < ws.length := by simpa using hi
        obtain ⟨g', o', e2, c1, c2⟩ := rd i _ (get i hi')
        rw [eg] at e2
        obtain ⟨rfl, rfl⟩ : g = g' ∧ 0 = o' := by simpa using e2
        rw [Nat.zero_add] at c1 c2
        exact ⟨c1, c2⟩
      · have hi' : i < ws.length := by simpa using hi
        exact wf _ (List.mem_of_getElem? (get i hi'))
    refine (sort30 (cap := cap) L hl ws.toArray W S (by simp)).mono ?_
    rintro e w' ⟨rfl, d', pm, so, s'⟩
    have sz : d'.size = ws.length := by rw [pm.1]; simp
    have pl : d'.toList.Perm ws := by
      have := pm.2.2
      simp only [Array.toList_extract, List.extract_eq_take_drop, Nat.sub_zero, List.drop_zero] at this
      rw [List.take_of_length_le (by simp [sz]), List.take_of_length_le (by simp)] at this
      exact this
    refine ⟨rfl, d'.toList, pl, ?_, ⟨⟨some ⟨g, 0, none⟩, cap, by simp [sz], fun i x hx => ⟨g, 0, rfl, ?_, ?_⟩⟩, fun g' hg' => ?_⟩, s'.only.more (fun i _ e => by subst e; rfl)⟩
    · rw [List.pairwise_iff_getElem]
      intro i j hi hj hij
      have h1 : i < d'.size := by simpa using hi
      have h2 : j < d'.size := by simpa using hj
      have := so i j (Nat.zero_le _) hij (by rw [← sz]; exact h2)
      unfold klt at this
      simp only [decide_eq_false_iff_not] at this
      rw [getElem!_pos d' i h1, getElem!_pos d' j h2] at this
      simp only [Array.getElem_toList]
      omega
    · have hi : i < d'.size := by have := (List.getElem?_eq_some_iff.1 hx).1; simpa using this
      have e3 : d'[i]! = x := by simp at hx; simp [hi]; have := Array.getElem?_eq_some_iff.1 hx; exact this.2
      rw [Nat.zero_add, (s'.cell i hi).1, e3]
    · have hi : i < d'.size := by have := (List.getElem?_eq_some_iff.1 hx).1; simpa using this
      have e3 : d'[i]! = x := by simp at hx; simp [hi]; have := Array.getElem?_eq_some_iff.1 hx; exact this.2
      rw [Nat.zero_add, (s'.cell i hi).2, e3]
    · obtain rfl : g = g' := by simpa [Value.ownBlock] using hg'
      exact ⟨hg, s'.lt⟩

theorem RdW.put {w : World} {base D : Nat} {v : Value} {xs : List Wt} {o : Obj} (o' : Obj) (h : RdW w base v xs) (hD : w.heap[D]? = some o) (hc : o.isCells = false) : RdW (w.putObj D o') base v xs := by
  obtain ⟨⟨a, cap, rfl, rd⟩, lt⟩ := h
  refine ⟨⟨a, cap, rfl, fun i x hx => ?_⟩, fun g hg => by have := lt g hg; simpa using this⟩
  obtain ⟨g, o1, e, c1, c2⟩ := rd i x hx
  exact ⟨g, o1, e, cell_kept c1 (grownBy_putObj' w D o') (fun r e => by cases e; exact ⟨o, hD, hc⟩), cell_kept c2 (grownBy_putObj' w D o') (fun r e => by cases e; exact ⟨o, hD, hc⟩)⟩

/-! ### who waits for a ticket -/
/-- the waiters of what has come -/
def ofs (es : List En) (t : Int) : List Wt := (ofE es t).map (fun e => e.s.w)
theorem ofs_yes {es : List En} {e : En} {t : Int} (h : e.s.t = t) : ofs (es ++ [e]) t = ofs es t ++ [e.s.w] := by unfold ofs ofE; simp [h]
theorem ofs_no {es : List En} {e : En} {t : Int} (h : e.s.t ≠ t) : ofs (es ++ [e]) t = ofs es t := by unfold ofs ofE; simp [h]
theorem ofs_le (es : List En) (t : Int) : (ofs es t).length ≤ es.length := by unfold ofs ofE; rw [List.length_map]; exact List.length_filter_le _ _
theorem ofs_seats (es : List En) (t : Int) : ofs es t = ofL (seats es) t := ofE_seats es t
/-- what stands in memory while they come -/
structure OfI (n0 Bt Bw : Nat) (w0 : World) (t : Int) (pre : List En) (W : World) : Prop where
  row : ∃ v, Boxed W Bw 59 v ∧ W.ownsRow n0 36 2 v (ofs pre t).length ((ofs pre t).flatMap Wt.cells) ∧ True
  box : Row W Bt 3 #[.int .i64 t]
  low : Below n0 w0 W
theorem ofI_own {n0 Bt Bw B : Nat} {w0 : World} {t : Int} (h : n0 ≤ w0.heap.size) (hB : n0 ≤ B) : OwnFrom B (fun pre W => OfI n0 Bt Bw w0 t pre W) := fun s W W' row hs hg hr =>
  ⟨(Own.from (holdsRow_own n0 Bw 59 36 2 (fun (pre : List En) => (ofs pre t).length) (fun (pre : List En) => (ofs pre t).flatMap Wt.cells) (fun _ _ => True)) B) s W W' row hs.row hg hr, row_kept hs.box hg (fun r e => (hr r e).2), (ownFrom_below (β := Unit) h hB) () W W' row hs.low hg hr⟩
/-- where a round's two boxes lie -/
def OfA (mk : En → Nat → Nat → Act) (x : En) (a : Act) (W : World) : Prop := ∃ g6 g7, a = mk x g6 g7 ∧ Row W g6 36 #[.int .i64 x.s.w.r, .int .i64 x.s.w.p] ∧ Row W g7 193 #[.int .i64 x.s.t, .int .i64 x.n]
theorem ofA_own (mk : En → Nat → Nat → Act) (B : Nat) (x : En) (a : Act) : OwnFrom B (fun (_ : Unit) W => OfA mk x a W) := fun _ W W' row ⟨g6, g7, e, h1, h2⟩ hg hr => ⟨g6, g7, e, row_kept h1 hg (fun r e => (hr r e).2), row_kept h2 hg (fun r e => (hr r e).2)⟩
theorem wt_news {W : World} {g : Nat} {a b : Value} (r : Row W g 36 #[a, b]) : ∀ j u, [a, b][j]? = some u → W.cell? ((⟨g, 0, none⟩ : Addr).add j) = some u := by
  intro j u hj
  obtain ⟨c0, c1⟩ := r.two
  match j, hj with
  | 0, hj => obtain rfl : a = u := by simpa using hj
             exact c0
  | 1, hj => obtain rfl : b = u := by simpa using hj
             exact c1
theorem nodup_le {α : Type} [DecidableEq α] : ∀ {l m : List α}, l.Nodup → (∀ y ∈ l, y ∈ m) → l.length ≤ m.length := by
  intro l
  induction l with
  | nil => intro m _ _; exact Nat.zero_le _
  | cons a l ih =>
    intro m h k
    obtain ⟨h1, h2⟩ := List.nodup_cons.1 h
    have ha : a ∈ m := k a (by simp)
    have := ih h2 (m := m.erase a) (fun y hy => (List.mem_erase_of_ne (fun e => h1 (by rw [← e]; exact hy))).2 (k y (by simp [hy])))
    rw [List.length_erase_of_mem ha] at this
    have : 0 < m.length := List.length_pos_of_mem ha
    simp only [List.length_cons]
    omega
/-- in the order in which they came -/
theorem of_sorted {came : Nat} {es xs : List En} {ws : List Wt} (t : Int) (o : OnceE es) (f : FineE came es) (n : ((seats es).map Sx.w).Nodup) (hp : xs.Perm es) (hw : ws.Perm (ofs xs t)) (hs : ws.Pairwise (fun x y => ¬ (turn es y < turn es x))) : ws = ofL (seats es) t := by
  have h1 : ws.Perm (ofs es t) := hw.trans ((hp.filter _).map _)
  rw [← ofs_seats]
  refine sorted_of o f (List.filter_sublist) ?_ (fun x => ?_) hs
  · rw [h1.nodup_iff, ofs_seats]
    exact ((List.filter_sublist (l := seats es)).map Sx.w).nodup n
  · rw [h1.mem_iff]
    unfold ofs
    rw [List.mem_map]

set_option maxRecDepth 100000 in
set_option maxHeartbeats 4000000 in
theorem of_in {p b room came : Nat} {es : List En} (t : Int) (w : World) (h : WAt w p b room came es) :
    CallsIn Fence.wide 5 Tryz.prog 74 #[.pointer (some ⟨p, 0, none⟩), .int .i64 t] w fun e w' => ∃ v', e = .returned v' ∧ RdW w' w.heap.size v' (ofL (seats es) t) ∧ Below w.heap.size w w' := by
  have FL := fun w1 => Lib.hid ((callsIn_wide (n := 4)).2 (all_any p w1))
  obtain ⟨i0, hi, hz0, hz1, hz2⟩ := info_parts info_wt
  refine callsIn_of_wp_marks Tryz.func74 rfl trivial ?_ rfl
  simp only [Tryz.ntmps74, List.size_toArray, List.length_cons, List.length_nil, Nat.reduceAdd, Nat.reduceSub, Array.replicate_succ, Array.replicate_zero, List.push_toArray, List.append_toArray, List.nil_append, List.cons_append]
  gi_wp2_with (refine ⟨trivial, ?_⟩; gi_at_call 117; refine ((FL _).out).mono ?_; rintro e w' ⟨rfl, rfl⟩)
  obtain ⟨W3, hW3⟩ : ∃ W3, W3 = ((w.alloc (.cells #[.int .i64 t] 3)).alloc (.cells #[.slice none 0 0] 59)).alloc (.cells #[.pointer (some ⟨p, 0, none⟩)] 93) := ⟨_, rfl⟩
  have z3 : W3.heap.size = w.heap.size + 3 := by rw [hW3]; simp
  have b3 : Below w.heap.size w W3 := by rw [hW3]; exact (((Below.refl _ w).alloc (Nat.le_refl _) _).alloc (by simp) _).alloc (by simp; omega) _
  have r0 : Row W3 w.heap.size 3 #[.int .i64 t] := by rw [hW3]; exact ((Row.fresh w 3 #[.int .i64 t]).alloc _).alloc _
  have r1 : Boxed W3 (w.heap.size + 1) 59 (.slice none 0 0) := by
    rw [hW3]
    have := (Boxed.new (w.alloc (.cells #[.int .i64 t] 3)) 59 (.slice none 0 0)).alloc (.cells #[.pointer (some ⟨p, 0, none⟩)] 93)
    rwa [World.size_alloc] at this
  have r2 : Row W3 (w.heap.size + 1 + 1) 93 #[.pointer (some ⟨p, 0, none⟩)] := by
    rw [hW3]
    have := Row.fresh ((w.alloc (.cells #[.int .i64 t] 3)).alloc (.cells #[.slice none 0 0] 59)) 93 #[.pointer (some ⟨p, 0, none⟩)]
    rwa [World.size_alloc, World.size_alloc] at this
  have h3 : WAt W3 p b room came es := h.keep (Only.of_below b3) (Nat.not_le.2 h.row.lt) (Nat.not_le.2 h.md.lt)
  have pl := h.row.lt
  have bl := h.md.lt
  have le64 := h.len
  rw [← hW3]
  clear hW3
  refine wpIn_each rfl (by decide) (gf := 149) (lb := #[.pointer (some ⟨w.heap.size + 1 + 1, 0, none⟩)]) rfl trivial (enters_of Tryz.func149 (by kernel_rfl) rfl)
    (hand14 4 (by decide) h3 r2) (Below.refl _ _) (fun _ => rfl)
    (fun x A B l o o' _ ho hc hw k => takes_from (walks_put o' ho hw) k) (fun x A B l o o' _ ho hc hw k => takes_to k (walks_put o' ho hw))
    (fun pre W => OfI w.heap.size w.heap.size (w.heap.size + 1) w t pre W) (ofI_own (Nat.le_refl _) (by omega))
    ⟨⟨_, r1, World.ownsRow_nil _ _ _ _, trivial⟩, r0, b3⟩
    (OfA (fun (x : En) (g6 g7 : Nat) => ({ tmps := #[.pointer (some ⟨p, 0, none⟩), .int .i64 t, undef, .pointer (some ⟨w.heap.size, 0, none⟩), .slice none 0 0, .pointer (some ⟨w.heap.size + 1, 0, none⟩), .pointer (some ⟨g6, 0, none⟩), .pointer (some ⟨g7, 0, none⟩), .pointer (some ⟨p, 0, none⟩), (.func (.func 149) #[] #[.pointer (some ⟨w.heap.size + 1 + 1, 0, none⟩)]), .agg #[.int .i64 x.s.w.r, .int .i64 x.s.w.p], .agg #[.int .i64 x.s.t, .int .i64 x.n], undef, undef, undef, undef, undef, undef, undef, undef, undef, undef, undef, undef, undef], defers := [] } : Act))) (fun x a' => ofA_own _ _ x a') ?assign ?body ?done
  case assign =>
    intro l pre x W K hI hok hK
    simp only [encE]
    gi_wp2
    have k6 := Row.fresh W 36 #[.int .i64 x.s.w.r, .int .i64 x.s.w.p]
    have k7 := Row.fresh (W.alloc (.cells #[.int .i64 x.s.w.r, .int .i64 x.s.w.p] 36)) 193 #[.int .i64 x.s.t, .int .i64 x.n]
    rw [World.size_alloc] at k7
    have ko : KeepsOthers W ((W.alloc (.cells #[.int .i64 x.s.w.r, .int .i64 x.s.w.p] 36)).alloc (.cells #[.int .i64 x.s.t, .int .i64 x.n] 193)) := (KeepsOthers.alloc W _).trans (KeepsOthers.alloc _ _)
    refine hK _ _ (ko.from _) (fun B k => takes_from (walks_others ko) k) ?_ ⟨_, _, rfl, k6.alloc _, k7⟩
    exact (ofI_own (B := 0 + w.heap.size) (Nat.le_refl _) (by omega)) pre _ _ none ((ofI_own (B := 0 + w.heap.size) (Nat.le_refl _) (by omega)) pre _ _ none hI (World.grownBy_alloc W _ none) (fun r e => by cases e)) (World.grownBy_alloc _ _ none) (fun r e => by cases e)
  case body =>
    rintro l pre x a' W ⟨⟨v, hv, hrow, _⟩, hb, hB⟩ hok ⟨g6, g7, rfl, r6, r7⟩
    obtain ⟨c60, c61⟩ := r6.two
    obtain ⟨c70, c71⟩ := r7.two
    have hc := hv.cell
    have cb : W.cell? ⟨w.heap.size, 0, none⟩ = some (.int .i64 t) := by rw [hb.cell]; rfl
    by_cases e : x.s.t = t
    · have tt : (x.s.t == t) = true := by simp [e]
      have ln : (ofs pre t).length + 1 ≤ 65 := by
        have h1 := ofs_le pre t
        have h2 : (pre ++ [x]).length ≤ es.length := nodup_le hok.1 hok.2
        rw [List.length_append] at h2
        simp at h2
        omega
      have hm1 : (ofs pre t).length + 1 ≤ maxLen := by unfold maxLen; omega
      have hm2 : ((ofs pre t).length + 1) * 16 ≤ 140737488355328 := by omega
      have hbb : Boxed W w.heap.size 3 (.int .i64 t) := hb
      have hb0 : w.heap.size ≤ W.heap.size := hB.size
      clear ln h h3 b3 r0 r1 r2
      gi_wp2_with (gi_at_builtin; refine wpListIn_append_own _ rfl _ _ 59 rfl w.heap.size 36 i0 (.agg #[.int .i64 0, .int .i64 0]) 2 16 Tryz.underlying59 hi hz0 hz1 hz2 rfl (by decide) _ _ _ rfl (hrow.alloc _) ⟨W.heap.size, 0, none⟩ 1 1 [.int .i64 x.s.w.r, .int .i64 x.s.w.p] rfl rfl (wt_news (Row.fresh _ _ _)) (by simp [Value.oneCell']) hm1 hm2 (by simp; omega) ?_; intro v' w1 hown' hgrow _; obtain ⟨g', cap', rfl⟩ := ownsRow_succ hown'; obtain ⟨hv1, hv2, hr2, hk2, hb2⟩ := hv.appended (by decide) hrow hb0 (Nat.le_succ _) hown' hgrow; have hc1 := hv1.cell; have hf1 := hv1.frozen)
      refine ⟨hk2.from _, takes_walks (walks_others hk2), ⟨_, hv2, by rw [ofs_yes e, List.length_append, List.flatMap_append]; simpa [Wt.cells] using hr2, trivial⟩, ?_, hB.trans hb2⟩
      exact Row.far (show Row w1 w.heap.size 3 #[.int .i64 t] from (hbb.alloc _).kept hgrow (hbb.not_row (by decide) hrow)) (by simp) _
    · have tt : (x.s.t == t) = false := by simp [e]
      gi_wp2
      exact ⟨KeepsFrom.refl _ _, takes_walks (walks_others (KeepsOthers.refl _)), ⟨v, hv, by rw [ofs_no e]; exact hrow, trivial⟩, hb, hB⟩
  case done =>
    rintro D xs W hD hS ⟨⟨v, hv, hrow, _⟩, hb, hB⟩ hK
    have hc := hv.cell
    have hW := h.keep (Only.of_below hB) (Nat.not_le.2 pl) (Nat.not_le.2 bl)
    have wf := h.wf
    have own : OwnsWt W w.heap.size v (ofs xs t) := hrow
    have SO := Lib.hid ((callsIn_wide (n := 4)).2 (sortV hW own pl bl (fun x hx => by
      obtain ⟨e, he, rfl⟩ := List.mem_map.1 hx
      exact wf e (hS.subset (List.mem_filter.1 he).1)) (by have := ofs_le xs t; have := hS.length_eq; omega)))
    have nb := hv.not_row (by decide) hrow
    have nd : v.ownBlock ≠ some D := fun e => by
      rcases hrow.2 with ⟨hv', _⟩ | ⟨g, cap, cur, hv', _, hh, _⟩
      · rw [hv'] at e; cases e
      · rw [hv'] at e
        obtain rfl : g = D := by simpa [Value.ownBlock] using e
        rw [hh] at hK; cases hK
    have BX := Lib.hid hv
    have OV := Lib.hid own
    have KD := Lib.hid hK
    have LB := Lib.hid hB
    have SX := Lib.hid hS
    obtain ⟨a9, n9, k9, rfl⟩ := own_form14 own
    unfold cmpV at SO
    clear hv hrow hb hB hK hW own wf h3 b3 r0 r1 r2 hi hz0 hz1 hz2
    gi_wp2_with (refine ⟨trivial, ?_⟩; gi_at_call 122; refine (SO.out).mono ?_; rintro e w' ⟨rfl, ws', pm, pw, rd, oo⟩; have hc2 := oo.cell hc (fun s => nb s.symm))
    have lD := (Array.getElem?_eq_some_iff.1 KD.out).1
    have wD : w'.heap[D]? = some (.deferred (some [])) := (oo.block D lD nd).trans KD.out
    refine ⟨by simp, .inl ⟨_, _, rfl, run_takeDeferred wD, ?_⟩⟩
    refine ⟨_, results_tmp rfl _ _ _, _, rfl, ?_, ?_⟩
    · rw [← of_sorted t h.once h.fine h.good.once SX.out pm pw]
      exact rd.put _ wD rfl
    · refine (LB.out.trans (oo.below LB.out.size (fun i hi s => ?_))).trans (belowK_b (w := w) (Nat.le_refl _) w' D _ _ (by omega) wD rfl rfl)
      have := (OV.out.base_le s).1
      omega
theorem of21 {p b room came : Nat} {es : List En} (t : Int) (w : World) (h : WAt w p b room came es) :
    Calls Tryz.prog 74 #[.pointer (some ⟨p, 0, none⟩), .int .i64 t] w fun e w' => ∃ v', e = .returned v' ∧ RdW w' w.heap.size v' (ofL (seats es) t) ∧ Only none_ w w' := by
  refine ((callsIn_wide (n := 5)).1 (of_in t w h)).mono ?_
  rintro e w' ⟨v', rfl, h1, h2⟩
  exact ⟨v', rfl, h1, (Only.of_below h2).more (fun i hi k => absurd hi (by omega))⟩
end Go.Proofs.YtfbpjobobdidiaaGreatDoor


/- Who waits for a ticket is taken: the code's own register. -/
namespace Go.Proofs.YtfbpjobobdidiaaGreatDoor
open Go.RowKit Go.Maps
set_option linter.unusedVariables false
set_option maxRecDepth 100000

/-- those who do not wait any more are gone -/
def goneE (es : List En) (ws : List Wt) : List En := es.filter (fun e => decide (e.s.w ∉ ws))
theorem gone_nil (es : List En) : goneE es [] = es := by unfold goneE; simp
theorem gone_more (es : List En) (ws : List Wt) (x : Wt) : goneE es (ws ++ [x]) = outE (goneE es ws) x := by
  unfold goneE outE
  rw [List.filter_filter]
  congr 1
  funext e
  simp [Bool.and_comm]
theorem gone_of {es : List En} (o : OnceE es) (t : Int) : seats (goneE es (ofL (seats es) t)) = leftT (seats es) t := by
  unfold leftT
  rw [← seats_filter es (fun s => decide (s.t ≠ t))]
  unfold goneE
  congr 1
  apply List.filter_congr
  intro e he
  rw [← ofE_seats]
  have : e.s.w ∈ (ofE es t).map (fun e => e.s.w) ↔ e.s.t = t := by
    constructor
    · intro k
      obtain ⟨f, hf, k2⟩ := List.mem_map.1 k
      obtain ⟨f1, f2⟩ := List.mem_filter.1 hf
      have := o.inj f1 he k2
      subst this
      simpa using f2
    · intro k
      exact List.mem_map.2 ⟨e, List.mem_filter.2 ⟨he, by simpa using k⟩, rfl⟩
  simp [this]
theorem gone_good {room came : Nat} {es : List En} (g : GoodR room (seats es)) (f : FineE came es) (ws : List Wt) : GoodR room (seats (goneE es ws)) ∧ FineE came (goneE es ws) := by
  have s : (seats (goneE es ws)).Sublist (seats es) := (List.filter_sublist).map _
  refine ⟨⟨g.low, g.high, Nat.le_trans s.length_le g.len, (s.map _).nodup g.once, fun x hx => g.may x (s.subset hx)⟩, f.sub List.filter_sublist⟩

set_option maxHeartbeats 2000000 in
theorem take14 {p b room came : Nat} {es : List En} (t : Int) (w : World) (h : WAt w p b room came es) :
    Calls Tryz.prog 61 #[.pointer (some ⟨p, 0, none⟩), .int .i64 t] w fun e w' => ∃ v', e = .returned v' ∧ RdW w' w.heap.size v' (ofL (seats es) t) ∧ (∃ es', WAt w' p b room came es' ∧ seats es' = leftT (seats es) t) ∧ Only (two14 p b) w w' := by
  have OF := Lib.hid (of21 t w h)
  have H := Lib.hid h
  go_enter Tryz.func61, Tryz.ntmps61
  go_wp2_with fail
  (with_reducible refine OF.out.mono ?_)
  rintro e w1 ⟨v, rfl, hv, o⟩
  have O1 := Lib.hid o
  have RV := Lib.hid hv
  obtain ⟨⟨a, cap, rfl, rd⟩, _⟩ := hv
  clear OF
  have W0 := Lib.hid (h.wf)
  obtain ⟨ws, hws⟩ : ∃ ws, ofL (seats es) t = ws := ⟨_, rfl⟩
  have WS := Lib.hid hws
  have WF := Lib.hid (show ∀ x ∈ ws, wfW x from fun x hx => by
    rw [← hws, ← ofs_seats] at hx
    obtain ⟨e, he, rfl⟩ := List.mem_map.1 hx
    exact W0.out e (List.mem_filter.1 he).1)
  rw [hws] at RV rd ⊢
  have lw : ws.length ≤ 64 := by
    have h1 := of_le (seats es) t
    have h2 := H.out.len
    rw [seats_len] at h1
    rw [← hws]
    omega
  have H1 := Lib.hid (h.still o)
  have BG := Lib.hid (show ∀ g o', a = some ⟨g, o', none⟩ → g ≠ b ∧ g ≠ p from fun g o' e => by
    have := (RV.out.late g (by rw [e]; rfl)).1
    have := H.out.row.lt
    have := H.out.md.lt
    omega)
  have RD := Lib.hid rd
  clear hws h o rd
  go_wp2_with fail
  go_loopw [13] (fun i wr => ∃ (k : Nat), k ≤ ws.length ∧ i = .int .i64 k ∧ Md14 wr b (goneE es (ws.take k)) ∧ Only (fun j => j = b) w1 wr) (fun i _ => ws.length - (intOf i).toNat)
  case atStart => exact ⟨0, Nat.zero_le _, rfl, by rw [List.take_zero, gone_nil]; exact H1.out.md, Only.refl _ _⟩
  case round =>
    obtain ⟨k, hk, rfl, hm, ho⟩ := hrel
    have MD := Lib.hid hm
    have OB := Lib.hid ho
    clear hm ho
    by_cases hlt : k < ws.length
    · obtain ⟨x, hx⟩ : ∃ x, ws[k]? = some x := ⟨_, List.getElem?_eq_getElem hlt⟩
      obtain ⟨g, o1, rfl, cy0, cy1⟩ := RD.out k x hx
      have gb := BG.out g o1 rfl
      have c0 : wr.cell? ⟨g, o1 + k * 2, none⟩ = some (.int .i64 x.r) := OB.out.cell cy0 gb.1
      have c1 : wr.cell? ⟨g, o1 + k * 2 + 1, none⟩ = some (.int .i64 x.p) := OB.out.cell cy1 gb.1
      have TM := Lib.hid (sxtake hx)
      have wx := WF.out x (List.mem_of_getElem? hx)
      have o2 := ((Only.refl none_ wr).alloc (.cells #[.int .i64 x.r, .int .i64 x.p] 36)).drew
      have R5 := o2.row (OB.out.row H1.out.row H.out.ne) (fun s => s)
      have d1 : ((wr.alloc (.cells #[.int .i64 x.r, .int .i64 x.p] 36)).drew).cell? ⟨p, 1, none⟩ = some (.map (some b)) := by rw [R5.cell]; rfl
      have XR : Row ((wr.alloc (.cells #[.int .i64 x.r, .int .i64 x.p] 36)).drew) wr.heap.size 36 #[.int .i64 x.r, .int .i64 x.p] := Row.fresh wr _ _
      obtain ⟨x0, x1⟩ := XR.two
      obtain ⟨w6, run6, m6, o6, _⟩ := (MD.out.still o2).drop (H.out.once.sub List.filter_sublist) x wx 0
      have M6 := Lib.hid (show Md14 w6 b (goneE es (ws.take (k + 1))) from by rw [TM.out, gone_more]; exact m6)
      have O6 := Lib.hid (OB.out.same (o2.then_ o6))
      clear hx cy0 cy1 gb wx o2 R5 XR m6 o6
      go_wp2_with fail
      go_region
      all_goals
        go_wp2_with fail
        go_roundw
        case rel => exact ⟨k + 1, by omega, by go_num, M6.out, O6.out⟩
        case measure => simp [intOf]; omega
    · have hge : ws.length ≤ k := by omega
      have TK := Lib.hid (List.take_of_length_le hge)
      rw [TK.out] at MD
      clear hge
      go_wp2_with fail
      go_ret
      have gg := gone_good H.out.good H.out.fine ws
      refine ⟨.slice a ws.length cap, rfl, ⟨⟨a, cap, by rw [WS.out], fun i x hx => ?_⟩, fun g hg => ?_⟩, ⟨goneE es ws, ⟨OB.out.row H1.out.row H.out.ne, MD.out, gg.2, gg.1⟩, by rw [← WS.out]; exact gone_of H.out.once t⟩, O1.out.then_ (OB.out.more (fun i _ e => .inr e))⟩
      · rw [WS.out] at hx
        obtain ⟨g, o', e, c0, c1⟩ := RD.out i x hx
        have gb := BG.out g o' e
        exact ⟨g, o', e, OB.out.cell c0 gb.1, OB.out.cell c1 gb.1⟩
      · have := RV.out.late g hg
        exact ⟨this.1, Nat.lt_of_lt_of_le this.2 OB.out.size⟩
end Go.Proofs.YtfbpjobobdidiaaGreatDoor


/- Plain facts: tickets, sorted and with no neighbours alike: are those that quit tells. -/
namespace Go.Proofs.YtfbpjobobdidiaaGreatDoor
open Go.Lib
set_option linter.unusedVariables false
set_option maxRecDepth 100000

/-- the tickets that a request's waiters wait for -/
def tkL (ss : List Sx) (r : Int) : List Int := (ss.filter (fun s => decide (s.w.r = r))).map Sx.t
theorem rise_uni : ∀ {l l' : List Int}, l.Pairwise (· < ·) → l'.Pairwise (· < ·) → (∀ x, x ∈ l ↔ x ∈ l') → l = l' := by
  intro l
  induction l with
  | nil =>
    intro l' _ _ h
    cases l' with
    | nil => rfl
    | cons b r' => have := (h b).2 (by simp); cases this
  | cons a r ih =>
    intro l' hl hl' h
    cases l' with
    | nil => have := (h a).1 (by simp); cases this
    | cons b r' =>
      obtain ⟨h1, h2⟩ := List.pairwise_cons.1 hl
      obtain ⟨h3, h4⟩ := List.pairwise_cons.1 hl'
      have e : a = b := by
        rcases List.mem_cons.1 ((h a).1 (by simp)) with q | q
        · exact q
        · rcases List.mem_cons.1 ((h b).2 (by simp)) with k | k
          · exact k.symm
          · have := h3 a q
            have := h1 b k
            omega
      subst e
      congr 1
      refine ih h2 h4 (fun x => ⟨fun hx => ?_, fun hx => ?_⟩)
      · rcases List.mem_cons.1 ((h x).1 (by simp [hx])) with q | q
        · have := h1 x hx; rw [q] at this; omega
        · exact q
      · rcases List.mem_cons.1 ((h x).2 (by simp [hx])) with q | q
        · have := h3 x hx; rw [q] at this; omega
        · exact q
theorem mem_putI (l : List Int) (n x : Int) : x ∈ putI l n ↔ x = n ∨ x ∈ l := by
  induction l with
  | nil => simp [putI]
  | cons a l ih =>
    unfold putI
    split
    · rw [List.mem_cons, ih, List.mem_cons]
      constructor
      · rintro (h | h | h)
        · exact .inr (.inl h)
        · exact .inl h
        · exact .inr (.inr h)
      · rintro (h | h | h)
        · exact .inr (.inl h)
        · exact .inl h
        · exact .inr (.inr h)
    · split
      · rename_i h; subst h; simp
      · simp
theorem rise_put {l : List Int} (h : l.Pairwise (· < ·)) (n : Int) : (putI l n).Pairwise (· < ·) := by
  induction l with
  | nil => simp [putI]
  | cons a l ih =>
    obtain ⟨h1, h2⟩ := List.pairwise_cons.1 h
    unfold putI
    split
    · rename_i k
      refine List.pairwise_cons.2 ⟨fun x hx => ?_, ih h2⟩
      rcases (mem_putI l n x).1 hx with rfl | q
      · exact k
      · exact h1 x q
    · split
      · exact h
      · rename_i k1 k2
        refine List.pairwise_cons.2 ⟨fun x hx => ?_, h⟩
        rcases List.mem_cons.1 hx with rfl | q
        · omega
        · have := h1 x q; omega
theorem rise_quit (ss : List Sx) (r : Int) : (quitI ss r).Pairwise (· < ·) := by
  unfold quitI
  have : ∀ (l : List Sx) (m : List Int), m.Pairwise (· < ·) → (l.foldl (fun l s => putI l s.t) m).Pairwise (· < ·) := by
    intro l
    induction l with
    | nil => intro m h; exact h
    | cons s l ih => intro m h; exact ih _ (rise_put h _)
  exact this _ _ List.Pairwise.nil
theorem compact_up {d : Array Int} (hs : ∀ i j, i < j → j < d.size → d[i]! ≤ d[j]!) : ∀ m, m ≤ d.size → (compactUpTo d m).Pairwise (· < ·) ∧ ∀ x, x ∈ compactUpTo d m ↔ ∃ j, j < m ∧ d[j]! = x := by
  intro m
  induction m with
  | zero => intro _; exact ⟨by simp [compactUpTo], fun x => by simp [compactUpTo]⟩
  | succ m ih =>
    intro hm
    obtain ⟨h1, h2⟩ := ih (by omega)
    rw [compactUpTo_succ]
    by_cases k : keeps d m = true
    · rw [if_pos k]
      refine ⟨?_, fun x => ?_⟩
      · rw [List.pairwise_append]
        refine ⟨h1, List.pairwise_singleton _ _, fun a ha b hb => ?_⟩
        rw [List.mem_singleton.1 hb]
        obtain ⟨j, hj, rfl⟩ := (h2 a).1 ha
        have q1 := hs j m hj (by omega)
        unfold keeps at k
        simp only [decide_eq_true_eq] at k
        rcases k with k | k
        · omega
        · have q2 : d[j]! ≤ d[m - 1]! := by
            rcases Nat.lt_or_ge j (m - 1) with q | q
            · exact hs j (m - 1) q (by omega)
            · rw [show j = m - 1 from by omega]; exact Int.le_refl _
          have q3 := hs (m - 1) m (by omega) (by omega)
          omega
      · rw [List.mem_append, h2 x, List.mem_singleton]
        constructor
        · rintro (⟨j, hj, e⟩ | e)
          · exact ⟨j, by omega, e⟩
          · exact ⟨m, Nat.lt_succ_self _, e.symm⟩
        · rintro ⟨j, hj, e⟩
          rcases Nat.lt_or_ge j m with q | q
          · exact .inl ⟨j, q, e⟩
          · rw [show j = m from by omega] at e; exact .inr e.symm
    · rw [if_neg k, List.append_nil]
      refine ⟨h1, fun x => ?_⟩
      rw [h2 x]
      have k2 : ¬ (m = 0 ∨ d[m]! ≠ d[m - 1]!) := fun q => k (by unfold keeps; exact decide_eq_true q)
      have k3 : 0 < m ∧ d[m]! = d[m - 1]! := ⟨by omega, by
        by_cases q : d[m]! = d[m - 1]!
        · exact q
        · exact absurd (.inr q) k2⟩
      constructor
      · rintro ⟨j, hj, e⟩; exact ⟨j, by omega, e⟩
      · rintro ⟨j, hj, e⟩
        rcases Nat.lt_or_ge j m with q | q
        · exact ⟨j, q, e⟩
        · rw [show j = m from by omega, k3.2] at e
          exact ⟨m - 1, by omega, e⟩
theorem compact_quit {ss : List Sx} {r : Int} {zs : List Int} (h : zs.Perm (tkL ss r)) : compact (zs.mergeSort fun x y => decide (x ≤ y)) = quitI ss r := by
  obtain ⟨ys, hys⟩ : ∃ ys, zs.mergeSort (fun x y => decide (x ≤ y)) = ys := ⟨_, rfl⟩
  have p : ys.Perm zs := by rw [← hys]; exact List.mergeSort_perm _ _
  have s : ys.Pairwise (fun x y => x ≤ y) := by
    rw [← hys]
    refine (List.pairwise_mergeSort (le := fun x y : Int => decide (x ≤ y)) (fun a b c h1 h2 => by simp at *; omega) (fun a b => by simp; omega) zs).imp ?_
    intro a b k
    simpa using k
  rw [hys]
  obtain ⟨c1, c2⟩ := compact_up (d := ys.toArray) (fun i j hij hj => by
    have hj' : j < ys.length := by simpa using hj
    have := (List.pairwise_iff_getElem.1 s) i j (by omega) hj' hij
    rw [getElem!_pos ys.toArray i (by simpa using by omega), getElem!_pos ys.toArray j hj]
    simpa using this) ys.length (by simp)
  refine rise_uni c1 (rise_quit ss r) (fun x => ?_)
  show x ∈ compactUpTo ys.toArray ys.length ↔ _
  rw [c2, mem_quit]
  have : (∃ j, j < ys.length ∧ ys.toArray[j]! = x) ↔ x ∈ ys := by
    constructor
    · rintro ⟨j, hj, e⟩
      rw [getElem!_pos ys.toArray j (by simpa using hj)] at e
      rw [← e]
      simp
    · intro hx
      obtain ⟨j, hj, e⟩ := List.getElem_of_mem hx
      exact ⟨j, hj, by rw [getElem!_pos ys.toArray j (by simpa using hj)]; simpa using e⟩
  rw [this, p.mem_iff, h.mem_iff]
  unfold tkL
  rw [List.mem_map]
  constructor
  · rintro ⟨s, hs, e⟩
    obtain ⟨h1, h2⟩ := List.mem_filter.1 hs
    exact ⟨s, h1, by simpa using h2, e⟩
  · rintro ⟨s, h1, h2, e⟩
    exact ⟨s, List.mem_filter.2 ⟨h1, by simpa using h2⟩, e⟩
end Go.Proofs.YtfbpjobobdidiaaGreatDoor


/- A slice of integers of the call's own: sorted, cut of neighbours alike. -/
namespace Go.Proofs.YtfbpjobobdidiaaGreatDoor
open Go.RowKit Go.Sort
set_option linter.unusedVariables false
set_option maxRecDepth 100000

theorem sort_own14 (w : World) (base g cap : Nat) (xs : List Int) (h : OwnsInts w base (.slice (some ⟨g, 0, none⟩) xs.length cap) xs) (hs : xs.length < 4611686018427387904) :
    Calls Tryz.prog 118 #[.slice (some ⟨g, 0, none⟩) xs.length cap] w fun e w' => e = .returned (.tuple #[]) ∧ OwnsInts w' base (.slice (some ⟨g, 0, none⟩) xs.length cap) (xs.mergeSort fun x y => decide (x ≤ y)) ∧ Only (fun k => k = g) w w' := by
  rcases h.2 with ⟨h0, _⟩ | ⟨g', cap', cur, hv, hg, hh, h3, h4, h5, h6⟩
  · cases h0
  cases hv
  rw [one_map, Nat.mul_one] at h6
  have lt : g < w.heap.size := (Array.getElem?_eq_some_iff.1 hh).1
  refine (Tryz.slices_Sort_int g 0 cap xs w (holds_of_blockI hh h6) lt hs).mono ?_
  rintro e w' ⟨rfl, n, os, rfl⟩
  have gb := grownBy_sortedI (w := w) (g := g) (n := n) (os := os) (xs.mergeSort fun x y => decide (x ≤ y)).toArray
  refine ⟨rfl, ?_, (Only.of_grown gb).more (fun j _ q => by injection q)⟩
  have hl : (xs.mergeSort fun x y => decide (x ≤ y)).length = xs.length := List.length_mergeSort _
  have := ownsRow_sortedI (n := n) (os := os) hl hg hh h3 h4 h5
  show World.ownsRow _ _ _ _ _ (List.length _) _
  rw [one_map, hl]
  exact this
theorem compact_own14 (w : World) (base g cap : Nat) (xs : List Int) (h : OwnsInts w base (.slice (some ⟨g, 0, none⟩) xs.length cap) xs) (hs : xs.length ≤ 1000) :
    Calls Tryz.prog 119 #[.slice (some ⟨g, 0, none⟩) xs.length cap] w fun e w' => e = .returned (.slice (some ⟨g, 0, none⟩) (Lib.compact xs).length cap) ∧ OwnsInts w' base (.slice (some ⟨g, 0, none⟩) (Lib.compact xs).length cap) (Lib.compact xs) ∧ Only (fun k => k = g) w w' := by
  rcases h.2 with ⟨h0, _⟩ | ⟨g', cap', cur, hv, hg, hh, h3, h4, h5, h6⟩
  · cases h0
  cases hv
  rw [one_map, Nat.mul_one] at h6
  have cl := Lib.compact_length_le xs
  refine (Tryz.slices_Compact_int g 0 cap xs w (holds_of_blockI hh h6) (by omega) h3).mono ?_
  rintro e w' ⟨rfl, q, hw⟩
  have e0 : w' = grow (putRow (Value.int .i64) (Sort.ahead w q) g 0 (Lib.compact xs ++ List.replicate (xs.length - (Lib.compact xs).length) 0).toArray) #[] := by rw [hw]; simp [grow]; rfl
  rw [e0]
  have gb := grownBy_sortedI (w := w) (g := g) (n := q) (os := #[]) (Lib.compact xs ++ List.replicate (xs.length - (Lib.compact xs).length) 0).toArray
  refine ⟨rfl, ?_, (Only.of_grown gb).more (fun j _ q => by injection q)⟩
  refine ⟨by simp [one_map], .inr ⟨g, cap, _, rfl, hg, heap_sortedI _ hh, Nat.le_trans cl h3, h4, by simp [putCells, h5], ?_⟩⟩
  rw [Nat.mul_one, one_map]
  have hl : (Lib.compact xs ++ List.replicate (xs.length - (Lib.compact xs).length) 0).length = xs.length := by simp; omega
  have tk := take_putCellsI cur (Lib.compact xs ++ List.replicate (xs.length - (Lib.compact xs).length) 0) (by rw [hl]; omega)
  have := congrArg (List.take (Lib.compact xs).length) tk
  rw [List.take_take, hl, Nat.min_eq_left cl, List.map_append, List.take_append_of_le_length (by simp), List.take_of_length_le (l := (Lib.compact xs).map (Value.int .i64)) (by simp)] at this
  exact this
theorem insI_none (p : Option Addr) (cap : Nat) (w : World) :
    Calls Tryz.prog 161 #[.slice p 0 cap, .int .i64 0, .int .i64 0] w fun e w' => e = .returned (.tuple #[]) ∧ w' = w := by
  go_enter Tryz.func161, Tryz.ntmps161
  go_wp2_with fail
  go_loopw [6] (fun x wr => x = .int .i64 1 ∧ wr = w) (fun _ _ => 0)
  case atStart => exact ⟨rfl, rfl⟩
  case round =>
    obtain ⟨rfl, rfl⟩ := hrel
    go_wp2_with fail
    go_end0
    exact ⟨rfl, rfl⟩
theorem pdqI_none (p : Option Addr) (cap : Nat) (lim : Int) (w : World) :
    Calls Tryz.prog 150 #[.slice p 0 cap, .int .i64 0, .int .i64 0, .int .i64 lim] w fun e w' => e = .returned (.tuple #[]) ∧ w' = w := by
  have C := Lib.hid (fun W => insI_none p cap W)
  go_enter Tryz.func150, Tryz.ntmps150
  go_wp2_with fail
  go_loopw [1, 2] (fun x y wr => x = .int .i64 0 ∧ y = .int .i64 0 ∧ wr = w) (fun _ _ _ => 0)
  case atStart => exact ⟨rfl, rfl, rfl⟩
  case round =>
    obtain ⟨rfl, rfl, rfl⟩ := hrel
    go_wp2_with fail
    (with_reducible refine (C.out _).mono ?_)
    rintro e W1 ⟨rfl, rfl⟩
    go_wp2_with fail
    refine bodyPost_ret (results_none rfl _ _ _) rfl ?_
    exact ⟨rfl, rfl⟩
theorem sort_none14 (p : Option Addr) (cap : Nat) (w : World) :
    Calls Tryz.prog 118 #[.slice p 0 cap] w fun e w' => e = .returned (.tuple #[]) ∧ w' = w := by
  have BL := Lib.hid (fun W => Tryz.bits_Len 0 W (by omega) (by omega))
  have C := Lib.hid (fun W => pdqI_none p cap 0 W)
  have z : Lib.bitLen (Int.toNat 0) = 0 := by decide
  rw [z] at BL
  clear z
  go_enter Tryz.func118, Tryz.ntmps118
  go_wp2_with fail
  (with_reducible refine (BL.out _).mono ?_)
  rintro e w' ⟨rfl, rfl⟩
  go_wp2_with fail
  (with_reducible refine (C.out _).mono ?_)
  rintro e w' ⟨rfl, rfl⟩
  go_wp2_with fail
  go_end0
  exact ⟨rfl, rfl⟩
/-- a slice of the call's own, nil too -/
theorem sortI14 (w : World) (base : Nat) (v : Value) (xs : List Int) (h : OwnsInts w base v xs) (hs : xs.length ≤ 1000) :
    Calls Tryz.prog 118 #[v] w fun e w' => e = .returned (.tuple #[]) ∧ OwnsInts w' base v (xs.mergeSort fun x y => decide (x ≤ y)) ∧ Only (fun k => v.ownBlock = some k) w w' := by
  have h0 := h
  rcases h.2 with ⟨hv, h2⟩ | ⟨g, cap, cur, hv, _⟩
  · have : xs = [] := List.eq_nil_of_length_eq_zero h2
    subst this
    subst hv
    refine (sort_none14 none 0 w).mono ?_
    rintro e w' ⟨rfl, rfl⟩
    exact ⟨rfl, by rw [List.mergeSort_nil]; exact h0, Only.refl _ _⟩
  · subst hv
    refine (sort_own14 w base g cap xs h0 (by omega)).mono ?_
    rintro e w' ⟨rfl, h1, h2⟩
    exact ⟨rfl, h1, h2.more (fun i _ e => by subst e; rfl)⟩
theorem compactI14 (w : World) (base : Nat) (v : Value) (xs : List Int) (h : OwnsInts w base v xs) (hs : xs.length ≤ 1000) :
    Calls Tryz.prog 119 #[v] w fun e w' => ∃ a n cap, e = .returned (.slice a n cap) ∧ OwnsInts w' base (.slice a n cap) (Lib.compact xs) ∧ Only (fun k => v.ownBlock = some k) w w' := by
  have h0 := h
  rcases h.2 with ⟨hv, h2⟩ | ⟨g, cap, cur, hv, _⟩
  · have : xs = [] := List.eq_nil_of_length_eq_zero h2
    subst this
    subst hv
    refine (Tryz.slices_Compact_int_empty none 0 w).mono ?_
    rintro e w' ⟨rfl, rfl⟩
    exact ⟨none, 0, 0, rfl, h0, Only.refl _ _⟩
  · subst hv
    refine (compact_own14 w base g cap xs h0 hs).mono ?_
    rintro e w' ⟨rfl, h1, h2⟩
    exact ⟨_, _, _, rfl, h1, h2.more (fun i _ e => by subst e; rfl)⟩
end Go.Proofs.YtfbpjobobdidiaaGreatDoor


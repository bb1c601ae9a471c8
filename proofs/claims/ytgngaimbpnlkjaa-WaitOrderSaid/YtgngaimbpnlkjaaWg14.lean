/- The code's own register in memory; a new one; who waits; how many more there is room for; how two compare. -/
import Derived.Test.YtgngaimbpnlkjaaIt14
import Derived.Test.YtgngaimbpnlkjaaSo0
import Derived.Test.YtgngaimbpnlkjaaShelf
import Derived.BigRegion
import Derived.BigQuiet
namespace Go.Proofs.Ytgngaimbpnlkjaa
open Go.RowKit Go.Maps
set_option linter.unusedVariables false

/-- the code's own register at block p, its map at block b -/
structure WAt (w : World) (p b : Nat) (room came : Nat) (es : List En) : Prop where
  row : Row w p 54 #[.int .i64 room, .map (some b), .int .i64 came]
  md : Md w b es
  fine : FineE came es
  good : GoodR room (seats es)
theorem WAt.keep {w w' : World} {p b room came : Nat} {es : List En} (h : WAt w p b room came es) {S : Nat → Prop} (o : Only S w w') (hp : ¬ S p) (hb : ¬ S b) : WAt w' p b room came es := ⟨o.row h.row hp, h.md.keep o hb, h.fine, h.good⟩
theorem WAt.still {w w' : World} {p b room came : Nat} {es : List En} (h : WAt w p b room came es) (o : Only none_ w w') : WAt w' p b room came es := h.keep o (fun s => s) (fun s => s)
theorem WAt.once {w : World} {p b room came : Nat} {es : List En} (h : WAt w p b room came es) : OnceE es := once_of h.good.once
theorem WAt.len {w : World} {p b room came : Nat} {es : List En} (h : WAt w p b room came es) : es.length ≤ 64 := by
  have h1 := h.good.len
  have h2 := h.good.high
  rw [seats_len] at h1
  omega
theorem WAt.ne {w : World} {p b room came : Nat} {es : List En} (h : WAt w p b room came es) : p ≠ b := h.md.ne h.row
/-- what may turn in it -/
abbrev two14 (p b : Nat) : Nat → Prop := fun k => k = p ∨ k = b

/-- the code's own register at block p; all its blocks are among M; no more than L came -/
structure WG (w : World) (p : Nat) (M : Nat → Prop) (room L : Nat) (ss : List Sx) : Prop where
  good : GoodR room ss
  ex : ∃ b came es, WAt w p b room came es ∧ seats es = ss ∧ came ≤ L ∧ M p ∧ M b
  lt : ∀ g, M g → g < w.heap.size
theorem WG.keep {w w' : World} {p : Nat} {M : Nat → Prop} {room L : Nat} {ss : List Sx} (h : WG w p M room L ss) {S : Nat → Prop} (o : Only S w w') (hn : ∀ g, M g → ¬ S g) : WG w' p M room L ss := by
  obtain ⟨b, came, es, h1, h2, h3, mp, mb⟩ := h.ex
  exact ⟨h.good, ⟨b, came, es, h1.keep o (hn p mp) (hn b mb), h2, h3, mp, mb⟩, fun g hg => Nat.lt_of_lt_of_le (h.lt g hg) o.size⟩
theorem WG.still {w w' : World} {p : Nat} {M : Nat → Prop} {room L : Nat} {ss : List Sx} (h : WG w p M room L ss) (o : Only none_ w w') : WG w' p M room L ss := h.keep o (fun _ _ s => s)
theorem WG.up {w : World} {p : Nat} {M : Nat → Prop} {room L : Nat} {ss : List Sx} (h : WG w p M room L ss) {L' : Nat} (k : L ≤ L') : WG w p M room L' ss := by
  obtain ⟨b, came, es, h1, h2, h3, r⟩ := h.ex
  exact ⟨h.good, ⟨b, came, es, h1, h2, Nat.le_trans h3 k, r⟩, h.lt⟩
/-- behind a call -/
def WGto (w : World) (p : Nat) (M : Nat → Prop) (room L : Nat) (ss : List Sx) (w' : World) : Prop := (∃ M' : Nat → Prop, WG w' p M' room L ss ∧ ∀ g, M' g → M g ∨ w.heap.size ≤ g) ∧ Only M w w'
/-- .. and a slice that it has answered is none of the register's own -/
def WGtoV (w : World) (p : Nat) (M : Nat → Prop) (room L : Nat) (ss : List Sx) (v : Value) (w' : World) : Prop := (∃ M' : Nat → Prop, WG w' p M' room L ss ∧ (∀ g, M' g → M g ∨ w.heap.size ≤ g) ∧ ∀ g, v.ownBlock = some g → ¬ M' g) ∧ Only M w w'
theorem WGtoV.to {w w' : World} {p : Nat} {M : Nat → Prop} {room L : Nat} {ss : List Sx} {v : Value} (h : WGtoV w p M room L ss v w') : WGto w p M room L ss w' := ⟨h.1.imp (fun M' h => ⟨h.1, h.2.1⟩), h.2⟩
/-- what a call that turns just the two blocks comes to -/
theorem WG.went {w w' : World} {p b room came L L' : Nat} {M : Nat → Prop} {ss : List Sx} {es : List En} (h : WG w p M room L ss) (mp : M p) (mb : M b) (k : WAt w' p b room came es) (hl : came ≤ L') (o : Only (two14 p b) w w') : WGto w p M room L' (seats es) w' :=
  ⟨⟨M, ⟨k.good, ⟨b, came, es, k, rfl, hl, mp, mb⟩, fun g hg => Nat.lt_of_lt_of_le (h.lt g hg) o.size⟩, fun g hg => .inl hg⟩, o.more (fun i _ k => by rcases k with rfl | rfl <;> assumption)⟩
theorem WG.wentV {w w' : World} {p b room came L L' : Nat} {M : Nat → Prop} {ss : List Sx} {es : List En} {v : Value} (h : WG w p M room L ss) (mp : M p) (mb : M b) (k : WAt w' p b room came es) (hl : came ≤ L') (o : Only (two14 p b) w w') (hv : ∀ g, v.ownBlock = some g → w.heap.size ≤ g) : WGtoV w p M room L' (seats es) v w' :=
  ⟨⟨M, ⟨k.good, ⟨b, came, es, k, rfl, hl, mp, mb⟩, fun g hg => Nat.lt_of_lt_of_le (h.lt g hg) o.size⟩, fun g hg => .inl hg, fun g hg hm => by have := hv g hg; have := h.lt g hm; omega⟩, o.more (fun i _ k => by rcases k with rfl | rfl <;> assumption)⟩

theorem wnew_yes (room : Nat) (w : World) (h1 : 1 ≤ room) (h2 : room ≤ 64) :
    Calls Try.prog 9 #[.int .i64 room] w fun e w' => ∃ p, e = .returned (.tuple #[.pointer (some ⟨p, 0, none⟩), .int .i64 0]) ∧ (∃ M, WG w' p M room 0 [] ∧ ∀ g, M g → w.heap.size ≤ g) ∧ Only none_ w w' := by
  have hmm := @run_makeMap Try.prog
  have d1 : decide ((room : Int) < 1) = false := by simp; omega
  have d2 : decide ((64 : Int) < (room : Int)) = false := by simp; omega
  have GN := Lib.hid (good_nil h1 h2)
  clear h1 h2
  go_enter Try.func9, Try.ntmps9
  go_wp2
  go_ret2
  have o0 := World.ownsMap_made (H := Unit) w Try.prog 31 stElem
  have r1 := Row.fresh (w.alloc (.map #[] 0)) 54 #[.int .i64 room, .map (some w.heap.size), .int .i64 0]
  simp only [World.size_alloc] at r1
  refine ⟨w.heap.size + 1, rfl, ⟨two14 (w.heap.size + 1) w.heap.size, ⟨GN.out, ⟨w.heap.size, 0, [], ⟨r1, ⟨_, o0.alloc _, Reads14.nil⟩, fine_nil 0, GN.out⟩, rfl, Nat.le_refl _, .inl rfl, .inr rfl⟩, fun g hg => ?_⟩, fun g hg => ?_⟩, ((Only.refl _ _).alloc _).alloc _⟩
  · simp only [World.size_alloc]
    rcases hg with rfl | rfl <;> omega
  · rcases hg with rfl | rfl <;> omega

theorem wnew_no (room : Int) (w : World) (h : ¬ (1 ≤ room ∧ room ≤ 64)) :
    Calls Try.prog 9 #[.int .i64 room] w fun e w' => e = .returned (.tuple #[.pointer none, .int .i64 1]) ∧ Only none_ w w' := by
  by_cases h1 : room < 1
  · have d1 : decide (room < 1) = true := by simpa using h1
    clear h h1
    go_enter Try.func9, Try.ntmps9
    go_wp2
    go_ret2
    exact ⟨rfl, Only.refl _ _⟩
  · have d1 : decide (room < 1) = false := by simpa using h1
    have d2 : decide (64 < room) = true := by simp; omega
    clear h h1
    go_enter Try.func9, Try.ntmps9
    go_wp2
    go_ret2
    exact ⟨rfl, Only.refl _ _⟩

theorem may25_any (x : Wt) (w : World) :
    Calls Try.prog 25 #[.agg #[.int .i64 x.r, .int .i64 x.p]] w fun e w' => e = .returned (.bool (decide (1 ≤ x.r ∧ 0 ≤ x.p ∧ x.p < 8))) ∧ Only none_ w w' := by
  have O1 := Lib.hid ((Only.refl none_ w).alloc (.cells #[.int .i64 x.r, .int .i64 x.p] 31))
  have c0 : (w.alloc (.cells #[.int .i64 x.r, .int .i64 x.p] 31)).cell? ⟨w.heap.size, 0, none⟩ = some (.int .i64 x.r) := by rw [(Row.fresh _ _ _).cell]; rfl
  have c1 : (w.alloc (.cells #[.int .i64 x.r, .int .i64 x.p] 31)).cell? ⟨w.heap.size, 1, none⟩ = some (.int .i64 x.p) := by rw [(Row.fresh _ _ _).cell]; rfl
  by_cases h1 : 1 ≤ x.r
  · have t1 : decide (1 ≤ x.r) = true := decide_eq_true h1
    by_cases h2 : 0 ≤ x.p
    · have t2 : decide (0 ≤ x.p) = true := decide_eq_true h2
      have E := Lib.hid (show decide (1 ≤ x.r ∧ 0 ≤ x.p ∧ x.p < 8) = decide (x.p < 8) from by simp [h1, h2])
      rw [E.out]
      clear h1 h2
      go_enter Try.func25, Try.ntmps25
      go_wp2
      go_ret
      exact ⟨rfl, O1.out⟩
    · have t2 : decide (0 ≤ x.p) = false := decide_eq_false h2
      have E := Lib.hid (show decide (1 ≤ x.r ∧ 0 ≤ x.p ∧ x.p < 8) = false from decide_eq_false (fun k => h2 k.2.1))
      rw [E.out]
      clear h1 h2
      go_enter Try.func25, Try.ntmps25
      go_wp2
      go_ret
      exact ⟨rfl, O1.out⟩
  · have t1 : decide (1 ≤ x.r) = false := decide_eq_false h1
    have E := Lib.hid (show decide (1 ≤ x.r ∧ 0 ≤ x.p ∧ x.p < 8) = false from decide_eq_false (fun k => h1 k.1))
    rw [E.out]
    clear h1
    go_enter Try.func25, Try.ntmps25
    go_wp2
    go_ret
    exact ⟨rfl, O1.out⟩

set_option maxHeartbeats 1000000 in
theorem waits19 {p b room came : Nat} {es : List En} (x : Wt) (wx : wfW x) (w : World) (h : WAt w p b room came es) :
    Calls Try.prog 19 #[.pointer (some ⟨p, 0, none⟩), .agg #[.int .i64 x.r, .int .i64 x.p]] w fun e w' => e = .returned (.bool (hasE es x)) ∧ Only none_ w w' := by
  obtain ⟨W1, hW1⟩ : ∃ W1, W1 = w.alloc (.cells #[.int .i64 x.r, .int .i64 x.p] 31) := ⟨_, rfl⟩
  have o1 : Only none_ w W1 := by rw [hW1]; exact (Only.refl none_ w).alloc _
  have OZ := Lib.hid (((Only.refl none_ W1).alloc (.cells #[.int .i64 0, .int .i64 0] 56)).drew)
  have XR : Row W1 w.heap.size 31 #[.int .i64 x.r, .int .i64 x.p] := by rw [hW1]; exact Row.fresh _ _ _
  have c2 : W1.drew.cell? ⟨p, 1, none⟩ = some (.map (some b)) := by show W1.cell? _ = _; rw [(o1.still h.row).cell]; rfl
  have x0 : W1.drew.cell? ⟨w.heap.size, 0, none⟩ = some (.int .i64 x.r) := by show W1.cell? _ = _; rw [XR.cell]; rfl
  have x1 : W1.drew.cell? ⟨w.heap.size, 1, none⟩ = some (.int .i64 x.p) := by show W1.cell? _ = _; rw [XR.cell]; rfl
  have c2z : ((W1.alloc (.cells #[.int .i64 0, .int .i64 0] 56)).drew).cell? ⟨p, 1, none⟩ = some (.map (some b)) := OZ.out.cell (show W1.cell? _ = _ from c2) (fun s => s)
  have x0z : ((W1.alloc (.cells #[.int .i64 0, .int .i64 0] 56)).drew).cell? ⟨w.heap.size, 0, none⟩ = some (.int .i64 x.r) := OZ.out.cell (show W1.cell? _ = _ from x0) (fun s => s)
  have x1z : ((W1.alloc (.cells #[.int .i64 0, .int .i64 0] 56)).drew).cell? ⟨w.heap.size, 1, none⟩ = some (.int .i64 x.p) := OZ.out.cell (show W1.cell? _ = _ from x1) (fun s => s)
  have LK := ((h.md.still o1).still ((Only.refl none_ W1).drew)).look h.once wx
  have LZ := ((h.md.still o1).still OZ.out).look h.once wx
  have O1 := Lib.hid o1
  unfold stVal at LK LZ
  generalize tick es x = tk at LK LZ
  generalize turn es x = tn at LK LZ
  generalize hasE es x = hs at LK LZ ⊢
  clear h o1 XR wx
  go_enter Try.func19, Try.ntmps19
  go_wp2_with fail
  rw [← hW1]
  clear hW1
  go_region
  all_goals (try go_wp2_with fail)
  all_goals go_ret
  all_goals first
    | exact ⟨rfl, (O1.out.drew).alloc _⟩
    | exact ⟨rfl, (O1.out.alloc _).drew⟩

theorem free23 {p b room came : Nat} {es : List En} (w : World) (h : WAt w p b room came es) :
    Calls Try.prog 23 #[.pointer (some ⟨p, 0, none⟩)] w fun e w' => e = .returned (.int .i64 ((room : Int) - (es.length : Int))) ∧ Only none_ w w' := by
  have c0 : w.cell? ⟨p, 0, none⟩ = some (.int .i64 room) := by rw [h.row.cell]; rfl
  have c1 : w.cell? ⟨p, 1, none⟩ = some (.map (some b)) := by rw [h.row.cell]; rfl
  have LE := fun n ty => (h.md.still ((Only.refl none_ w).drewN n)).len h.once ty
  have v1 : IntKind.i64.wrap ((room : Int) - (es.length : Int)) = (room : Int) - (es.length : Int) := by have := h.len; have := h.good.high; rw [IntKind.wrap_i64]; omega
  generalize es.length = len at *
  clear h
  go_enter Try.func23, Try.ntmps23
  go_wp2_with fail
  go_quiet (fail)
  go_wp2_with fail
  go_ret
  exact ⟨rfl, (Only.refl _ _).drewN _⟩
/-- how two of them compare: by their turns -/
theorem less31 {p b room came : Nat} {es : List En} (w : World) (h : WAt w p b room came es) (x y : Wt) (wx : wfW x) (wy : wfW y) :
    Calls Try.prog 31 #[.pointer (some ⟨p, 0, none⟩), .agg #[.int .i64 x.r, .int .i64 x.p], .agg #[.int .i64 y.r, .int .i64 y.p]] w fun e w' => e = .returned (.int .i64 (kcmp (fun z => (turn es z : Int)) x y)) ∧ Only none_ w w' := by
  obtain ⟨W1, hW1⟩ : ∃ W1, W1 = (w.alloc (.cells #[.int .i64 x.r, .int .i64 x.p] 31)).alloc (.cells #[.int .i64 y.r, .int .i64 y.p] 31) := ⟨_, rfl⟩
  have o1 : Only none_ w W1 := by rw [hW1]; exact ((Only.refl none_ w).alloc _).alloc _
  have XR : Row W1 w.heap.size 31 #[.int .i64 x.r, .int .i64 x.p] := by rw [hW1]; exact (Row.fresh _ _ _).alloc _
  have YR : Row W1 (w.heap.size + 1) 31 #[.int .i64 y.r, .int .i64 y.p] := by
    rw [hW1]
    have := Row.fresh (w.alloc (.cells #[.int .i64 x.r, .int .i64 x.p] 31)) 31 #[.int .i64 y.r, .int .i64 y.p]
    rwa [World.size_alloc] at this
  have c1 : W1.cell? ⟨p, 1, none⟩ = some (.map (some b)) := by rw [(o1.still h.row).cell]; rfl
  obtain ⟨x0, x1⟩ := XR.two
  obtain ⟨y0, y1⟩ := YR.two
  have GX := fun n => ((h.md.still o1).still ((Only.refl none_ W1).drewN n)).get h.once wx
  have GY := fun n => ((h.md.still o1).still ((Only.refl none_ W1).drewN n)).get h.once wy
  have CM := Lib.hid (fun W => Try.cmp_Compare_int (turn es x) (turn es y) W)
  have O1 := Lib.hid o1
  unfold kcmp
  dsimp only
  unfold stVal at GX GY
  have FX := fun (W : World) => (show (Instr.field 56 (.agg #[.int .i64 (tick es x), .int .i64 (turn es x)]) 1).run Try.prog W = .ok (.int .i64 (turn es x)) W from by kernel_rfl)
  have FY := fun (W : World) => (show (Instr.field 56 (.agg #[.int .i64 (tick es y), .int .i64 (turn es y)]) 1).run Try.prog W = .ok (.int .i64 (turn es y)) W from by kernel_rfl)
  generalize tick es x = tx at GX FX
  generalize tick es y = ty at GY FY
  generalize (turn es x : Int) = nx at GX CM FX ⊢
  generalize (turn es y : Int) = ny at GY CM FY ⊢
  clear h o1 XR YR wx wy
  go_enter Try.func31, Try.ntmps31
  go_wp2_with fail
  rw [← hW1]
  clear hW1
  go_quiet ((go_at_call 36; exact Calls.quiet_of_same (CM.out _)))
  go_wp2_with fail
  go_ret
  exact ⟨rfl, O1.out.drewN _⟩
end Go.Proofs.Ytgngaimbpnlkjaa

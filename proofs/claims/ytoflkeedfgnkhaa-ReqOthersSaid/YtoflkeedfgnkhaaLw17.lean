/- What the laws of layer 17 share: a table made behind a world; what came in; awake answers true. -/
import Derived.Test.YtoflkeedfgnkhaaQu17
import Derived.Test.YtoflkeedfgnkhaaAn17
import Derived.Test.YtoflkeedfgnkhaaArgs
import Derived.OpenShut
import Derived.Lib.SmallJoins
namespace Go.Proofs.Ytoflkeedfgnkhaa
open Go.RowKit Go.Maps Go.ChangeShapes Go.WideShapes Go.Deep
set_option linter.unusedVariables false
set_option maxRecDepth 100000

theorem bd_i64 {a : Int} (h : (Lit.int .i64 a).wf = true) : -9223372036854775808 ≤ a ∧ a ≤ 9223372036854775807 := by
  simp only [Lit.wf, Bool.and_eq_true, decide_eq_true_eq] at h
  exact h
theorem bd_u8 {a : Int} (h : (Lit.int .u8 a).wf = true) : 0 ≤ a ∧ a ≤ 255 := by
  simp only [Lit.wf, Bool.and_eq_true, decide_eq_true_eq] at h
  exact h
theorem Only.to_below17 {a b : World} (h : Only none_ a b) : Below a.heap.size a b := h.below (Nat.le_refl _) (fun _ _ s => s)
/-- what is done -/
structure Act1 where
  kind : Int
  id : Int
  n : Int
  place : Int
  v : Int
def Act1.cells (a : Act1) : List Value := [.int .i64 a.kind, .int .i64 a.id, .int .i64 a.n, .int .i64 a.place, .int .u64 a.v]
def Act1.val (a : Act1) : Value := .agg #[.int .i64 a.kind, .int .i64 a.id, .int .i64 a.n, .int .i64 a.place, .int .u64 a.v]
instance : Inhabited Act1 := ⟨⟨0, 0, 0, 0, 0⟩⟩
def wfA (a : Act1) : Prop := (Lit.int .i64 a.id).wf = true
theorem cellsAct : Try.prog.cellsOf 32 = 5 := by kernel_rfl
theorem cellsI : Try.prog.cellsOf 3 = 1 := by kernel_rfl
theorem cellsU : Try.prog.cellsOf 30 = 1 := by kernel_rfl
theorem open_acts {H : Type} {enc : TypeId × Value → H} {W : World} {fuel : Nat} {A : Option Addr} {len cap : Nat} {x : DataW H × List MemPlace} (h : DataW.trod enc Try.prog W 0 (fun _ => true) true fuel 22 [.slice A len cap] = some x) :
    len ≤ maxLen ∧ ∃ xs : List Act1, xs.length = len ∧ Holds W A 5 Act1.cells xs ∧ ∀ a ∈ xs, wfA a := by
  refine open_rows (c := Act1.cells) (wf := fun a => wfA a) Try.underlying22 cellsAct (by decide) (fun _ => rfl) ?_ h
  intro n cs x hx
  obtain ⟨ys, m, e1, e2, hlen, hyl, hf⟩ := DataW.trod_struct Try.underlying32 hx
  have h0 := hf 0 _ rfl
  have h1 := hf 1 _ rfl
  have h2 := hf 2 _ rfl
  have h3 := hf 3 _ rfl
  have h4 := hf 4 _ rfl
  change DataW.trod enc Try.prog W 0 (fun _ => true) true m 3 (List.take (Try.prog.cellsOf 3) (List.drop 0 cs)) = _ at h0
  change DataW.trod enc Try.prog W 0 (fun _ => true) true m 3 (List.take (Try.prog.cellsOf 3) (List.drop 1 cs)) = _ at h1
  change DataW.trod enc Try.prog W 0 (fun _ => true) true m 3 (List.take (Try.prog.cellsOf 3) (List.drop 2 cs)) = _ at h2
  change DataW.trod enc Try.prog W 0 (fun _ => true) true m 3 (List.take (Try.prog.cellsOf 3) (List.drop 3 cs)) = _ at h3
  change DataW.trod enc Try.prog W 0 (fun _ => true) true m 30 (List.take (Try.prog.cellsOf 30) (List.drop 4 cs)) = _ at h4
  rw [cellsI] at h0 h1 h2 h3
  rw [cellsU] at h4
  rw [cellsAct] at hlen
  have hy5 : ys.length = 5 := hyl
  match cs, hlen with
  | [c0, c1, c2, c3, c4], _ =>
    match ys, hy5 with
    | [y0, y1, y2, y3, y4], _ =>
      obtain ⟨a0, q0, _, _⟩ := DataW.trod_int Try.underlying3 h0
      obtain ⟨a1, q1, _, w1⟩ := DataW.trod_int Try.underlying3 h1
      obtain ⟨a2, q2, _, _⟩ := DataW.trod_int Try.underlying3 h2
      obtain ⟨a3, q3, _, _⟩ := DataW.trod_int Try.underlying3 h3
      obtain ⟨a4, q4, _, _⟩ := DataW.trod_int Try.underlying30 h4
      simp only [List.drop_zero, List.take_succ_cons, List.take_zero, List.drop_succ_cons, List.cons.injEq, and_true] at q0 q1 q2 q3 q4
      subst q0 q1 q2 q3 q4
      exact ⟨⟨a0, a1, a2, a3, a4⟩, rfl, w1⟩
theorem act_at {w w' : World} {A : Option Addr} {xs : List Act1} (h : Holds w A 5 Act1.cells xs) (hb : Below w.heap.size w w') {i : Nat} {a : Act1} (hi : xs[i]? = some a) :
    ∃ b o, A = some ⟨b, o, none⟩ ∧ b < w.heap.size ∧ w'.cell? ⟨b, o + i * 5, none⟩ = some (.int .i64 a.kind) ∧ w'.cell? ⟨b, o + i * 5 + 1, none⟩ = some (.int .i64 a.id) ∧ w'.cell? ⟨b, o + i * 5 + 2, none⟩ = some (.int .i64 a.n) ∧ w'.cell? ⟨b, o + i * 5 + 3, none⟩ = some (.int .i64 a.place) ∧ w'.cell? ⟨b, o + i * 5 + 4, none⟩ = some (.int .u64 a.v) := by
  obtain ⟨b, o, e, hlt, hc⟩ := h.at_ hb hi
  exact ⟨b, o, e, hlt, hc 0 _ rfl, hc 1 _ rfl, hc 2 _ rfl, hc 3 _ rfl, hc 4 _ rfl⟩

/-! ### a table made behind a world, of which nothing has turned -/
structure LT (w0 w : World) (p : Nat) (c : Nat → Nat) (room L : Nat) (t : Tq) : Prop where
  tw : ∃ X, TW w p c X room L t
  new : ∀ g, c g ≠ 0 → w0.heap.size ≤ g
  only : Only none_ w0 w
section
variable {w0 w w' : World} {p : Nat} {c : Nat → Nat} {room L : Nat} {t : Tq}
theorem LT.still (h : LT w0 w p c room L t) (o : Only none_ w w') : LT w0 w' p c room L t := ⟨h.tw.imp (fun X k => k.still o), h.new, h.only.same o⟩
theorem LT.up (h : LT w0 w p c room L t) {L' : Nat} (k : L ≤ L') : LT w0 w p c room L' t := ⟨h.tw.imp (fun X q => q.up k), h.new, h.only⟩
theorem LT.keepN (h : LT w0 w p c room L t) {S : Nat → Prop} (o : Only S w w') (hn : ∀ g, S g → c g = 0 ∧ w0.heap.size ≤ g) : LT w0 w' p c room L t :=
  ⟨h.tw.imp (fun X k => k.keep o (fun g hg s => hg (hn g s).1)), h.new, h.only.trans o (fun i hi s => absurd (hn i s).2 (Nat.not_le.2 hi))⟩
theorem LT.good (h : LT w0 w p c room L t) : GoodQ room t.rs := let ⟨_, k⟩ := h.tw; k.good
theorem LT.kl (h : LT w0 w p c room L t) : t.kept.length ≤ L := let ⟨_, k⟩ := h.tw; k.kl
theorem LT.lt (h : LT w0 w p c room L t) : ∀ g, c g ≠ 0 → g < w.heap.size := let ⟨_, k⟩ := h.tw; k.lt
/-- behind a call -/
def LTto (w0 w : World) (p : Nat) (c : Nat → Nat) (room L : Nat) (t : Tq) (w' : World) : Prop := ∃ c', LT w0 w' p c' room L t ∧ Gw w c c' ∧ Only (fun g => c g ≠ 0) w w'
theorem LT.call (h : LT w0 w p c room L t) {L' : Nat} {t' : Tq} (k : TWto w p c room L' t' w') : LTto w0 w p c room L' t' w' := by
  obtain ⟨⟨c', X', hm, hg⟩, o⟩ := k
  refine ⟨c', ⟨⟨X', hm⟩, fun g q => ?_, h.only.trans o (fun i hi s => absurd (h.new i s) (Nat.not_le.2 hi))⟩, hg, o⟩
  rcases hg g q with z | z
  · exact h.new g z
  · exact Nat.le_trans h.only.size z
theorem LT.start {w1 : World} {room : Nat} (o : Only none_ w0 w) (h : (∃ c X, TW w1 p c X room 0 ⟨[], []⟩ ∧ ∀ g, c g ≠ 0 → w.heap.size ≤ g) ∧ Only none_ w w1) : ∃ c, LT w0 w1 p c room 0 ⟨[], []⟩ ∧ ∀ g, c g ≠ 0 → w.heap.size ≤ g := by
  obtain ⟨⟨c, X, hm, hn⟩, o2⟩ := h
  exact ⟨c, ⟨⟨X, hm⟩, fun g hg => Nat.le_trans o.size (hn g hg), o.same o2⟩, hn⟩
theorem lopen (x k n : Int) (h : LT w0 w p c room L t) (wx : (Lit.int .i64 x).wf = true) :
    Calls Try.prog 22 #[.pointer (some ⟨p, 0, none⟩), .int .i64 x, .int .i64 k, .int .i64 n] w fun e w' => e = .returned (.int .i64 (openI room t.rs x k n)) ∧ LTto w0 w p c room (L + 1) ⟨openS room t.rs x k n, t.kept⟩ w' := by
  obtain ⟨X, k'⟩ := h.tw
  exact (topen_any x k n w k' wx).mono (fun e w' q => ⟨q.1, h.call q.2⟩)
theorem lgive (x q v : Int) (h : LT w0 w p c room L t) (wx : (Lit.int .i64 x).wf = true) (hL : L < 1000000) :
    Calls Try.prog 23 #[.pointer (some ⟨p, 0, none⟩), .int .i64 x, .int .i64 q, .int .u64 v] w fun e w' => e = .returned (.int .i64 (putI t.rs x q)) ∧ LTto w0 w p c room (L + 1) (putS t x q 1 v) w' := by
  obtain ⟨X, k'⟩ := h.tw
  exact (tgive_any x q v w k' wx hL).mono (fun e w' q => ⟨q.1, h.call q.2⟩)
theorem llose (x q : Int) (h : LT w0 w p c room L t) (wx : (Lit.int .i64 x).wf = true) (hL : L < 1000000) :
    Calls Try.prog 24 #[.pointer (some ⟨p, 0, none⟩), .int .i64 x, .int .i64 q] w fun e w' => e = .returned (.int .i64 (putI t.rs x q)) ∧ LTto w0 w p c room (L + 1) (putS t x q 2 0) w' := by
  obtain ⟨X, k'⟩ := h.tw
  exact (tlose_any x q w k' wx hL).mono (fun e w' q => ⟨q.1, h.call q.2⟩)
theorem lcancel (x : Int) (h : LT w0 w p c room L t) (wx : (Lit.int .i64 x).wf = true) (hL : L < 1000000) :
    Calls Try.prog 25 #[.pointer (some ⟨p, 0, none⟩), .int .i64 x] w fun e w' => e = .returned (.int .i64 (cancelI t.rs x)) ∧ LTto w0 w p c room (L + 1) (cancelS t x) w' := by
  obtain ⟨X, k'⟩ := h.tw
  exact (tcancel_any x w k' wx hL).mono (fun e w' q => ⟨q.1, h.call q.2⟩)
theorem lkind (x : Int) (h : LT w0 w p c room L t) (wx : (Lit.int .i64 x).wf = true) :
    Calls Try.prog 17 #[.pointer (some ⟨p, 0, none⟩), .int .i64 x] w fun e w' => e = .returned (.int .i64 (kindI t.rs x)) ∧ Only none_ w w' := by
  obtain ⟨X, k'⟩ := h.tw
  exact tkind_any x w k' wx
theorem ltouched (x : Int) (h : LT w0 w p c room L t) (wx : (Lit.int .i64 x).wf = true) :
    Calls Try.prog 15 #[.pointer (some ⟨p, 0, none⟩), .int .i64 x] w fun e w' => e = .returned (.bool (touchedB t.rs x)) ∧ Only none_ w w' := by
  obtain ⟨X, k'⟩ := h.tw
  exact ttouched_any x w k' wx
theorem lpending (h : LT w0 w p c room L t) :
    Calls Try.prog 13 #[.pointer (some ⟨p, 0, none⟩)] w fun e w' => ∃ v, e = .returned v ∧ OwnsInts w' w.heap.size v (sortI (t.rs.map (·.id))) ∧ Only none_ w w' := by
  obtain ⟨X, k'⟩ := h.tw
  exact tpending_any w k'
/-- what was kept is taken: it lies in blocks of G, which aren't the table's any more -/
theorem ltake (h : LT w0 w p c room L t) :
    Calls Try.prog 20 #[.pointer (some ⟨p, 0, none⟩)] w fun e w' => ∃ v, e = .returned v ∧ ∃ (c' : Nat → Nat), LT w0 w' p c' room 0 ⟨t.rs, []⟩ ∧ AR w' (fun g => c g ≠ 0 ∧ c' g = 0) v t.kept ∧ (∀ g, c' g ≠ 0 → c g ≠ 0) ∧ Only (fun g => c g ≠ 0) w w' := by
  obtain ⟨X, k'⟩ := h.tw
  refine (ttake_any w k').mono ?_
  rintro e w' ⟨v, he, c', X', h1, h2, h3, h4⟩
  exact ⟨v, he, c', ⟨⟨X', { h1 with kl := Nat.zero_le _ }⟩, fun g hg => h.new g (h3 g hg), h.only.trans h4 (fun i hi s => absurd (h.new i s) (Nat.not_le.2 hi))⟩, h2, h3, h4⟩
theorem new_16 (w : World) : Calls Try.prog 9 #[.int .i64 16] w fun e w' => ∃ p, e = .returned (.tuple #[.pointer (some ⟨p, 0, none⟩), .int .i64 0]) ∧ (∃ c X, TW w' p c X 16 0 ⟨[], []⟩ ∧ ∀ g, c g ≠ 0 → w.heap.size ≤ g) ∧ Only none_ w w' := tnew_yes 16 w (by decide) (by decide)
theorem new_two17' (w : World) : Calls Try.prog 9 #[.int .i64 2] w fun e w' => ∃ p, e = .returned (.tuple #[.pointer (some ⟨p, 0, none⟩), .int .i64 0]) ∧ (∃ c X, TW w' p c X 2 0 ⟨[], []⟩ ∧ ∀ g, c g ≠ 0 → w.heap.size ≤ g) ∧ Only none_ w w' := tnew_yes 2 w (by decide) (by decide)
theorem new_one17 (w : World) : Calls Try.prog 9 #[.int .i64 1] w fun e w' => ∃ p, e = .returned (.tuple #[.pointer (some ⟨p, 0, none⟩), .int .i64 0]) ∧ (∃ c X, TW w' p c X 1 0 ⟨[], []⟩ ∧ ∀ g, c g ≠ 0 → w.heap.size ≤ g) ∧ Only none_ w w' := tnew_yes 1 w (by decide) (by decide)
end
/-- a row of uint64s reads so -/
theorem VR.row {w : World} {g : Nat} {l : List Int} (h : Row w g 30 (l.map (Value.int .u64)).toArray) : VR w (fun _ => True) (.slice (some ⟨g, 0, Option.none⟩) l.length l.length) l := by
  refine ⟨_, l.length, rfl, fun i x hx => ⟨g, 0, rfl, trivial, ?_⟩⟩
  rw [Nat.zero_add, h.cell, List.getElem?_toArray, List.getElem?_map, hx]
  rfl
theorem AR.row {w : World} {g : Nat} {ks : List Ak} {ns : List An} (h : Row w g 49 (flat Ak.cells ks)) (k : KeptAt w (fun _ => True) ks ns) : AR w (fun _ => True) (.slice (some ⟨g, 0, Option.none⟩) ns.length ns.length) ns := by
  refine ⟨_, ns.length, ks, rfl, k, fun i x hx => ⟨g, 0, rfl, trivial, ?_, ?_, ?_⟩⟩
  · rw [Nat.zero_add, h.cell]
    exact flat_get ak3 hx (j := 0) (by decide)
  · rw [Nat.zero_add, h.cell]
    exact flat_get ak3 hx (j := 1) (by decide)
  · rw [Nat.zero_add, h.cell]
    exact flat_get ak3 hx (j := 2) (by decide)
/-! ### eight uint64s by value -/
structure U8 where
  f : Nat → Int
def U8.cells (a : U8) : Array Value := #[.int .u64 (a.f 0), .int .u64 (a.f 1), .int .u64 (a.f 2), .int .u64 (a.f 3), .int .u64 (a.f 4), .int .u64 (a.f 5), .int .u64 (a.f 6), .int .u64 (a.f 7)]
def U8.val (a : U8) : Value := .agg a.cells
theorem U8.get (a : U8) {k : Nat} (h : k < 8) : a.cells[k]? = some (.int .u64 (a.f k)) := by
  rcases lt8 h with rfl | rfl | rfl | rfl | rfl | rfl | rfl | rfl <;> rfl
theorem cellsU8 : Try.prog.cellsOf 55 = 8 := by kernel_rfl
theorem array8 {cs : Array Value} (h : cs.size = 8) : ∃ c0 c1 c2 c3 c4 c5 c6 c7, cs = #[c0, c1, c2, c3, c4, c5, c6, c7] := by
  obtain ⟨l⟩ := cs
  match l, h with
  | [c0, c1, c2, c3, c4, c5, c6, c7], _ => exact ⟨c0, c1, c2, c3, c4, c5, c6, c7, rfl⟩
theorem open_u8 (W : World) (base : Nat) (H : Type) (enc : TypeId × Value → H) (v : Value) (d : DataW H) (p : List MemPlace) (o : Value.okWide Try.prog W .any base 55 v) (h : DataW.Trod enc Try.prog W 0 (fun _ => true) true 55 v d p) :
    ∃ a : U8, v = a.val ∧ True := by
  simp only [Value.okWide, Try.underlying55] at o
  obtain ⟨cs, rfl, hsz, _⟩ := o
  rw [cellsU8] at hsz
  obtain ⟨c0, c1, c2, c3, c4, c5, c6, c7, rfl⟩ := array8 hsz
  obtain ⟨fuel, hf⟩ := h
  simp only [Value.cells] at hf
  obtain ⟨xs, m, _, _, _, hl, hx⟩ := DataW.trod_array Try.underlying55 hf
  match xs, hl with
  | [y0, y1, y2, y3, y4, y5, y6, y7], _ =>
    have k0 := hx 0 (by omega)
    have k1 := hx 1 (by omega)
    have k2 := hx 2 (by omega)
    have k3 := hx 3 (by omega)
    have k4 := hx 4 (by omega)
    have k5 := hx 5 (by omega)
    have k6 := hx 6 (by omega)
    have k7 := hx 7 (by omega)
    simp [cellsU] at k0 k1 k2 k3 k4 k5 k6 k7
    obtain ⟨a0, e0, _, _⟩ := DataW.trod_int Try.underlying30 k0
    obtain ⟨a1, e1, _, _⟩ := DataW.trod_int Try.underlying30 k1
    obtain ⟨a2, e2, _, _⟩ := DataW.trod_int Try.underlying30 k2
    obtain ⟨a3, e3, _, _⟩ := DataW.trod_int Try.underlying30 k3
    obtain ⟨a4, e4, _, _⟩ := DataW.trod_int Try.underlying30 k4
    obtain ⟨a5, e5, _, _⟩ := DataW.trod_int Try.underlying30 k5
    obtain ⟨a6, e6, _, _⟩ := DataW.trod_int Try.underlying30 k6
    obtain ⟨a7, e7, _, _⟩ := DataW.trod_int Try.underlying30 k7
    simp only [List.cons.injEq, and_true] at e0 e1 e2 e3 e4 e5 e6 e7
    subst e0 e1 e2 e3 e4 e5 e6 e7
    exact ⟨⟨fun k => match k with | 0 => a0 | 1 => a1 | 2 => a2 | 3 => a3 | 4 => a4 | 5 => a5 | 6 => a6 | _ => a7⟩, rfl, trivial⟩
/-! ### rows of bytes, of bools -/
def byteC (x : Int) : List Value := [.int .u8 x]
theorem cellsB8 : Try.prog.cellsOf 5 = 1 := by kernel_rfl
theorem open_bytes {H : Type} {enc : TypeId × Value → H} {W : World} {fuel : Nat} {A : Option Addr} {len cap : Nat} {x : DataW H × List MemPlace} (h : DataW.trod enc Try.prog W 0 (fun _ => true) true fuel 52 [.slice A len cap] = some x) :
    len ≤ maxLen ∧ ∃ xs : List Int, xs.length = len ∧ Holds W A 1 byteC xs ∧ ∀ a ∈ xs, (0 ≤ a ∧ a ≤ 255) := by
  refine open_rows (c := byteC) (wf := fun a => 0 ≤ a ∧ a ≤ 255) Try.underlying52 cellsB8 (by decide) (fun _ => rfl) ?_ h
  intro n cs x hx
  obtain ⟨a0, q0, _, w0⟩ := DataW.trod_int Try.underlying5 hx
  exact ⟨a0, q0, bd_u8 w0⟩
theorem byte_at {w w' : World} {A : Option Addr} {xs : List Int} (h : Holds w A 1 byteC xs) (hb : Below w.heap.size w w') {i : Nat} {a : Int} (hi : xs[i]? = some a) :
    ∃ b o, A = some ⟨b, o, Option.none⟩ ∧ b < w.heap.size ∧ w'.cell? ⟨b, o + i, Option.none⟩ = some (.int .u8 a) := by
  obtain ⟨b, o, e, hlt, hc⟩ := h.at_ hb hi
  refine ⟨b, o, e, hlt, ?_⟩
  have := hc 0 _ rfl
  rwa [Nat.mul_one, Nat.add_zero] at this
def boolC (x : Bool) : List Value := [.bool x]
theorem cellsBo : Try.prog.cellsOf 4 = 1 := by kernel_rfl
theorem open_bools {H : Type} {enc : TypeId × Value → H} {W : World} {fuel : Nat} {A : Option Addr} {len cap : Nat} {x : DataW H × List MemPlace} (h : DataW.trod enc Try.prog W 0 (fun _ => true) true fuel 53 [.slice A len cap] = some x) :
    len ≤ maxLen ∧ ∃ xs : List Bool, xs.length = len ∧ Holds W A 1 boolC xs ∧ ∀ a ∈ xs, True := by
  refine open_rows (c := boolC) (wf := fun _ => True) Try.underlying53 cellsBo (by decide) (fun _ => rfl) ?_ h
  intro n cs x hx
  obtain ⟨a0, q0, _⟩ := DataW.trod_bool Try.underlying4 hx
  exact ⟨a0, q0, trivial⟩
theorem bool_at {w w' : World} {A : Option Addr} {xs : List Bool} (h : Holds w A 1 boolC xs) (hb : Below w.heap.size w w') {i : Nat} {a : Bool} (hi : xs[i]? = some a) :
    ∃ b o, A = some ⟨b, o, Option.none⟩ ∧ b < w.heap.size ∧ w'.cell? ⟨b, o + i, Option.none⟩ = some (.bool a) := by
  obtain ⟨b, o, e, hlt, hc⟩ := h.at_ hb hi
  refine ⟨b, o, e, hlt, ?_⟩
  have := hc 0 _ rfl
  rwa [Nat.mul_one, Nat.add_zero] at this
/-- an answer without values, in memory -/
def akN (n : An) : Ak := ⟨n.id, n.code, .slice Option.none 0 0⟩
theorem KeptAt.nul (w : World) (G : Nat → Prop) (ns : List An) (h : ∀ n ∈ ns, n.vs = []) : KeptAt w G (ns.map akN) ns := by
  refine ⟨List.length_map _, fun i a n h1 h2 => ?_⟩
  rw [List.getElem?_map, h2] at h1
  injection h1 with h1
  subst h1
  refine ⟨rfl, rfl, ?_⟩
  rw [h n (List.mem_of_getElem? h2)]
  exact VR.none _ _
end Go.Proofs.Ytoflkeedfgnkhaa

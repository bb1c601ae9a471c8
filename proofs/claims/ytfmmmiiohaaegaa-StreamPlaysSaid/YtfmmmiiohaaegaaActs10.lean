/- What came into the laws of layer 10, opened: rows of what is done, rows of bytes, three bytes by value, an act, a shape. -/
import Derived.Test.YtfmmmiiohaaegaaStAwake
import Derived.Test.YtfmmmiiohaaegaaArgs
import Derived.OpenShut
import Derived.Lib.SmallJoins
namespace Go.Proofs.Ytfmmmiiohaaegaa
open Go.RowKit Go.ChangeShapes Go.WideShapes Go.Deep
set_option linter.unusedVariables false

structure Act1 where
  kind : Int
  a : Int
  b : Int
def Act1.cells (a : Act1) : List Value := [.int .i64 a.kind, .int .i64 a.a, .int .i64 a.b]
abbrev Act1.val (a : Act1) : Value := .agg #[.int .i64 a.kind, .int .i64 a.a, .int .i64 a.b]
instance : Inhabited Act1 := ⟨⟨0, 0, 0⟩⟩
theorem cellsAct : Try.prog.cellsOf 34 = 3 := by kernel_rfl
theorem open_acts {H : Type} {enc : TypeId × Value → H} {W : World} {fuel : Nat} {A : Option Addr} {len cap : Nat} {x : DataW H × List MemPlace} (h : DataW.trod enc Try.prog W 0 (fun _ => true) true fuel 24 [.slice A len cap] = some x) :
    len ≤ maxLen ∧ ∃ xs : List Act1, xs.length = len ∧ Holds W A 3 Act1.cells xs ∧ ∀ a ∈ xs, True := by
  refine open_rows (c := Act1.cells) (wf := fun _ => True) Try.underlying24 cellsAct (by decide) (fun _ => rfl) ?_ h
  intro n cs x hx
  obtain ⟨hl, m, hf⟩ := open_fields Try.underlying34 (by kernel_rfl) cellsAct hx
  obtain ⟨v0, y0, e0, t0⟩ := hf 0 _ rfl
  obtain ⟨v1, y1, e1, t1⟩ := hf 1 _ rfl
  obtain ⟨v2, y2, e2, t2⟩ := hf 2 _ rfl
  obtain ⟨a0, q0, _, _⟩ := DataW.trod_int Try.underlying3 t0
  obtain ⟨a1, q1, _, _⟩ := DataW.trod_int Try.underlying3 t1
  obtain ⟨a2, q2, _, _⟩ := DataW.trod_int Try.underlying3 t2
  simp only [List.cons.injEq, and_true] at q0 q1 q2
  subst q0 q1 q2
  refine ⟨⟨a0, a1, a2⟩, ?_, trivial⟩
  apply List.ext_getElem?
  intro j
  match j with
  | 0 => exact e0
  | 1 => exact e1
  | 2 => exact e2
  | j + 3 => rw [List.getElem?_eq_none (by rw [hl]; show 3 ≤ j + 3; omega), List.getElem?_eq_none (by show 3 ≤ j + 3; omega)]
theorem act_at {w w' : World} {A : Option Addr} {xs : List Act1} (h : Holds w A 3 Act1.cells xs) (hb : Below w.heap.size w w') {i : Nat} {a : Act1} (hi : xs[i]? = some a) :
    ∃ b o, A = some ⟨b, o, none⟩ ∧ b < w.heap.size ∧ w'.cell? ⟨b, o + i * 3, none⟩ = some (.int .i64 a.kind) ∧ w'.cell? ⟨b, o + i * 3 + 1, none⟩ = some (.int .i64 a.a) ∧ w'.cell? ⟨b, o + i * 3 + 2, none⟩ = some (.int .i64 a.b) := by
  obtain ⟨b, o, e, hlt, hc⟩ := h.at_ hb hi
  exact ⟨b, o, e, hlt, by rw [show o + i * 3 = o + (i * 3 + 0) from rfl]; exact hc 0 _ rfl, by rw [Nat.add_assoc]; exact hc 1 _ rfl, by rw [Nat.add_assoc]; exact hc 2 _ rfl⟩
theorem act_more {w : World} {sb so : Nat} {xs : List Act1} (h : Holds w (some ⟨sb, so, none⟩) 3 Act1.cells xs) {i : Nat} {a : Act1} (hi : xs[i]? = some a) :
    ∀ w', Below w.heap.size w w' → w'.cell? ⟨sb, so + i * 3, none⟩ = some (.int .i64 a.kind) ∧ w'.cell? ⟨sb, so + i * 3 + 1, none⟩ = some (.int .i64 a.a) ∧ w'.cell? ⟨sb, so + i * 3 + 2, none⟩ = some (.int .i64 a.b) := by
  intro w' hb
  obtain ⟨b, o, e, hlt, c0, c1, c2⟩ := act_at h hb hi
  injection e with e
  injection e with e1 e2
  subst e1 e2
  exact ⟨c0, c1, c2⟩
set_option maxRecDepth 100000 in
/-- an act by value -/
theorem open_act (W : World) (base : Nat) (H : Type) (enc : TypeId × Value → H) (v : Value) (d : DataW H) (p : List MemPlace) (o : Value.okWide Try.prog W .any base 34 v) (h : DataW.Trod enc Try.prog W 0 (fun _ => true) true 34 v d p) :
    ∃ a : Act1, v = a.val ∧ True := by
  simp only [Value.okWide, Try.underlying34] at o
  obtain ⟨cs, rfl, hsz, _⟩ := o
  rw [cellsAct] at hsz
  obtain ⟨fuel, hf⟩ := h
  simp only [Value.cells] at hf
  obtain ⟨hl, m, hx⟩ := open_fields Try.underlying34 (by kernel_rfl) cellsAct hf
  obtain ⟨v0, y0, e0, t0⟩ := hx 0 _ rfl
  obtain ⟨v1, y1, e1, t1⟩ := hx 1 _ rfl
  obtain ⟨v2, y2, e2, t2⟩ := hx 2 _ rfl
  obtain ⟨a0, q0, _, w0⟩ := DataW.trod_int Try.underlying3 t0
  obtain ⟨a1, q1, _, w1⟩ := DataW.trod_int Try.underlying3 t1
  obtain ⟨a2, q2, _, w2⟩ := DataW.trod_int Try.underlying3 t2
  simp only [List.cons.injEq, and_true] at q0 q1 q2
  subst q0 q1 q2
  have hcs : cs = #[.int .i64 a0, .int .i64 a1, .int .i64 a2] := by
    apply Array.toList_inj.1
    apply List.ext_getElem?
    intro j
    match j with
    | 0 => exact e0
    | 1 => exact e1
    | 2 => exact e2
    | j + 3 => rw [List.getElem?_eq_none (by rw [hl]; show 3 ≤ j + 3; omega), List.getElem?_eq_none (by show 3 ≤ j + 3; omega)]
  subst hcs
  exact ⟨⟨a0, a1, a2⟩, rfl, trivial⟩

structure Shp where
  m : Int
  s : Int
  l : Int
  d : Int
  b : Int
abbrev Shp.val (a : Shp) : Value := .agg #[.int .i64 a.m, .int .i64 a.s, .int .i64 a.l, .int .i64 a.d, .int .i64 a.b]
theorem cellsShp : Try.prog.cellsOf 23 = 5 := by kernel_rfl
set_option maxRecDepth 100000 in
theorem open_shp (W : World) (base : Nat) (H : Type) (enc : TypeId × Value → H) (v : Value) (d : DataW H) (p : List MemPlace) (o : Value.okWide Try.prog W .any base 23 v) (h : DataW.Trod enc Try.prog W 0 (fun _ => true) true 23 v d p) :
    ∃ a : Shp, v = a.val ∧ True := by
  simp only [Value.okWide, Try.underlying23] at o
  obtain ⟨cs, rfl, hsz, _⟩ := o
  rw [cellsShp] at hsz
  obtain ⟨fuel, hf⟩ := h
  simp only [Value.cells] at hf
  obtain ⟨hl, m, hx⟩ := open_fields Try.underlying23 (by kernel_rfl) cellsShp hf
  obtain ⟨v0, y0, e0, t0⟩ := hx 0 _ rfl
  obtain ⟨v1, y1, e1, t1⟩ := hx 1 _ rfl
  obtain ⟨v2, y2, e2, t2⟩ := hx 2 _ rfl
  obtain ⟨v3, y3, e3, t3⟩ := hx 3 _ rfl
  obtain ⟨v4, y4, e4, t4⟩ := hx 4 _ rfl
  obtain ⟨a0, q0, _, w0⟩ := DataW.trod_int Try.underlying3 t0
  obtain ⟨a1, q1, _, w1⟩ := DataW.trod_int Try.underlying3 t1
  obtain ⟨a2, q2, _, w2⟩ := DataW.trod_int Try.underlying3 t2
  obtain ⟨a3, q3, _, w3⟩ := DataW.trod_int Try.underlying3 t3
  obtain ⟨a4, q4, _, w4⟩ := DataW.trod_int Try.underlying3 t4
  simp only [List.cons.injEq, and_true] at q0 q1 q2 q3 q4
  subst q0 q1 q2 q3 q4
  have hcs : cs = #[.int .i64 a0, .int .i64 a1, .int .i64 a2, .int .i64 a3, .int .i64 a4] := by
    apply Array.toList_inj.1
    apply List.ext_getElem?
    intro j
    match j with
    | 0 => exact e0
    | 1 => exact e1
    | 2 => exact e2
    | 3 => exact e3
    | 4 => exact e4
    | j + 5 => rw [List.getElem?_eq_none (by rw [hl]; show 5 ≤ j + 5; omega), List.getElem?_eq_none (by show 5 ≤ j + 5; omega)]
  subst hcs
  exact ⟨⟨a0, a1, a2, a3, a4⟩, rfl, trivial⟩

structure Tri where
  x : Int
  y : Int
  z : Int
abbrev Tri.val (a : Tri) : Value := .agg #[.int .u8 a.x, .int .u8 a.y, .int .u8 a.z]
structure Tri.Wf (t : Tri) : Prop where
  x0 : 0 ≤ t.x
  x1 : t.x ≤ 255
  y0 : 0 ≤ t.y
  y1 : t.y ≤ 255
  z0 : 0 ≤ t.z
  z1 : t.z ≤ 255
theorem cellsTri : Try.prog.cellsOf 55 = 3 := by kernel_rfl
set_option maxRecDepth 100000 in
theorem open_tri (W : World) (base : Nat) (H : Type) (enc : TypeId × Value → H) (v : Value) (d : DataW H) (p : List MemPlace) (o : Value.okWide Try.prog W .any base 55 v) (h : DataW.Trod enc Try.prog W 0 (fun _ => true) true 55 v d p) :
    ∃ a : Tri, v = a.val ∧ a.Wf := by
  simp only [Value.okWide, Try.underlying55] at o
  obtain ⟨cs, rfl, hsz, _⟩ := o
  rw [cellsTri] at hsz
  obtain ⟨c0, c1, c2, rfl⟩ := Joins.array3 hsz
  obtain ⟨fuel, hf⟩ := h
  simp only [Value.cells] at hf
  obtain ⟨xs, m, _, _, _, hl, hx⟩ := DataW.trod_array Try.underlying55 hf
  match xs, hl with
  | [y0, y1, y2], _ =>
    have k0 := hx 0 (by omega)
    have k1 := hx 1 (by omega)
    have k2 := hx 2 (by omega)
    simp [cellsB8] at k0 k1 k2
    obtain ⟨a, ea, _, wa⟩ := DataW.trod_int Try.underlying5 k0
    obtain ⟨b, eb, _, wb⟩ := DataW.trod_int Try.underlying5 k1
    obtain ⟨c, ec, _, wc⟩ := DataW.trod_int Try.underlying5 k2
    simp only [List.cons.injEq, and_true] at ea eb ec
    subst ea; subst eb; subst ec
    have ba := bd_u8 wa
    have bb := bd_u8 wb
    have bc := bd_u8 wc
    exact ⟨⟨a, b, c⟩, rfl, ba.1, ba.2, bb.1, bb.2, bc.1, bc.2⟩
def byteC (x : Int) : List Value := [.int .u8 x]
theorem open_bytes {H : Type} {enc : TypeId × Value → H} {W : World} {fuel : Nat} {A : Option Addr} {len cap : Nat} {x : DataW H × List MemPlace} (h : DataW.trod enc Try.prog W 0 (fun _ => true) true fuel 62 [.slice A len cap] = some x) :
    len ≤ maxLen ∧ ∃ xs : List Int, xs.length = len ∧ Holds W A 1 byteC xs ∧ ∀ a ∈ xs, (0 ≤ a ∧ a ≤ 255) := by
  refine open_rows (c := byteC) (wf := fun a => 0 ≤ a ∧ a ≤ 255) Try.underlying62 cellsB8 (by decide) (fun _ => rfl) ?_ h
  intro n cs x hx
  obtain ⟨a0, q0, _, w0⟩ := DataW.trod_int Try.underlying5 hx
  exact ⟨a0, q0, bd_u8 w0⟩
theorem byte_at {w w' : World} {A : Option Addr} {xs : List Int} (h : Holds w A 1 byteC xs) (hb : Below w.heap.size w w') {i : Nat} {a : Int} (hi : xs[i]? = some a) :
    ∃ b o, A = some ⟨b, o, none⟩ ∧ b < w.heap.size ∧ w'.cell? ⟨b, o + i, none⟩ = some (.int .u8 a) := by
  obtain ⟨b, o, e, hlt, hc⟩ := h.at_ hb hi
  refine ⟨b, o, e, hlt, ?_⟩
  have := hc 0 _ rfl
  rwa [Nat.mul_one, Nat.add_zero] at this
theorem most_of (a : Int) (h : 0 ≤ a) : ∃ N : Nat, 1 + a % 16 = (N : Int) ∧ 1 ≤ N ∧ N ≤ 16 := ⟨(1 + a % 16).toNat, by omega, by omega, by omega⟩
theorem blocks_of (a : Int) (h : 0 ≤ a ∧ a ≤ 255) : ∃ N : Nat, 1 + a = (N : Int) ∧ 1 ≤ N ∧ N ≤ 256 := ⟨(1 + a).toNat, by omega, by omega, by omega⟩
end Go.Proofs.Ytfmmmiiohaaegaa

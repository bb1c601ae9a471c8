/- What came into the laws of layer 13, opened: rows of numbers, what a run is asked of, runs. -/
import Derived.Test.YtobeoknaanbakaaRs13
import Derived.Test.YtobeoknaanbakaaInt11
import Derived.Test.YtobeoknaanbakaaArgs
import Derived.OpenShut
import Derived.Lib.SmallJoins
namespace Go.Proofs.Ytobeoknaanbakaa
open Go.RowKit Go.ChangeShapes Go.WideShapes Go.Deep
set_option linter.unusedVariables false

theorem Only.to_below13 {a b : World} (h : Only none_ a b) : Below a.heap.size a b := h.below (Nat.le_refl _) (fun _ _ s => s)
theorem bd_i64 {a : Int} (h : (Lit.int .i64 a).wf = true) : -9223372036854775808 ≤ a ∧ a ≤ 9223372036854775807 := by
  simp only [Lit.wf, Bool.and_eq_true, decide_eq_true_eq] at h
  exact h
theorem cellsI : Try.prog.cellsOf 3 = 1 := by kernel_rfl
theorem open_ints13 {H : Type} {enc : TypeId × Value → H} {W : World} {fuel : Nat} {A : Option Addr} {len cap : Nat} {x : DataW H × List MemPlace} (h : DataW.trod enc Try.prog W 0 (fun _ => true) true fuel 22 [.slice A len cap] = some x) :
    len ≤ maxLen ∧ ∃ xs : List Int, xs.length = len ∧ Holds W A 1 one xs ∧ ∀ a ∈ xs, True := by
  refine open_rows (c := one) (wf := fun _ => True) Try.underlying22 cellsI (by decide) (fun _ => rfl) ?_ h
  intro n cs x hx
  obtain ⟨a0, q0, _, w0⟩ := DataW.trod_int Try.underlying3 hx
  exact ⟨a0, q0, trivial⟩

structure Ask1 where
  b : Int
  m : Int
  r : Int
abbrev Ask1.val (a : Ask1) : Value := .agg #[.int .i64 a.b, .int .i64 a.m, .int .i64 a.r]
def Ask1.Wf (a : Ask1) : Prop := (-9223372036854775808 ≤ a.b ∧ a.b ≤ 9223372036854775807) ∧ (-9223372036854775808 ≤ a.m ∧ a.m ≤ 9223372036854775807) ∧ (-9223372036854775808 ≤ a.r ∧ a.r ≤ 9223372036854775807)
theorem cellsAsk : Try.prog.cellsOf 24 = 3 := by kernel_rfl
set_option maxRecDepth 100000 in
theorem open_ask (W : World) (base : Nat) (H : Type) (enc : TypeId × Value → H) (v : Value) (d : DataW H) (p : List MemPlace) (o : Value.okWide Try.prog W .any base 24 v) (h : DataW.Trod enc Try.prog W 0 (fun _ => true) true 24 v d p) :
    ∃ a : Ask1, v = a.val ∧ a.Wf := by
  simp only [Value.okWide, Try.underlying24] at o
  obtain ⟨cs, rfl, hsz, _⟩ := o
  rw [cellsAsk] at hsz
  obtain ⟨fuel, hf⟩ := h
  simp only [Value.cells] at hf
  obtain ⟨hl, m, hx⟩ := open_fields Try.underlying24 (by kernel_rfl) cellsAsk hf
  obtain ⟨v0, y0, e0, t0⟩ := hx 0 _ rfl
  obtain ⟨v1, y1, e1, t1⟩ := hx 1 _ rfl
  obtain ⟨v2, y2, e2, t2⟩ := hx 2 _ rfl
  obtain ⟨a0, q0, _, w0⟩ := DataW.trod_int Try.underlying3 t0
  obtain ⟨a1, q1, _, w1⟩ := DataW.trod_int Try.underlying3 t1
  obtain ⟨a2, q2, _, w2⟩ := DataW.trod_int Try.underlying3 t2
  simp only [List.cons.injEq, and_true] at q0 q1 q2
  subst q0 q1 q2
  have hcs : cs = #[.int .i64 a0, .int .i64 a1, .int .i64 a2] := by
    apply Array.toList_inj.1
    apply List.ext_getElem?
    intro j
    match j with
    | 0 => exact e0
    | 1 => exact e1
    | 2 => exact e2
    | j + 3 => rw [List.getElem?_eq_none (by rw [hl]; show 3 ≤ j + 3; omega), List.getElem?_eq_none (by show 3 ≤ j + 3; omega)]
  subst hcs
  exact ⟨⟨a0, a1, a2⟩, rfl, bd_i64 w0, bd_i64 w1, bd_i64 w2⟩

def Rn.Wf (r : Rn) : Prop := (-9223372036854775808 ≤ r.f ∧ r.f ≤ 9223372036854775807) ∧ (-9223372036854775808 ≤ r.c ∧ r.c ≤ 9223372036854775807)
theorem cellsRun : Try.prog.cellsOf 27 = 2 := by kernel_rfl
theorem run_cells {H : Type} {enc : TypeId × Value → H} {W : World} {fuel : Nat} {cs : List Value} {x : DataW H × List MemPlace} (hf : DataW.trod enc Try.prog W 0 (fun _ => true) true fuel 27 cs = some x) :
    ∃ r : Rn, cs = Rn.cells r ∧ r.Wf := by
  obtain ⟨hl, m, hx⟩ := open_fields Try.underlying27 (by kernel_rfl) cellsRun hf
  obtain ⟨v0, y0, e0, t0⟩ := hx 0 _ rfl
  obtain ⟨v1, y1, e1, t1⟩ := hx 1 _ rfl
  obtain ⟨a0, q0, _, w0⟩ := DataW.trod_int Try.underlying3 t0
  obtain ⟨a1, q1, _, w1⟩ := DataW.trod_int Try.underlying3 t1
  simp only [List.cons.injEq, and_true] at q0 q1
  subst q0 q1
  refine ⟨⟨a0, a1⟩, ?_, bd_i64 w0, bd_i64 w1⟩
  apply List.ext_getElem?
  intro j
  match j with
  | 0 => exact e0
  | 1 => exact e1
  | j + 2 => rw [List.getElem?_eq_none (by rw [hl]; show 2 ≤ j + 2; omega), List.getElem?_eq_none (by show 2 ≤ j + 2; omega)]
set_option maxRecDepth 100000 in
theorem open_run (W : World) (base : Nat) (H : Type) (enc : TypeId × Value → H) (v : Value) (d : DataW H) (p : List MemPlace) (o : Value.okWide Try.prog W .any base 27 v) (h : DataW.Trod enc Try.prog W 0 (fun _ => true) true 27 v d p) :
    ∃ r : Rn, v = r.val ∧ r.Wf := by
  simp only [Value.okWide, Try.underlying27] at o
  obtain ⟨cs, rfl, hsz, _⟩ := o
  obtain ⟨fuel, hf⟩ := h
  simp only [Value.cells] at hf
  obtain ⟨r, e, wf⟩ := run_cells hf
  refine ⟨r, ?_, wf⟩
  show Value.agg cs = _
  congr 1
  exact Array.toList_inj.1 e

structure Two1 where
  a : Rn
  b : Rn
abbrev Two1.val (t : Two1) : Value := .agg #[.int .i64 t.a.f, .int .i64 t.a.c, .int .i64 t.b.f, .int .i64 t.b.c]
def Two1.Wf (t : Two1) : Prop := t.a.Wf ∧ t.b.Wf
theorem cellsTwo : Try.prog.cellsOf 32 = 4 := by kernel_rfl
set_option maxRecDepth 100000 in
theorem open_two (W : World) (base : Nat) (H : Type) (enc : TypeId × Value → H) (v : Value) (d : DataW H) (p : List MemPlace) (o : Value.okWide Try.prog W .any base 32 v) (h : DataW.Trod enc Try.prog W 0 (fun _ => true) true 32 v d p) :
    ∃ t : Two1, v = t.val ∧ t.Wf := by
  simp only [Value.okWide, Try.underlying32] at o
  obtain ⟨cs, rfl, hsz, _⟩ := o
  rw [cellsTwo] at hsz
  obtain ⟨fuel, hf⟩ := h
  simp only [Value.cells] at hf
  obtain ⟨xs, m, _, _, _, hl, hx⟩ := DataW.trod_array Try.underlying32 hf
  match xs, hl with
  | [y0, y1], _ =>
    have k0 := hx 0 (by omega)
    have k1 := hx 1 (by omega)
    simp [cellsRun] at k0 k1
    obtain ⟨r, e1, w1⟩ := run_cells k0
    obtain ⟨s, e2, w2⟩ := run_cells k1
    refine ⟨⟨r, s⟩, ?_, w1, w2⟩
    show Value.agg cs = _
    congr 1
    apply Array.toList_inj.1
    have hl4 : cs.toList.length = 4 := by simpa using hsz
    rw [← List.take_append_drop 2 cs.toList, e1]
    rw [List.take_of_length_le (by rw [List.length_drop]; omega)] at e2
    rw [e2]
    rfl
end Go.Proofs.Ytobeoknaanbakaa

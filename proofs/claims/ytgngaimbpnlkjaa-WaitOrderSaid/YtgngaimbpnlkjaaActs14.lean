/- What came into the laws of layer 14, opened: rows of what is done, rows of bytes. -/
import Derived.Test.YtgngaimbpnlkjaaPl14
import Derived.Test.YtgngaimbpnlkjaaArgs
import Derived.OpenShut
import Derived.Lib.SmallJoins
namespace Go.Proofs.Ytgngaimbpnlkjaa
open Go.RowKit Go.ChangeShapes Go.WideShapes Go.Deep
set_option linter.unusedVariables false

theorem bd_u8 {a : Int} (h : (Lit.int .u8 a).wf = true) : 0 ≤ a ∧ a ≤ 255 := by
  simp only [Lit.wf, Bool.and_eq_true, decide_eq_true_eq] at h
  exact h
theorem bd_i64 {a : Int} (h : (Lit.int .i64 a).wf = true) : -9223372036854775808 ≤ a ∧ a ≤ 9223372036854775807 := by
  simp only [Lit.wf, Bool.and_eq_true, decide_eq_true_eq] at h
  exact h
theorem Only.to_below14 {a b : World} (h : Only none_ a b) : Below a.heap.size a b := h.below (Nat.le_refl _) (fun _ _ s => s)
structure Act1 where
  kind : Int
  n : Int
  w : Wt
def Act1.cells (a : Act1) : List Value := [.int .i64 a.kind, .int .i64 a.n, .int .i64 a.w.r, .int .i64 a.w.p]
instance : Inhabited Act1 := ⟨⟨0, 0, ⟨0, 0⟩⟩⟩
theorem cellsAct : Try.prog.cellsOf 33 = 4 := by kernel_rfl
theorem cellsWt : Try.prog.cellsOf 31 = 2 := by kernel_rfl
theorem cellsI : Try.prog.cellsOf 3 = 1 := by kernel_rfl
theorem wt_cells {H : Type} {enc : TypeId × Value → H} {W : World} {fuel : Nat} {cs : List Value} {x : DataW H × List MemPlace} (hf : DataW.trod enc Try.prog W 0 (fun _ => true) true fuel 31 cs = some x) :
    ∃ r p : Int, cs = [.int .i64 r, .int .i64 p] ∧ (Lit.int .i64 r).wf = true ∧ (Lit.int .i64 p).wf = true := by
  obtain ⟨hl, m, hx⟩ := open_fields Try.underlying31 (by kernel_rfl) cellsWt hf
  obtain ⟨v0, y0, e0, t0⟩ := hx 0 _ rfl
  obtain ⟨v1, y1, e1, t1⟩ := hx 1 _ rfl
  obtain ⟨a0, q0, _, w0⟩ := DataW.trod_int Try.underlying3 t0
  obtain ⟨a1, q1, _, w1⟩ := DataW.trod_int Try.underlying3 t1
  simp only [List.cons.injEq, and_true] at q0 q1
  subst q0 q1
  refine ⟨a0, a1, ?_, w0, w1⟩
  apply List.ext_getElem?
  intro j
  match j with
  | 0 => exact e0
  | 1 => exact e1
  | j + 2 => rw [List.getElem?_eq_none (by rw [hl]; show 2 ≤ j + 2; omega), List.getElem?_eq_none (by show 2 ≤ j + 2; omega)]
/-- what a waiter that came in is -/
def wfW (x : Wt) : Prop := (Lit.int .i64 x.r).wf = true ∧ (Lit.int .i64 x.p).wf = true
set_option maxRecDepth 100000 in
theorem open_acts {H : Type} {enc : TypeId × Value → H} {W : World} {fuel : Nat} {A : Option Addr} {len cap : Nat} {x : DataW H × List MemPlace} (h : DataW.trod enc Try.prog W 0 (fun _ => true) true fuel 22 [.slice A len cap] = some x) :
    len ≤ maxLen ∧ ∃ xs : List Act1, xs.length = len ∧ Holds W A 4 Act1.cells xs ∧ ∀ a ∈ xs, wfW a.w := by
  refine open_rows (c := Act1.cells) (wf := fun a => wfW a.w) Try.underlying22 cellsAct (by decide) (fun _ => rfl) ?_ h
  intro n cs x hx
  obtain ⟨ys, m, e1, e2, hlen, hyl, hf⟩ := DataW.trod_struct Try.underlying33 hx
  have h0 := hf 0 _ rfl
  have h1 := hf 1 _ rfl
  have h2 := hf 2 _ rfl
  change DataW.trod enc Try.prog W 0 (fun _ => true) true m 3 (List.take (Try.prog.cellsOf 3) (List.drop 0 cs)) = _ at h0
  change DataW.trod enc Try.prog W 0 (fun _ => true) true m 3 (List.take (Try.prog.cellsOf 3) (List.drop 1 cs)) = _ at h1
  change DataW.trod enc Try.prog W 0 (fun _ => true) true m 31 (List.take (Try.prog.cellsOf 31) (List.drop 2 cs)) = _ at h2
  rw [cellsI] at h0 h1
  rw [cellsWt] at h2
  rw [cellsAct] at hlen
  have hy3 : ys.length = 3 := hyl
  match cs, hlen with
  | [c0, c1, c2, c3], _ =>
    match ys, hy3 with
    | [y0, y1, y2], _ =>
      obtain ⟨a0, q0, _, _⟩ := DataW.trod_int Try.underlying3 h0
      obtain ⟨a1, q1, _, _⟩ := DataW.trod_int Try.underlying3 h1
      obtain ⟨r, p, q2, wr, wp⟩ := wt_cells h2
      simp only [List.drop_zero, List.take_succ_cons, List.take_zero, List.drop_succ_cons, List.cons.injEq, and_true] at q0 q1 q2
      obtain ⟨rfl, rfl⟩ := q2
      subst q0 q1
      exact ⟨⟨a0, a1, ⟨r, p⟩⟩, rfl, wr, wp⟩
theorem act_at {w w' : World} {A : Option Addr} {xs : List Act1} (h : Holds w A 4 Act1.cells xs) (hb : Below w.heap.size w w') {i : Nat} {a : Act1} (hi : xs[i]? = some a) :
    ∃ b o, A = some ⟨b, o, none⟩ ∧ b < w.heap.size ∧ w'.cell? ⟨b, o + i * 4, none⟩ = some (.int .i64 a.kind) ∧ w'.cell? ⟨b, o + i * 4 + 1, none⟩ = some (.int .i64 a.n) ∧ w'.cell? ⟨b, o + i * 4 + 2, none⟩ = some (.int .i64 a.w.r) ∧ w'.cell? ⟨b, o + i * 4 + 3, none⟩ = some (.int .i64 a.w.p) := by
  obtain ⟨b, o, e, hlt, hc⟩ := h.at_ hb hi
  exact ⟨b, o, e, hlt, hc 0 _ rfl, hc 1 _ rfl, hc 2 _ rfl, hc 3 _ rfl⟩
def byteC (x : Int) : List Value := [.int .u8 x]
theorem cellsB8 : Try.prog.cellsOf 5 = 1 := by kernel_rfl
theorem open_bytes {H : Type} {enc : TypeId × Value → H} {W : World} {fuel : Nat} {A : Option Addr} {len cap : Nat} {x : DataW H × List MemPlace} (h : DataW.trod enc Try.prog W 0 (fun _ => true) true fuel 49 [.slice A len cap] = some x) :
    len ≤ maxLen ∧ ∃ xs : List Int, xs.length = len ∧ Holds W A 1 byteC xs ∧ ∀ a ∈ xs, (0 ≤ a ∧ a ≤ 255) := by
  refine open_rows (c := byteC) (wf := fun a => 0 ≤ a ∧ a ≤ 255) Try.underlying49 cellsB8 (by decide) (fun _ => rfl) ?_ h
  intro n cs x hx
  obtain ⟨a0, q0, _, w0⟩ := DataW.trod_int Try.underlying5 hx
  exact ⟨a0, q0, bd_u8 w0⟩
theorem byte_at {w w' : World} {A : Option Addr} {xs : List Int} (h : Holds w A 1 byteC xs) (hb : Below w.heap.size w w') {i : Nat} {a : Int} (hi : xs[i]? = some a) :
    ∃ b o, A = some ⟨b, o, none⟩ ∧ b < w.heap.size ∧ w'.cell? ⟨b, o + i, none⟩ = some (.int .u8 a) := by
  obtain ⟨b, o, e, hlt, hc⟩ := h.at_ hb hi
  refine ⟨b, o, e, hlt, ?_⟩
  have := hc 0 _ rfl
  rwa [Nat.mul_one, Nat.add_zero] at this
end Go.Proofs.Ytgngaimbpnlkjaa

/- What came into the laws of layer 12, opened: rows of what is done, rows of bytes. -/
import Derived.Test.YtmihinpbgppjlaaArgs
import Derived.OpenShut
import Derived.Lib.SmallJoins
namespace Go.Proofs.Ytmihinpbgppjlaa
open Go.RowKit Go.ChangeShapes Go.WideShapes Go.Deep
set_option linter.unusedVariables false

theorem bd_u8 {a : Int} (h : (Lit.int .u8 a).wf = true) : 0 ≤ a ∧ a ≤ 255 := by
  simp only [Lit.wf, Bool.and_eq_true, decide_eq_true_eq] at h
  exact h
theorem cellsB8 : Try.prog.cellsOf 5 = 1 := by kernel_rfl
theorem Only.to_below12 {a b : World} (h : Only none_ a b) : Below a.heap.size a b := h.below (Nat.le_refl _) (fun _ _ s => s)
structure Act1 where
  kind : Int
  k : Int
  a : Bool
def Act1.cells (a : Act1) : List Value := [.int .i64 a.kind, .int .i64 a.k, .bool a.a]
abbrev Act1.val (a : Act1) : Value := .agg #[.int .i64 a.kind, .int .i64 a.k, .bool a.a]
instance : Inhabited Act1 := ⟨⟨0, 0, false⟩⟩
theorem cellsAct : Try.prog.cellsOf 33 = 3 := by kernel_rfl
theorem open_acts {H : Type} {enc : TypeId × Value → H} {W : World} {fuel : Nat} {A : Option Addr} {len cap : Nat} {x : DataW H × List MemPlace} (h : DataW.trod enc Try.prog W 0 (fun _ => true) true fuel 22 [.slice A len cap] = some x) :
    len ≤ maxLen ∧ ∃ xs : List Act1, xs.length = len ∧ Holds W A 3 Act1.cells xs ∧ ∀ a ∈ xs, (Lit.int .i64 a.k).wf = true := by
  refine open_rows (c := Act1.cells) (wf := fun a => (Lit.int .i64 a.k).wf = true) Try.underlying22 cellsAct (by decide) (fun _ => rfl) ?_ h
  intro n cs x hx
  obtain ⟨hl, m, hf⟩ := open_fields Try.underlying33 (by kernel_rfl) cellsAct hx
  obtain ⟨v0, y0, e0, t0⟩ := hf 0 _ rfl
  obtain ⟨v1, y1, e1, t1⟩ := hf 1 _ rfl
  obtain ⟨v2, y2, e2, t2⟩ := hf 2 _ rfl
  obtain ⟨a0, q0, _, _⟩ := DataW.trod_int Try.underlying3 t0
  obtain ⟨a1, q1, _, w2⟩ := DataW.trod_int Try.underlying3 t1
  obtain ⟨a2, q2, _⟩ := DataW.trod_bool Try.underlying4 t2
  simp only [List.cons.injEq, and_true] at q0 q1 q2
  subst q0 q1 q2
  refine ⟨⟨a0, a1, a2⟩, ?_, w2⟩
  apply List.ext_getElem?
  intro j
  match j with
  | 0 => exact e0
  | 1 => exact e1
  | 2 => exact e2
  | j + 3 => rw [List.getElem?_eq_none (by rw [hl]; show 3 ≤ j + 3; omega), List.getElem?_eq_none (by show 3 ≤ j + 3; omega)]
theorem act_at {w w' : World} {A : Option Addr} {xs : List Act1} (h : Holds w A 3 Act1.cells xs) (hb : Below w.heap.size w w') {i : Nat} {a : Act1} (hi : xs[i]? = some a) :
    ∃ b o, A = some ⟨b, o, none⟩ ∧ b < w.heap.size ∧ w'.cell? ⟨b, o + i * 3, none⟩ = some (.int .i64 a.kind) ∧ w'.cell? ⟨b, o + i * 3 + 1, none⟩ = some (.int .i64 a.k) ∧ w'.cell? ⟨b, o + i * 3 + 2, none⟩ = some (.bool a.a) := by
  obtain ⟨b, o, e, hlt, hc⟩ := h.at_ hb hi
  exact ⟨b, o, e, hlt, by rw [show o + i * 3 = o + (i * 3 + 0) from rfl]; exact hc 0 _ rfl, by rw [Nat.add_assoc]; exact hc 1 _ rfl, by rw [Nat.add_assoc]; exact hc 2 _ rfl⟩
theorem act_more {w : World} {sb so : Nat} {xs : List Act1} (h : Holds w (some ⟨sb, so, none⟩) 3 Act1.cells xs) {i : Nat} {a : Act1} (hi : xs[i]? = some a) :
    ∀ w', Below w.heap.size w w' → w'.cell? ⟨sb, so + i * 3, none⟩ = some (.int .i64 a.kind) ∧ w'.cell? ⟨sb, so + i * 3 + 1, none⟩ = some (.int .i64 a.k) ∧ w'.cell? ⟨sb, so + i * 3 + 2, none⟩ = some (.bool a.a) := by
  intro w' hb
  obtain ⟨b, o, e, hlt, c0, c1, c2⟩ := act_at h hb hi
  injection e with e
  injection e with e1 e2
  subst e1 e2
  exact ⟨c0, c1, c2⟩
def byteC (x : Int) : List Value := [.int .u8 x]
theorem open_bytes {H : Type} {enc : TypeId × Value → H} {W : World} {fuel : Nat} {A : Option Addr} {len cap : Nat} {x : DataW H × List MemPlace} (h : DataW.trod enc Try.prog W 0 (fun _ => true) true fuel 50 [.slice A len cap] = some x) :
    len ≤ maxLen ∧ ∃ xs : List Int, xs.length = len ∧ Holds W A 1 byteC xs ∧ ∀ a ∈ xs, (0 ≤ a ∧ a ≤ 255) := by
  refine open_rows (c := byteC) (wf := fun a => 0 ≤ a ∧ a ≤ 255) Try.underlying50 cellsB8 (by decide) (fun _ => rfl) ?_ h
  intro n cs x hx
  obtain ⟨a0, q0, _, w0⟩ := DataW.trod_int Try.underlying5 hx
  exact ⟨a0, q0, bd_u8 w0⟩
theorem byte_at {w w' : World} {A : Option Addr} {xs : List Int} (h : Holds w A 1 byteC xs) (hb : Below w.heap.size w w') {i : Nat} {a : Int} (hi : xs[i]? = some a) :
    ∃ b o, A = some ⟨b, o, none⟩ ∧ b < w.heap.size ∧ w'.cell? ⟨b, o + i, none⟩ = some (.int .u8 a) := by
  obtain ⟨b, o, e, hlt, hc⟩ := h.at_ hb hi
  refine ⟨b, o, e, hlt, ?_⟩
  have := hc 0 _ rfl
  rwa [Nat.mul_one, Nat.add_zero] at this
end Go.Proofs.Ytmihinpbgppjlaa

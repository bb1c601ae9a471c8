/- Rows of what is done, opened. -/
import Derived.Test.YtajphhalneaihaaAwake5
import Derived.Test.YtajphhalneaihaaArgs
namespace Go.Proofs.Ytajphhalneaihaa
open Go.RowKit Go.ChangeShapes Go.WideShapes Go.Deep
set_option linter.unusedVariables false

structure Act1 where
  kind : Int
  key : Int
  n : Int
def Act1.cells (a : Act1) : List Value := [.int .i64 a.kind, .int .i64 a.key, .int .i64 a.n]
instance : Inhabited Act1 := ⟨⟨0, 0, 0⟩⟩
theorem cellsAct : Try.prog.cellsOf 32 = 3 := by kernel_rfl

theorem open_acts {H : Type} {enc : TypeId × Value → H} {W : World} {fuel : Nat} {A : Option Addr} {len cap : Nat} {x : DataW H × List MemPlace} (h : DataW.trod enc Try.prog W 0 (fun _ => true) true fuel 22 [.slice A len cap] = some x) :
    len ≤ maxLen ∧ ∃ xs : List Act1, xs.length = len ∧ Holds W A 3 Act1.cells xs ∧ ∀ a ∈ xs, True := by
  refine open_rows (c := Act1.cells) (wf := fun _ => True) Try.underlying22 cellsAct (by decide) (fun _ => rfl) ?_ h
  intro n cs x hx
  obtain ⟨hl, m, hf⟩ := open_fields Try.underlying32 (by kernel_rfl) cellsAct hx
  obtain ⟨v0, y0, e0, t0⟩ := hf 0 _ rfl
  obtain ⟨v1, y1, e1, t1⟩ := hf 1 _ rfl
  obtain ⟨v2, y2, e2, t2⟩ := hf 2 _ rfl
  obtain ⟨a0, q0, _, _⟩ := DataW.trod_int Try.underlying3 t0
  obtain ⟨a1, q1, _, _⟩ := DataW.trod_int Try.underlying3 t1
  obtain ⟨a2, q2, _, _⟩ := DataW.trod_int Try.underlying3 t2
  simp only [List.cons.injEq, and_true] at q0 q1 q2
  subst q0 q1 q2
  refine ⟨⟨a0, a1, a2⟩, ?_, trivial⟩
  apply List.ext_getElem?
  intro j
  match j with
  | 0 => exact e0
  | 1 => exact e1
  | 2 => exact e2
  | j + 3 => rw [List.getElem?_eq_none (by rw [hl]; show 3 ≤ j + 3; omega), List.getElem?_eq_none (by show 3 ≤ j + 3; omega)]
theorem act_at {w w' : World} {A : Option Addr} {xs : List Act1} (h : Holds w A 3 Act1.cells xs) (hb : Below w.heap.size w w') {i : Nat} {a : Act1} (hi : xs[i]? = some a) :
    ∃ b o, A = some ⟨b, o, none⟩ ∧ b < w.heap.size ∧ w'.cell? ⟨b, o + i * 3, none⟩ = some (.int .i64 a.kind) ∧ w'.cell? ⟨b, o + i * 3 + 1, none⟩ = some (.int .i64 a.key) ∧ w'.cell? ⟨b, o + i * 3 + 2, none⟩ = some (.int .i64 a.n) := by
  obtain ⟨b, o, e, hlt, hc⟩ := h.at_ hb hi
  exact ⟨b, o, e, hlt, by rw [show o + i * 3 = o + (i * 3 + 0) from rfl]; exact hc 0 _ rfl, by rw [Nat.add_assoc]; exact hc 1 _ rfl, by rw [Nat.add_assoc]; exact hc 2 _ rfl⟩
theorem act_more {w : World} {sb so : Nat} {xs : List Act1} (h : Holds w (some ⟨sb, so, none⟩) 3 Act1.cells xs) {i : Nat} {a : Act1} (hi : xs[i]? = some a) :
    ∀ w', Below w.heap.size w w' → w'.cell? ⟨sb, so + i * 3, none⟩ = some (.int .i64 a.kind) ∧ w'.cell? ⟨sb, so + i * 3 + 1, none⟩ = some (.int .i64 a.key) ∧ w'.cell? ⟨sb, so + i * 3 + 2, none⟩ = some (.int .i64 a.n) := by
  intro w' hb
  obtain ⟨b, o, e, hlt, c0, c1, c2⟩ := act_at h hb hi
  injection e with e
  injection e with e1 e2
  subst e1 e2
  exact ⟨c0, c1, c2⟩
theorem pow_of (s : Nat) (h : s < 8) : Pow (2 * 2 ^ s) := ⟨s + 1, by omega, by omega, by rw [Nat.pow_succ, Nat.mul_comm]⟩
theorem bd_u8 {a : Int} (h : (Lit.int .u8 a).wf = true) : 0 ≤ a ∧ a ≤ 255 := by
  simp only [Lit.wf, Bool.and_eq_true, decide_eq_true_eq] at h
  exact h
theorem bd_u16 {a : Int} (h : (Lit.int .u16 a).wf = true) : 0 ≤ a ∧ a ≤ 65535 := by
  simp only [Lit.wf, Bool.and_eq_true, decide_eq_true_eq] at h
  exact h
/-- a table behind one step -/
def stepP (ps : List Pl) (a : Act1) : List Pl := if a.kind = 0 then (putP ps a.key a.n).1 else delP ps a.key
theorem stepP_good {ps : List Pl} (g : Good ps) (a : Act1) : Good (stepP ps a) := by
  unfold stepP
  split
  · exact (good_put g _ _).1
  · exact (good_del g _).1
theorem stepP_len {ps : List Pl} (g : Good ps) (a : Act1) : (stepP ps a).length = ps.length := by
  unfold stepP
  split
  · exact put_len _ _ _
  · exact del_len _ _ g
theorem size_of (a : Int) (h : 0 ≤ a) : ∃ P : Nat, wrap64 (2 * 2 ^ (a % 8).toNat) = (P : Int) ∧ Pow P := by
  obtain ⟨s, hs, e⟩ : ∃ s : Nat, s < 8 ∧ (a % 8).toNat = s := ⟨(a % 8).toNat, by omega, rfl⟩
  rw [e]
  refine ⟨2 * 2 ^ s, ?_, pow_of s hs⟩
  have : s = 0 ∨ s = 1 ∨ s = 2 ∨ s = 3 ∨ s = 4 ∨ s = 5 ∨ s = 6 ∨ s = 7 := by omega
  rcases this with rfl | rfl | rfl | rfl | rfl | rfl | rfl | rfl <;> decide +kernel
theorem size_of7 (a : Int) (h : 0 ≤ a) : ∃ P : Nat, wrap64 (4 * 2 ^ (a % 7).toNat) = (P : Int) ∧ Pow P ∧ 4 ≤ P := by
  obtain ⟨s, hs, e⟩ : ∃ s : Nat, s < 7 ∧ (a % 7).toNat = s := ⟨(a % 7).toNat, by omega, rfl⟩
  rw [e]
  have hp : 1 ≤ 2 ^ s := Nat.one_le_two_pow
  refine ⟨4 * 2 ^ s, ?_, by have := pow_of (s + 1) (by omega); rw [Nat.pow_succ] at this; rwa [show 2 * (2 ^ s * 2) = 4 * 2 ^ s by omega] at this, by omega⟩
  have : s = 0 ∨ s = 1 ∨ s = 2 ∨ s = 3 ∨ s = 4 ∨ s = 5 ∨ s = 6 := by omega
  rcases this with rfl | rfl | rfl | rfl | rfl | rfl | rfl <;> decide +kernel
end Go.Proofs.Ytajphhalneaihaa

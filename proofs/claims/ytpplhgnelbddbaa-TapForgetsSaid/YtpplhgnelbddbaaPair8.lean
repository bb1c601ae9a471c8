/- A pair of bytes by value, opened. -/
import Derived.Test.YtpplhgnelbddbaaActs8
import Derived.OpenShut
import Derived.Lib.SmallJoins
namespace Go.Proofs.Ytpplhgnelbddbaa
open Go.RowKit Go.ChangeShapes Go.WideShapes
set_option linter.unusedVariables false

theorem cellsPair : Try.prog.cellsOf 41 = 2 := by kernel_rfl
theorem cellsB : Try.prog.cellsOf 5 = 1 := by kernel_rfl
set_option maxRecDepth 100000 in
theorem open_pair (W : World) (base : Nat) (H : Type) (enc : TypeId × Value → H) (v : Value) (d : DataW H) (p : List MemPlace) (o : Value.okWide Try.prog W .any base 41 v) (h : DataW.Trod enc Try.prog W 0 (fun _ => true) true 41 v d p) :
    ∃ a b : Int, v = .agg #[.int .u8 a, .int .u8 b] ∧ (Lit.int .u8 a).wf = true ∧ (Lit.int .u8 b).wf = true := by
  simp only [Value.okWide, Try.underlying41] at o
  obtain ⟨cs, rfl, hsz, _⟩ := o
  rw [cellsPair] at hsz
  obtain ⟨c0, c1, rfl⟩ := Joins.array2 hsz
  obtain ⟨fuel, hf⟩ := h
  simp only [Value.cells] at hf
  obtain ⟨xs, m, _, _, _, hl, hx⟩ := DataW.trod_array Try.underlying41 hf
  match xs, hl with
  | [y0, y1], _ =>
    have k0 := hx 0 (by omega)
    have k1 := hx 1 (by omega)
    simp [cellsB] at k0 k1
    obtain ⟨a, ea, _, wa⟩ := DataW.trod_int Try.underlying5 k0
    obtain ⟨b, eb, _, wb⟩ := DataW.trod_int Try.underlying5 k1
    simp only [List.cons.injEq, and_true] at ea eb
    subst ea; subst eb
    exact ⟨a, b, rfl, wa, wb⟩

theorem below_only8 {w w' : World} (h : Below w.heap.size w w') : Only none_ w w' := ⟨h.os, h.tape, h.output, h.size, fun k hk _ => h.block k hk⟩
theorem next_apart {es : List En} (h : es.Pairwise (fun a b => a.next ≠ b.next)) {n m : Nat} {z y : En} (hz : es[n]? = some z) (hy : es[m]? = some y) (hn : n < m) : (z.next == y.next) = false := by
  have l1 := lt_of_get hz
  have l2 := lt_of_get hy
  have := List.pairwise_iff_getElem.1 h n m l1 l2 hn
  rw [List.getElem?_eq_getElem l1] at hz
  rw [List.getElem?_eq_getElem l2] at hy
  injection hz with hz
  injection hy with hy
  rw [hz, hy] at this
  simpa using this
theorem age_apart {es : List En} (h : es.Pairwise (fun a b => a.age < b.age)) {n m : Nat} {z y : En} (hz : es[n]? = some z) (hy : es[m]? = some y) (hn : n < m) : z.age < y.age := by
  have l1 := lt_of_get hz
  have l2 := lt_of_get hy
  have := List.pairwise_iff_getElem.1 h n m l1 l2 hn
  rw [List.getElem?_eq_getElem l1] at hz
  rw [List.getElem?_eq_getElem l2] at hy
  injection hz with hz
  injection hy with hy
  rw [hz, hy] at this
  exact this
end Go.Proofs.Ytpplhgnelbddbaa

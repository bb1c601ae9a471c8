/- Arguments that are slices, opened to cells: whatever their elements are. -/
import Derived.Test.YtofmbipedljdkaaHeap
import Derived.Test.YtofmbipedljdkaaChecked
import Derived.ProofKit
import Derived.OpenShut
import Derived.Deep.Slices
import Derived.Deep.Fields
namespace Go.Proofs.Ytofmbipedljdkaa
open Go.RowKit Go.ChangeShapes Go.WideShapes Go.Deep
set_option linter.unusedVariables false

/-- what a slice that came in holds: elements of so many cells each -/
def Holds {α : Type} (w : World) (A : Option Addr) (k : Nat) (c : α → List Value) (xs : List α) : Prop :=
  ∀ i a, xs[i]? = some a → ∃ b o, A = some ⟨b, o, none⟩ ∧ b < w.heap.size ∧ ∀ j v, (c a)[j]? = some v → w.cell? ⟨b, o + (i * k + j), none⟩ = some v

theorem spot_of {w : World} {a : Addr} {v : Value} (h : w.cell? a = some v) : a.spot = none := by
  unfold World.cell? at h
  split at h
  · split at h
    · cases h
    · rename_i k; simpa using k
  · cases h

theorem open_rows {H : Type} {enc : TypeId × Value → H} {P : Program} {W : World} {t e : TypeId} {α : Type} {k : Nat} {c : α → List Value} {wf : α → Prop} [Inhabited α]
    (ht : P.underlying t = some (.slice e)) (hC : P.cellsOf e = k) (h0 : 0 < k) (hk : ∀ a, (c a).length = k)
    (hp : ∀ n cs x, DataW.trod enc P W 0 (fun _ => true) true n e cs = some x → ∃ a, cs = c a ∧ wf a)
    {fuel : Nat} {A : Option Addr} {len cap : Nat} {x : DataW H × List MemPlace} (h : DataW.trod enc P W 0 (fun _ => true) true fuel t [.slice A len cap] = some x) :
    len ≤ maxLen ∧ ∃ xs : List α, xs.length = len ∧ Holds W A k c xs ∧ ∀ a ∈ xs, wf a := by
  rcases open_slice ht h with ⟨e1, _⟩ | ⟨a, len', cap', m, n, D, Pl, e1, _, hl, hm, hmm, _, hi⟩
  · simp at e1
    obtain ⟨rfl, rfl, rfl⟩ := e1
    exact ⟨Nat.zero_le _, [], rfl, fun i a h => by simp at h, fun a h => by cases h⟩
  · simp at e1
    obtain ⟨rfl, rfl, rfl⟩ := e1
    simp only [if_true] at hmm
    subst hmm
    have hx : ∀ i, i < len → ∃ y : α, W.cells? 0 (a.add (i * k)) k = some (c y) ∧ wf y := by
      intro i hlt
      obtain ⟨cs, hc, htr⟩ := hi i (by omega)
      obtain ⟨y, rfl, hw⟩ := hp _ _ _ htr
      rw [hC] at hc
      exact ⟨y, hc, hw⟩
    obtain ⟨f, hf⟩ := choose_lt hx
    refine ⟨by omega, (List.range len).map f, by simp, ?_, ?_⟩
    · intro i y hy
      have hlt : i < len := by have := lt_of_get hy; simpa using this
      simp [hlt] at hy
      subst hy
      have sp : a.spot = none := by
        obtain ⟨hc, _⟩ := hf 0 (by omega)
        obtain ⟨_, hcl, hat⟩ := World.cells?_some hc
        have h1 := hat 0 h0
        obtain ⟨v0, hv0⟩ : ∃ v, (c (f 0))[0]? = some v := ⟨_, List.getElem?_eq_getElem (by rw [hk]; exact h0)⟩
        rw [hv0] at h1
        have := spot_of h1
        simpa [Addr.add] using this
      obtain ⟨hc, _⟩ := hf i hlt
      obtain ⟨_, hcl, hat⟩ := World.cells?_some hc
      obtain ⟨b, o, spot⟩ := a
      simp only at sp
      subst sp
      have add_ : ∀ b o n, (Addr.mk b o none).add n = ⟨b, o + n, none⟩ := fun b o n => by
        unfold Addr.add
        split
        · rename_i z; rw [z]; rfl
        · rfl
      have cell : ∀ j v, (c (f i))[j]? = some v → W.cell? ⟨b, o + (i * k + j), none⟩ = some v := fun j v hv => by
        have : j < k := by have := lt_of_get hv; rw [hk] at this; exact this
        have h1 := hat j this
        rw [add_, add_, hv] at h1
        rw [← Nat.add_assoc]; exact h1
      obtain ⟨v0, hv0⟩ : ∃ v, (c (f i))[0]? = some v := ⟨_, List.getElem?_eq_getElem (by rw [hk]; exact h0)⟩
      exact ⟨b, o, rfl, World.block_lt_of_cell? W _ (cell 0 v0 hv0), cell⟩
    · intro y hy
      obtain ⟨i, hi', rfl⟩ := List.mem_map.1 hy
      exact (hf i (List.mem_range.1 hi')).2

/-- a struct of fields of one cell each: its cells, each with its own reading -/
theorem open_fields {H : Type} {enc : TypeId × Value → H} {P : Program} {W : World} {e : TypeId} {fs : Array Field} (he : P.underlying e = some (.struct fs)) (hone : oneCellFields P fs = true) (hC : P.cellsOf e = fs.size)
    {n : Nat} {cs : List Value} {x : DataW H × List MemPlace} (h : DataW.trod enc P W 0 (fun _ => true) true n e cs = some x) :
    cs.length = fs.size ∧ ∃ m, ∀ (j : Nat) (f : Field), fs[j]? = some f → ∃ v y, cs[j]? = some v ∧ DataW.trod enc P W 0 (fun _ => true) true m f.type [v] = some y := by
  obtain ⟨ys, m, _, _, hlen, hyl, hf⟩ := DataW.trod_struct he h
  refine ⟨by omega, m, fun j f hj => ?_⟩
  obtain ⟨ho, hk⟩ := hone_of hone j f hj
  have hjl : j < fs.size := (Array.getElem?_eq_some_iff.1 hj).1
  have h1 := hf j f hj
  rw [ho, hk] at h1
  rw [show (cs.drop j).take 1 = [cs[j]'(by omega)] by rw [List.drop_eq_getElem_cons (by omega)]; rfl, List.getElem?_eq_getElem (show j < ys.length by omega)] at h1
  exact ⟨_, _, List.getElem?_eq_getElem (by omega), h1⟩

theorem Holds.below {α : Type} {w w' : World} {A : Option Addr} {k : Nat} {c : α → List Value} {xs : List α} (h : Holds w A k c xs) (hb : Below w.heap.size w w') : Holds w' A k c xs := fun i a hi => by
  obtain ⟨b, o, rfl, hlt, hc⟩ := h i a hi
  exact ⟨b, o, rfl, Nat.lt_of_lt_of_le hlt hb.size, fun j v hv => (hb.cell (p := ⟨b, o + (i * k + j), none⟩) hlt).trans (hc j v hv)⟩
theorem Holds.at_ {α : Type} {w w' : World} {A : Option Addr} {k : Nat} {c : α → List Value} {xs : List α} (h : Holds w A k c xs) (hb : Below w.heap.size w w') {i : Nat} {a : α} (hi : xs[i]? = some a) :
    ∃ b o, A = some ⟨b, o, none⟩ ∧ b < w.heap.size ∧ ∀ j v, (c a)[j]? = some v → w'.cell? ⟨b, o + (i * k + j), none⟩ = some v := by
  obtain ⟨b, o, rfl, hlt, hc⟩ := h i a hi
  exact ⟨b, o, rfl, hlt, fun j v hv => (hb.cell (p := ⟨b, o + (i * k + j), none⟩) hlt).trans (hc j v hv)⟩
end Go.Proofs.Ytofmbipedljdkaa

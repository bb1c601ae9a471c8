/- Small facts of slices of waiters, and of who waits. -/
import Derived.Test.YtgngaimbpnlkjaaLw14
namespace Go.Proofs.Ytgngaimbpnlkjaa
open Go.RowKit
set_option linter.unusedVariables false

theorem wf_small {x : Int} (h1 : 0 ≤ x) (h2 : x ≤ 1000) : (Lit.int .i64 x).wf = true := by
  simp only [Lit.wf, Bool.and_eq_true, decide_eq_true_eq]
  show IntKind.i64.min ≤ x ∧ x ≤ IntKind.i64.max
  have e1 : IntKind.i64.min = -9223372036854775808 := by decide
  have e2 : IntKind.i64.max = 9223372036854775807 := by decide
  omega
theorem RdW.turned {w w' : World} {base : Nat} {v : Value} {xs : List Wt} (h : RdW w base v xs) {S : Nat → Prop} (o : Only S w w') (hn : ∀ g, v.ownBlock = some g → ¬ S g) : RdW w' base v xs := by
  obtain ⟨⟨a, cap, rfl, rd⟩, lt⟩ := h
  refine ⟨⟨a, cap, rfl, fun i x hx => ?_⟩, fun g hg => ⟨(lt g hg).1, Nat.lt_of_lt_of_le (lt g hg).2 o.size⟩⟩
  obtain ⟨g, o1, e, c1, c2⟩ := rd i x hx
  have : ¬ S g := hn g (by rw [e]; rfl)
  exact ⟨g, o1, e, o.cell c1 this, o.cell c2 this⟩
theorem RdW.still {w w' : World} {base : Nat} {v : Value} {xs : List Wt} (h : RdW w base v xs) (o : Only none_ w w') : RdW w' base v xs := h.turned o (fun _ _ s => s)
theorem RdW.base_le {w : World} {base : Nat} {v : Value} {xs : List Wt} (h : RdW w base v xs) {g : Nat} (hg : v.ownBlock = some g) : base ≤ g ∧ g < w.heap.size := h.late g hg
theorem len_rd {w : World} {base : Nat} {v : Value} {xs : List Wt} (h : RdW w base v xs) : ∃ a cap, v = .slice a xs.length cap := by
  obtain ⟨a, cap, e, _⟩ := h.reads
  exact ⟨a, cap, e⟩
theorem WG.wf {w : World} {p : Nat} {M : Nat → Prop} {room L : Nat} {ss : List Sx} (h : WG w p M room L ss) : ∀ s ∈ ss, wfW s.w := by
  obtain ⟨b, came, es, k, rfl, _⟩ := h.ex
  intro s hs
  unfold seats at hs
  obtain ⟨e, he, rfl⟩ := List.mem_map.1 hs
  exact k.wf e he
theorem WG.wfOf {w : World} {p : Nat} {M : Nat → Prop} {room L : Nat} {ss : List Sx} (h : WG w p M room L ss) (t : Int) : ∀ x ∈ ofL ss t, wfW x := by
  intro x hx
  unfold ofL at hx
  obtain ⟨s, hs, rfl⟩ := List.mem_map.1 hx
  exact h.wf s (List.mem_filter.1 hs).1
end Go.Proofs.Ytgngaimbpnlkjaa

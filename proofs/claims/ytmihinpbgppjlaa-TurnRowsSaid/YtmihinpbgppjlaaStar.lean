/- What lies in memory apart from each other: assertions with their blocks, side by side. -/
import Derived.Test.YtmihinpbgppjlaaHeap
import Derived.WalkKit
namespace Go.Proofs.Ytmihinpbgppjlaa
open Go.RowKit
set_option linter.unusedVariables false

/-- something in memory, and the blocks that it lies in: it holds on as long as none of them turns -/
structure Asr where
  at_ : World → (Nat → Prop) → Prop
  keep : ∀ {w w' : World} {M S : Nat → Prop}, at_ w M → Only S w w' → (∀ g, M g → ¬ S g) → at_ w' M
  lt : ∀ {w : World} {M : Nat → Prop}, at_ w M → ∀ g, M g → g < w.heap.size
/-- both, apart from each other -/
def Asr.and (A B : Asr) : Asr where
  at_ := fun w M => ∃ MA MB : Nat → Prop, A.at_ w MA ∧ B.at_ w MB ∧ (∀ g, MA g → ¬ MB g) ∧ ∀ g, M g ↔ (MA g ∨ MB g)
  keep := fun ⟨MA, MB, a, b, d, e⟩ o hn => ⟨MA, MB, A.keep a o (fun g hg => hn g ((e g).2 (.inl hg))), B.keep b o (fun g hg => hn g ((e g).2 (.inr hg))), d, e⟩
  lt := fun ⟨MA, MB, a, b, d, e⟩ g hg => ((e g).1 hg).elim (A.lt a g) (B.lt b g)
/-- a block known whole -/
def Asr.row (b : Nat) (t : TypeId) (cs : Array Value) : Asr where
  at_ := fun w M => Row w b t cs ∧ ∀ g, M g ↔ g = b
  keep := fun ⟨a, e⟩ o hn => ⟨o.row a (hn b ((e b).2 rfl)), e⟩
  lt := fun ⟨a, e⟩ g hg => by rw [(e g).1 hg]; exact a.lt
/-- nothing -/
def Asr.none : Asr where
  at_ := fun _ M => ∀ g, ¬ M g
  keep := fun a _ _ => a
  lt := fun a g hg => absurd hg (a g)

/-- it lies behind world w0, of which nothing has turned -/
def Sg (w0 w : World) (A : Asr) : Prop := (∃ M : Nat → Prop, A.at_ w M ∧ ∀ g, M g → w0.heap.size ≤ g) ∧ Only none_ w0 w
theorem Sg.only {w0 w : World} {A : Asr} (h : Sg w0 w A) : Only none_ w0 w := h.2
theorem Sg.still {w0 w w' : World} {A : Asr} (h : Sg w0 w A) (o : Only none_ w w') : Sg w0 w' A := by
  obtain ⟨⟨M, a, l⟩, k⟩ := h
  exact ⟨⟨M, A.keep a o (fun _ _ s => s), l⟩, k.idle o⟩
theorem Sg.fst {w0 w : World} {A B : Asr} (h : Sg w0 w (A.and B)) : Sg w0 w A := by
  obtain ⟨⟨M, ⟨MA, MB, a, b, d, e⟩, l⟩, k⟩ := h
  exact ⟨⟨MA, a, fun g hg => l g ((e g).2 (.inl hg))⟩, k⟩
theorem Sg.swap {w0 w : World} {A B : Asr} (h : Sg w0 w (A.and B)) : Sg w0 w (B.and A) := by
  obtain ⟨⟨M, ⟨MA, MB, a, b, d, e⟩, l⟩, k⟩ := h
  exact ⟨⟨M, ⟨MB, MA, b, a, fun g hb ha => d g ha hb, fun g => by rw [e]; exact Or.comm⟩, l⟩, k⟩
theorem Sg.snd {w0 w : World} {A B : Asr} (h : Sg w0 w (A.and B)) : Sg w0 w B := h.swap.fst
theorem Asr.assoc {A B C : Asr} {w : World} {M : Nat → Prop} (h : ((A.and B).and C).at_ w M) : (A.and (B.and C)).at_ w M := by
  obtain ⟨MAB, MC, ⟨MA, MB, a, b, d1, e1⟩, c, d2, e2⟩ := h
  refine ⟨MA, fun g => MB g ∨ MC g, a, ⟨MB, MC, b, c, fun g hb hc => d2 g ((e1 g).2 (.inr hb)) hc, fun g => Iff.rfl⟩, fun g ha hbc => ?_, fun g => ?_⟩
  · rcases hbc with hb | hc
    · exact d1 g ha hb
    · exact d2 g ((e1 g).2 (.inl ha)) hc
  · rw [e2, e1]; exact or_assoc
theorem Sg.assoc {w0 w : World} {A B C : Asr} (h : Sg w0 w ((A.and B).and C)) : Sg w0 w (A.and (B.and C)) := by
  obtain ⟨⟨M, a, l⟩, k⟩ := h
  exact ⟨⟨M, Asr.assoc a, l⟩, k⟩
theorem Sg.assoc2 {w0 w : World} {A B C : Asr} (h : Sg w0 w (A.and (B.and C))) : Sg w0 w ((A.and B).and C) := (h.swap.assoc.swap.assoc).swap
/-- the second one comes first -/
theorem Sg.up2 {w0 w : World} {A B C : Asr} (h : Sg w0 w (A.and (B.and C))) : Sg w0 w (B.and (A.and C)) := by
  have h1 := h.assoc2
  obtain ⟨⟨M, ⟨MAB, MC, hab, c, d, e⟩, l⟩, k⟩ := h1
  obtain ⟨MA, MB, a, b, d1, e1⟩ := hab
  exact Sg.assoc ⟨⟨M, ⟨MAB, MC, ⟨MB, MA, b, a, fun g hb ha => d1 g ha hb, fun g => by rw [e1]; exact Or.comm⟩, c, d, e⟩, l⟩, k⟩
/-- a new block -/
theorem Sg.fresh {w0 w : World} {A : Asr} (h : Sg w0 w A) (t : TypeId) (cs : Array Value) : Sg w0 (w.alloc (.cells cs t)) (A.and (Asr.row w.heap.size t cs)) := by
  obtain ⟨⟨M, a, l⟩, k⟩ := h
  have o := (Only.refl none_ w).alloc (.cells cs t)
  have kk := k.size
  refine ⟨⟨fun g => M g ∨ g = w.heap.size, ⟨M, fun g => g = w.heap.size, A.keep a o (fun _ _ s => s), ⟨Row.fresh w t cs, fun g => Iff.rfl⟩, fun g hg e => by have := A.lt a g hg; omega, fun g => Iff.rfl⟩, fun g hg => ?_⟩, k.idle o⟩
  rcases hg with hg | hg
  · exact l g hg
  · omega
/-- what a call leaves of the first, with the second beside it -/
theorem Asr.frame {w0 w w' : World} {A' B : Asr} {M MA MB : Nat → Prop} (hb : B.at_ w MB) (d : ∀ g, MA g → ¬ MB g) (e : ∀ g, M g ↔ (MA g ∨ MB g)) (l : ∀ g, M g → w0.heap.size ≤ g) (k : Only none_ w0 w)
    (h : (∃ M' : Nat → Prop, A'.at_ w' M' ∧ ∀ g, M' g → MA g ∨ w.heap.size ≤ g) ∧ Only MA w w') : Sg w0 w' (A'.and B) := by
  obtain ⟨⟨M', a, hm⟩, o⟩ := h
  have kk := k.size
  refine ⟨⟨fun g => M' g ∨ MB g, ⟨M', MB, a, B.keep hb o (fun g hg ha => d g ha hg), fun g hg hb' => ?_, fun g => Iff.rfl⟩, fun g hg => ?_⟩, k.trans o (fun i hi s => ?_)⟩
  · rcases hm g hg with q | q
    · exact d g q hb'
    · have := B.lt hb g hb'; omega
  · rcases hg with hg | hg
    · rcases hm g hg with q | q
      · exact l g ((e g).2 (.inl q))
      · omega
    · exact l g ((e g).2 (.inr hg))
  · have := l i ((e i).2 (.inl s))
    omega
theorem Sg.row {w0 w : World} {b : Nat} {t : TypeId} {cs : Array Value} (h : Sg w0 w (Asr.row b t cs)) : Row w b t cs := by
  obtain ⟨⟨M, ⟨a, _⟩, l⟩, k⟩ := h
  exact a
/-- one beside nothing -/
theorem Sg.alone {w0 w : World} {A : Asr} (h : Sg w0 w A) : Sg w0 w (A.and Asr.none) := by
  obtain ⟨⟨M, a, l⟩, k⟩ := h
  exact ⟨⟨M, ⟨M, fun _ => False, a, fun _ s => s, fun _ _ s => s, fun g => by simp⟩, l⟩, k⟩
end Go.Proofs.Ytmihinpbgppjlaa

/- A table and the document's own, beside each other. -/
import Derived.Test.YtajphhalneaihaaRxKeys
import Derived.Test.YtajphhalneaihaaActs5
namespace Go.Proofs.Ytajphhalneaihaa
open Go.RowKit
set_option linter.unusedVariables false

structure Both (w : World) (p b q a c d : Nat) (ps qs : List Pl) : Prop where
  one : Ix w p b ps
  ref : Ref w q a c d qs
  pq : p ≠ q
  pa : p ≠ a
  pc : p ≠ c
  pd : p ≠ d
  bq : b ≠ q
  ba : b ≠ a
  bc : b ≠ c
  bd : b ≠ d
/-- all blocks of both -/
abbrev six (p b a c d : Nat) : Nat → Prop := fun k => k = p ∨ k = b ∨ k = a ∨ k = c ∨ k = d
theorem Both.still {w w' : World} {p b q a c d : Nat} {ps qs : List Pl} (h : Both w p b q a c d ps qs) (o : Only none_ w w') : Both w' p b q a c d ps qs :=
  ⟨h.one.still o, h.ref.still o, h.pq, h.pa, h.pc, h.pd, h.bq, h.ba, h.bc, h.bd⟩
theorem Both.first {w w' : World} {p b q a c d : Nat} {ps qs ps' : List Pl} (h : Both w p b q a c d ps qs) (h1 : Ix w' p b ps') (o : Only (two p b) w w') : Both w' p b q a c d ps' qs := by
  have := h.pq; have := h.pa; have := h.pc; have := h.pd; have := h.bq; have := h.ba; have := h.bc; have := h.bd
  exact ⟨h1, h.ref.keep o (by simp only [Go.Proofs.Ytajphhalneaihaa.two]; omega) (by simp only [Go.Proofs.Ytajphhalneaihaa.two]; omega) (by simp only [Go.Proofs.Ytajphhalneaihaa.two]; omega) (by simp only [Go.Proofs.Ytajphhalneaihaa.two]; omega), h.pq, h.pa, h.pc, h.pd, h.bq, h.ba, h.bc, h.bd⟩
theorem Both.second {w w' : World} {p b q a c d : Nat} {ps qs qs' : List Pl} (h : Both w p b q a c d ps qs) (h1 : Ref w' q a c d qs') (o : Only (three a c d) w w') : Both w' p b q a c d ps qs' := by
  have := h.pq; have := h.pa; have := h.pc; have := h.pd; have := h.bq; have := h.ba; have := h.bc; have := h.bd
  exact ⟨h.one.keep o (by simp only [three]; omega) (by simp only [three]; omega), h1, h.pq, h.pa, h.pc, h.pd, h.bq, h.ba, h.bc, h.bd⟩
theorem Both.lt {w : World} {p b q a c d : Nat} {ps qs : List Pl} (h : Both w p b q a c d ps qs) : p < w.heap.size ∧ b < w.heap.size ∧ q < w.heap.size ∧ a < w.heap.size ∧ c < w.heap.size ∧ d < w.heap.size := by
  obtain ⟨ks, ns, x⟩ := h.ref
  exact ⟨h.one.head.lt, h.one.row.lt, x.head.lt, x.ris.lt, x.rk.lt, x.rn.lt⟩
theorem rlen_ref (q a c d : Nat) (ps : List Pl) (w : World) (h : Ref w q a c d ps) :
    Calls Try.prog 19 #[.pointer (some ⟨q, 0, none⟩)] w fun e w' => e = .returned (.int .i64 (cnt ps)) ∧ w = w' := by
  obtain ⟨ks, ns, x⟩ := h
  exact rlen_any q a c d ps ks ns w x
theorem far_neg {ps : List Pl} (g : Good ps) : farP ps (-1) = -1 := by
  unfold farP
  rw [if_neg]
  intro h
  have := g.right _ (findP_lt (-1) g.gap) h
  rw [findP_key g.gap h] at this
  omega
/-- a table behind one step of two kinds -/
def stepQ (ps : List Pl) (a : Act1) : List Pl := if a.kind = 0 then (putP ps a.key a.n).1 else if a.kind = 1 then delP ps a.key else ps
theorem stepQ_good {ps : List Pl} (g : Good ps) (a : Act1) : Good (stepQ ps a) := by
  unfold stepQ
  split
  · exact (good_put g _ _).1
  · split
    · exact (good_del g _).1
    · exact g
theorem mayB_no {n : Int} (h : mayB n = false) : ∀ m : Nat, n = m → ¬ Pow m := by
  rintro m rfl hp
  rw [(mayB_pow m).2 hp] at h
  cases h
theorem mayB_yes {n : Int} (h : mayB n = true) : ∃ m : Nat, n = m ∧ Pow m := by
  have : 2 ≤ n := by
    unfold mayB at h
    simp only [decide_eq_true_eq, List.mem_cons, List.not_mem_nil, or_false] at h
    omega
  refine ⟨n.toNat, by omega, (mayB_pow _).1 ?_⟩
  rw [show ((n.toNat : Nat) : Int) = n by omega]
  exact h
end Go.Proofs.Ytajphhalneaihaa

/- What goes lay in a list, and was not held; if nothing goes, all are held: plain. -/
import Derived.Test.YtpmhpamajkhhiaaBoth7
namespace Go.Proofs.Ytpmhpamajkhhiaa
open Go.RowKit
set_option linter.unusedVariables false

theorem lastOk_none {s : Sh} {k : Nat} (h : k < 2) (e : s.lastOk (k : Int) = none) : ∀ x ∈ s.lk k, s.h x = true := by
  intro x hx
  unfold Sh.lastOk at e
  rw [List.find?_eq_none] at e
  have := e x (by rw [lk_rev s h]; exact List.mem_reverse.2 hx)
  simpa using this
theorem all_nodup {s : Sh} (f : s.Fine) : (s.l0 ++ s.l1).Nodup := List.nodup_append.2 ⟨f.nd0, f.nd1, fun a ha b hb e => f.apart a ha (e ▸ hb)⟩
theorem victim_none {c : Sc} (f : c.Fine) (e : c.victim = none) : c.s.l0.length + c.s.l1.length ≤ c.s.heldL.length := by
  have e0 : c.s.lastOk 0 = none ∧ c.s.lastOk 1 = none := by
    unfold Sc.victim at e
    revert e
    cases c.s.lastOk 0 <;> cases c.s.lastOk 1 <;> simp
  rw [← List.length_append]
  refine sub_len (all_nodup f.s) (fun x hx => ?_)
  rcases List.mem_append.1 hx with h | h
  · exact List.mem_filter.2 ⟨List.mem_range.2 (f.s.lt0 x h), lastOk_none (k := 0) (by decide) e0.1 x h⟩
  · exact List.mem_filter.2 ⟨List.mem_range.2 (f.s.lt1 x h), lastOk_none (k := 1) (by decide) e0.2 x h⟩
theorem victim_some {c : Sc} (f : c.Fine) {x : Nat} (e : c.victim = some x) : c.s.heldL.length < c.s.l0.length + c.s.l1.length := by
  obtain ⟨hx, hl, hh⟩ := victim_in f e
  have m := lst_ne.1 hl
  have : (x :: c.s.heldL).length ≤ (c.s.l0 ++ c.s.l1).length := by
    refine sub_len (List.nodup_cons.2 ⟨fun q => ?_, List.nodup_range.filter _⟩) (fun y hy => ?_)
    · have := (List.mem_filter.1 q).2
      rw [hh] at this
      cases this
    · rcases List.mem_cons.1 hy with rfl | hy
      · exact List.mem_append.2 m
      · exact List.mem_append.2 (lst_ne.1 (f.held y (List.mem_filter.1 hy).2))
  simp at this
  omega
theorem victim_finds {c : Sc} (f : c.Fine) {x : Nat} (e : c.victim = some x) : findI (ints c.s.heldL) x = -1 ∧ (0 ≤ findI (ints c.s.l0) x ∨ 0 ≤ findI (ints c.s.l1) x) := by
  obtain ⟨hx, hl, hh⟩ := victim_in f e
  refine ⟨findI_no (fun q => ?_), ?_⟩
  · have := held_mem (s := c.s) hx
    rw [hh] at this
    exact absurd q (of_decide_eq_false this)
  · rcases lst_ne.1 hl with m | m
    · exact .inl (by rw [findI_in m]; omega)
    · exact .inr (by rw [findI_in m]; omega)
theorem own_len {w : World} {b : Nat} {a : Option Addr} {n k : Nat} {xs : List Int} (h : OwnsInts w b (.slice a n k) xs) : n = xs.length := by
  obtain ⟨a', c', e, _⟩ := Reads.of_owns h
  injection e
end Go.Proofs.Ytpmhpamajkhhiaa

/- ReplayHeld, its plain part: who goes, and who stays. -/
import Derived.Test.YtlfnncahhbbmpaaGreatDoorQI
import Derived.Test.YtlfnncahhbbmpaaGreatDoorQB
namespace Go.Proofs.YtlfnncahhbbmpaaGreatDoor
open Go.RowKit
set_option linter.unusedVariables false
theorem find_tail {l : List Int} {p : Int → Bool} {x : Int} (nd : l.Nodup) (h : l.reverse.find? p = some x) : x ∈ l ∧ ∀ y ∈ l.drop (l.idxOf x + 1), p y = false := by
  obtain ⟨hp, ps, bs, e, hn⟩ := List.find?_eq_some_iff_append.1 h
  have e2 : l = bs.reverse ++ x :: ps.reverse := by
    have := congrArg List.reverse e
    rw [List.reverse_reverse] at this
    rw [this]; simp
  have nb : x ∉ bs.reverse := by
    rw [e2] at nd
    have := (List.nodup_append.1 nd).2.2
    exact fun q => this x q x (by simp) rfl
  have ix : l.idxOf x = bs.reverse.length := by
    rw [e2, List.idxOf_append, if_neg nb, List.idxOf_cons_self]
    omega
  refine ⟨by rw [e2]; simp, fun y hy => ?_⟩
  rw [ix, e2] at hy
  have e3 : (bs.reverse ++ x :: ps.reverse).drop (bs.reverse.length + 1) = ps.reverse := by
    have e4 : bs.reverse ++ x :: ps.reverse = (bs.reverse ++ [x]) ++ ps.reverse := by simp
    rw [e4]
    exact List.drop_left' (by simp)
  rw [e3] at hy
  have := hn y (List.mem_reverse.1 hy)
  simpa using this
theorem sub_lenI : ∀ {l m : List Int}, l.Pairwise (· ≠ ·) → (∀ x ∈ l, x ∈ m) → l.length ≤ m.length
  | [], _, _, _ => Nat.zero_le _
  | x :: l, m, hl, h => by
    have hl := List.pairwise_cons.1 hl
    have hx := h x (by simp)
    have := sub_lenI (l := l) (m := m.erase x) hl.2 (fun y hy => by
      have hne : y ≠ x := fun e => hl.1 y hy e.symm
      exact (List.mem_erase_of_ne hne).2 (h y (by simp [hy])))
    have e := List.length_erase_of_mem hx
    have : 0 < m.length := List.length_pos_of_mem hx
    simp only [List.length_cons]
    omega
structure CaFacts (b : Ca) : Prop where
  nd0 : b.l0.Nodup
  nd1 : b.l1.Nodup
  apart : ∀ x, x ∈ b.l0 → x ∉ b.l1
  hin : ∀ x ∈ b.h, x ∈ b.l0 ∨ x ∈ b.l1
  len : b.l0.length + b.l1.length ≤ b.n
  want : b.want ≤ b.n
  n64 : b.n ≤ 64
  up : b.h.Pairwise (· < ·)
  miss : b.miss < 64
  hits : b.hits < 64
theorem CaOk.facts {b : Ca} (h : CaOk b) : CaFacts b := by
  obtain ⟨⟨ss, c, hb⟩, _⟩ := h
  have bl := hb.bl
  have f := hb.f
  constructor
  · rw [bl.l0, List.Nodup, List.pairwise_map]
    exact List.Pairwise.imp_of_mem (R := fun (a d : Nat) => a ≠ d) (fun {a d} ha hd q e => q (bl.inj a d (.inl ha) (.inl hd) e)) (show c.s.l0.Nodup from f.s.nd0)
  · rw [bl.l1, List.Nodup, List.pairwise_map]
    exact List.Pairwise.imp_of_mem (R := fun (a d : Nat) => a ≠ d) (fun {a d} ha hd q e => q (bl.inj a d (.inr ha) (.inr hd) e)) (show c.s.l1.Nodup from f.s.nd1)
  · intro x h0 h1
    rw [bl.l0] at h0
    rw [bl.l1] at h1
    obtain ⟨i, hi, e⟩ := List.mem_map.1 h0
    obtain ⟨j, hj, e2⟩ := List.mem_map.1 h1
    have := bl.inj i j (.inl hi) (.inr hj) (by rw [e, e2])
    subst this
    exact f.s.apart i hi hj
  · intro x hx
    obtain ⟨i, hi, e⟩ := (bl.hm x).1 hx
    have := (bl.inL_iff x).2 ⟨i, lst_ne.1 (f.held i hi), e⟩
    exact Ca.inL_mem this
  · rw [bl.len0, bl.len1, bl.n]; exact hb.len_n
  · rw [bl.want, bl.n]; exact f.want
  · rw [bl.n]; exact f.s.n64
  · exact bl.up
  · rw [bl.miss]; exact f.miss
  · rw [bl.hits]; exact f.hits
/-- who goes is the last that isn't held of a list -/
theorem victim_last {b : Ca} (f : CaFacts b) {x : Int} (h : b.victim = some x) :
    x ∉ b.h ∧ ((x ∈ b.l0 ∧ ∀ y ∈ b.l0.drop (b.l0.idxOf x + 1), y ∈ b.h) ∨ (x ∉ b.l0 ∧ x ∈ b.l1 ∧ ∀ y ∈ b.l1.drop (b.l1.idxOf x + 1), y ∈ b.h)) := by
  have A : ∀ a, b.last b.l0 = some a → a ∉ b.h ∧ a ∈ b.l0 ∧ ∀ y ∈ b.l0.drop (b.l0.idxOf a + 1), y ∈ b.h := fun a ha => by
    have t := find_tail f.nd0 ha
    exact ⟨of_decide_eq_true (p := a ∉ b.h) (List.find?_some (p := fun x => decide (x ∉ b.h)) ha), t.1, fun y hy => Classical.byContradiction fun q => by have := t.2 y hy; simp [q] at this⟩
  have B : ∀ a, b.last b.l1 = some a → a ∉ b.h ∧ a ∈ b.l1 ∧ ∀ y ∈ b.l1.drop (b.l1.idxOf a + 1), y ∈ b.h := fun a ha => by
    have t := find_tail f.nd1 ha
    exact ⟨of_decide_eq_true (p := a ∉ b.h) (List.find?_some (p := fun x => decide (x ∉ b.h)) ha), t.1, fun y hy => Classical.byContradiction fun q => by have := t.2 y hy; simp [q] at this⟩
  have fa : ∀ a, b.last b.l0 = some a → a = x → _ := fun a ha e => by
    subst e
    exact (show a ∉ b.h ∧ ((a ∈ b.l0 ∧ ∀ y ∈ b.l0.drop (b.l0.idxOf a + 1), y ∈ b.h) ∨ (a ∉ b.l0 ∧ a ∈ b.l1 ∧ ∀ y ∈ b.l1.drop (b.l1.idxOf a + 1), y ∈ b.h)) from ⟨(A a ha).1, .inl (A a ha).2⟩)
  have fb : ∀ a, b.last b.l1 = some a → a = x → x ∉ b.h ∧ ((x ∈ b.l0 ∧ ∀ y ∈ b.l0.drop (b.l0.idxOf x + 1), y ∈ b.h) ∨ (x ∉ b.l0 ∧ x ∈ b.l1 ∧ ∀ y ∈ b.l1.drop (b.l1.idxOf x + 1), y ∈ b.h)) := fun a ha e => by
    subst e
    exact ⟨(B a ha).1, .inr ⟨fun q => f.apart a q (B a ha).2.1, (B a ha).2⟩⟩
  unfold Ca.victim at h
  cases ea : b.last b.l0 with
  | none =>
    rw [ea] at h
    cases eb : b.last b.l1 with
    | none => rw [eb] at h; cases h
    | some d => rw [eb] at h; exact fb d eb (Option.some.inj h)
  | some a =>
    rw [ea] at h
    cases eb : b.last b.l1 with
    | none => rw [eb] at h; have e := Option.some.inj h; subst e; exact fa a ea rfl
    | some d =>
      rw [eb] at h
      have e := Option.some.inj h
      have : b.pick a d = a ∨ b.pick a d = d := by
        unfold Ca.pick
        split
        · split
          · exact .inl rfl
          · exact .inr rfl
        · split
          · exact .inl rfl
          · exact .inr rfl
      rcases this with q | q
      · rw [q] at e; subst e; exact fa a ea rfl
      · rw [q] at e; exact fb d eb e
theorem front_keep {b : Ca} (x : Int) (k : Nat) {y : Int} (h : y ∈ b.l0 ∨ y ∈ b.l1) : y ∈ (b.front x k).l0 ∨ y ∈ (b.front x k).l1 := by
  unfold Ca.front
  by_cases e : y = x
  · subst e
    split
    · exact .inl (by simp)
    · exact .inr (by simp)
  · split
    · exact h.imp (fun q => List.mem_cons_of_mem _ ((List.mem_erase_of_ne e).2 q)) (fun q => (List.mem_erase_of_ne e).2 q)
    · exact h.imp (fun q => (List.mem_erase_of_ne e).2 q) (fun q => List.mem_cons_of_mem _ ((List.mem_erase_of_ne e).2 q))
/-- a held block is in no longer only if it goes -/
theorem held_stays {m : Mo} (h : CaOk m.ca) {e : Evn} (q : m.can e = true) {x : Int} (hx : x ∈ m.ca.h) : (x ∈ (m.next e).ca.l0 ∨ x ∈ (m.next e).ca.l1) ∨ (e.k = 7 ∧ x = e.b) := by
  have f := h.facts
  have hi := f.hin x hx
  rcases kinds e.k with k | k | k | k | k | k | k | k | k | k | k | k
  · rw [(kind1 (m := m) k).2]; exact .inl hi
  · rw [(kind2 (m := m) k).2]
    have kp := Ca.hitW_keeps m.ca e.b
    exact .inl (front_keep e.b _ (by rw [kp.2.2.1, kp.2.2.2.1]; exact hi))
  · rw [(kind3 (m := m) k).2]
    have kp := Ca.missed_keeps m.ca e.l
    refine .inl ?_
    show x ∈ (m.ca.missed e.l).l0 ∨ x ∈ (m.ca.missed e.l).l1
    rw [kp.2.2.1, kp.2.2.2.1]; exact hi
  · rw [(kind4 (m := m) k).2]; exact .inl (front_keep e.b _ hi)
  · rw [(kind5 (m := m) k).2]; exact .inl hi
  · rw [(kind6 (m := m) k).1] at q
    have v := victim_last f (of_decide_eq_true q)
    have ne : x ≠ e.b := fun z => v.1 (z ▸ hx)
    rw [(kind6 (m := m) k).2]
    exact .inl (hi.imp (fun z => (List.mem_erase_of_ne ne).2 z) (fun z => (List.mem_erase_of_ne ne).2 z))
  · by_cases ne : x = e.b
    · exact .inr ⟨k, ne⟩
    · rw [(kind7 (m := m) k).2]
      exact .inl (hi.imp (fun z => (List.mem_erase_of_ne ne).2 z) (fun z => (List.mem_erase_of_ne ne).2 z))
  · rw [(kind8 (m := m) k).2]; exact .inl hi
  · rw [(kind9 (m := m) k).2]; exact .inl hi
  · rw [(kind10 (m := m) k).2]; exact .inl hi
  · rw [(kind11 (m := m) k).2]; exact .inl hi
  · rw [kind_no k] at q; cases q
end Go.Proofs.YtlfnncahhbbmpaaGreatDoor

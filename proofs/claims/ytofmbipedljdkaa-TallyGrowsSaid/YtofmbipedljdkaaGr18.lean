/- Demands add up as before: plain facts. No condition but what each says. -/
import Derived.Test.YtofmbipedljdkaaOp18
namespace Go.Proofs.Ytofmbipedljdkaa
open Go.RowKit
set_option linter.unusedVariables false

structure Ta.Sums (t : Ta) : Prop where
  d : t.n 0 = t.n 1 + t.n 2 + t.n 3 + t.n 4
  a : t.n 5 = t.n 6 + t.n 7 + t.n 8 + t.n 9
def headOf (k : Nat) : Nat := if 5 < k then 5 else 0
theorem held_small {a : Nat} (h : held a ≠ 18446744073709551615) : held a = a := by
  unfold held at h ⊢
  split at h
  · rename_i c; rw [if_pos c]
  · exact absurd rfl h
theorem Ta.not_held {t : Ta} (h : t.isHeld = false) (i : Nat) (hi : i < 10) : t.n i ≠ 18446744073709551615 := by
  intro e
  rw [Ta.held_yes hi e] at h
  cases h
/-- what both notes make of a count -/
theorem grown (t : Ta) (ht : t.Wf) (k n i : Nat) (hi : i < 10) (hk : k < 10) (h : ((t.more k n).more (headOf k : Nat) n).isHeld = false) :
    ((t.more k n).more (headOf k : Nat) n).n i = t.n i + (if i = k then n else 0) + (if i = headOf k then n else 0) := by
  have hh : headOf k < 10 := by unfold headOf; split <;> omega
  have e := Ta.not_held h i hi
  unfold Ta.more at e ⊢
  rw [if_pos (by omega), if_pos (by omega)] at e ⊢
  have e' : held (held (t.n i + if i = ((k : Nat) : Int).toNat then n else 0) + if i = ((headOf k : Nat) : Int).toNat then n else 0) ≠ 18446744073709551615 := e
  show held (held (t.n i + if i = ((k : Nat) : Int).toNat then n else 0) + if i = ((headOf k : Nat) : Int).toNat then n else 0) = _
  rw [held_assoc] at e' ⊢
  rw [Int.toNat_natCast, Int.toNat_natCast] at e' ⊢
  have e2 := held_small e'
  rw [e2]
  rw [e2] at e'
  have : held ((if i = k then n else 0) + if i = headOf k then n else 0) = (if i = k then n else 0) + if i = headOf k then n else 0 := by
    apply held_small
    intro q
    rw [q] at e2 e'
    unfold held at e2
    split at e2 <;> omega
  rw [this]
  omega
structure Grows (t v : Ta) (k : Nat) : Prop where
  sums : v.Sums
  adds : v.adds = true
  gone : v.gone 0 0 = true
  up : ∀ j, j < 10 → t.n j ≤ v.n j
  same : ∀ j, j < 10 → j ≠ k → j ≠ headOf k → v.n j = t.n j
theorem grows {t : Ta} (ht : t.Wf) (hs : t.Sums) {k n : Nat} (h1 : 1 ≤ k) (h9 : k ≤ 9) (h5 : k ≠ 5) (h : ((t.more k n).more (headOf k : Nat) n).isHeld = false) : Grows t ((t.more k n).more (headOf k : Nat) n) k := by
  have g := fun i hi => grown t ht k n i hi (by omega) h
  have wv : ((t.more k n).more (headOf k : Nat) n).Wf := Ta.more_wf (Ta.more_wf ht _ _) _ _
  generalize (t.more k n).more (headOf k : Nat) n = v at *
  have hd := hs.d
  have ha := hs.a
  have sd : v.n 0 = v.n 1 + v.n 2 + v.n 3 + v.n 4 := by
    rw [g 0 (by omega), g 1 (by omega), g 2 (by omega), g 3 (by omega), g 4 (by omega)]
    unfold headOf
    by_cases c : 5 < k
    · rw [if_pos c]
      have : k = 6 ∨ k = 7 ∨ k = 8 ∨ k = 9 := by omega
      rcases this with rfl | rfl | rfl | rfl <;> simp <;> omega
    · rw [if_neg c]
      have : k = 1 ∨ k = 2 ∨ k = 3 ∨ k = 4 := by omega
      rcases this with rfl | rfl | rfl | rfl <;> simp <;> omega
  have sa : v.n 5 = v.n 6 + v.n 7 + v.n 8 + v.n 9 := by
    rw [g 5 (by omega), g 6 (by omega), g 7 (by omega), g 8 (by omega), g 9 (by omega)]
    unfold headOf
    by_cases c : 5 < k
    · rw [if_pos c]
      have : k = 6 ∨ k = 7 ∨ k = 8 ∨ k = 9 := by omega
      rcases this with rfl | rfl | rfl | rfl <;> simp <;> omega
    · rw [if_neg c]
      have : k = 1 ∨ k = 2 ∨ k = 3 ∨ k = 4 := by omega
      rcases this with rfl | rfl | rfl | rfl <;> simp <;> omega
  refine ⟨⟨sd, sa⟩, ?_, ?_, ?_, ?_⟩
  · unfold Ta.adds
    rw [v.tot4 wv]
    have := wv 0
    rw [held_of_lt (n := v.n 1 + v.n 2) (by omega), held_of_lt (n := v.n 1 + v.n 2 + v.n 3) (by omega), held_of_lt (by omega)]
    simpa using sd
  · unfold Ta.gone
    rw [v.tot4 wv]
    have := wv 5
    rw [Nat.add_zero, Nat.add_zero]
    rw [held_of_lt (n := v.n 6 + v.n 7) (by omega), held_of_lt (n := v.n 6 + v.n 7 + v.n 8) (by omega), held_of_lt (n := v.n 6 + v.n 7 + v.n 8 + v.n 9) (by omega)]
    repeat (rw [held_of_lt (n := v.n 6 + v.n 7 + v.n 8 + v.n 9) (by omega)])
    simpa using sa
  · intro j hj
    rw [g j hj]
    omega
  · intro j hj a b
    rw [g j hj, if_neg a, if_neg b]; omega
theorem Ta.zero_sums : (⟨fun _ => 0⟩ : Ta).Sums := ⟨rfl, rfl⟩
end Go.Proofs.Ytofmbipedljdkaa

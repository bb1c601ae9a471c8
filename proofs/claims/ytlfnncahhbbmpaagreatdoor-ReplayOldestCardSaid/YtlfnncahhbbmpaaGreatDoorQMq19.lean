/- ReplayMisses, its plain part: nothing enters, so nothing is hit, and Want is counted up. -/
import Derived.Test.YtlfnncahhbbmpaaGreatDoorQI
namespace Go.Proofs.YtlfnncahhbbmpaaGreatDoor
open Go.RowKit
set_option linter.unusedVariables false
def opt19 (b n : Int) : Opt := ⟨b, n, 1, 16, 8, 4, 4, 3, 8, 32, 4, 8, 16, 4⟩
theorem opt19_may {b n : Int} (h0 : 1 ≤ b ∧ b ≤ 256) (h : 1 ≤ n ∧ n ≤ 64) : (opt19 b n).mayB = true := decide_eq_true (by simp only [opt19, Opt.MayC]; omega)
structure Calm (m : Mo) (n W : Nat) : Prop where
  l0 : m.ca.l0 = []
  l1 : m.ca.l1 = []
  h : m.ca.h = []
  hits : m.ca.hits = 0
  want : m.ca.want = W
  bot : m.ca.bot = 1
  nn : m.ca.n = n
  le : W ≤ n
theorem calm_new (b : Int) (n : Nat) : Calm (newMo (opt19 b n)) n 0 := ⟨rfl, rfl, rfl, rfl, rfl, rfl, Int.toNat_natCast n, Nat.zero_le _⟩
def calmW (W n : Nat) (e : Evn) : Nat := if e.k = 3 ∧ e.l = 0 then min (W + 1) n else W
theorem calm_same {m m' : Mo} {n W : Nat} (h : Calm m n W) (e : m'.ca = m.ca) : Calm m' n W := by
  exact ⟨by rw [e]; exact h.l0, by rw [e]; exact h.l1, by rw [e]; exact h.h, by rw [e]; exact h.hits, by rw [e]; exact h.want, by rw [e]; exact h.bot, by rw [e]; exact h.nn, h.le⟩
theorem calm_next {m : Mo} {n W : Nat} (h : Calm m n W) {e : Evn} (k : e.k = 3 ∨ e.k = 1 ∨ e.k = 9 ∨ e.k = 10 ∨ e.k = 11) : Calm (m.next e) n (calmW W n e) := by
  have other : ∀ {m' : Mo}, m.next e = m' → m'.ca = m.ca → e.k ≠ 3 → Calm (m.next e) n (calmW W n e) := fun {m'} e1 e2 e3 => by
    unfold calmW
    rw [if_neg (fun q => e3 q.1), e1]
    exact calm_same h e2
  rcases k with k | k | k | k | k
  · rw [(kind3 (m := m) k).2]
    unfold calmW Ca.missed
    by_cases hl : e.l = 0
    · rw [if_pos hl, if_pos ⟨k, hl⟩]
      have nw : (Ca.newWant { m.ca with miss := m.ca.miss + 1 }) = min (W + 1) n := by
        unfold Ca.newWant
        dsimp only
        rw [h.hits, h.bot, h.want, h.nn, if_pos (by omega)]
      unfold Ca.weigh
      dsimp only
      split
      · exact ⟨h.l0, h.l1, h.h, by show m.ca.hits / 2 = 0; rw [h.hits], nw, h.bot, h.nn, Nat.min_le_right _ _⟩
      · exact ⟨h.l0, h.l1, h.h, h.hits, nw, h.bot, h.nn, Nat.min_le_right _ _⟩
    · rw [if_neg hl, if_neg (fun q => hl q.2)]
      exact calm_same h rfl
  · exact other (kind1 k).2 rfl (by omega)
  · exact other (kind9 k).2 rfl (by omega)
  · exact other (kind10 k).2 rfl (by omega)
  · exact other (kind11 k).2 rfl (by omega)
end Go.Proofs.YtlfnncahhbbmpaaGreatDoor

/- One who reads block by block: what a read makes of the pace, told by the run's end and how many runs there were. -/
import Derived.Test.YtlpijieimidnoaaAmpRead
namespace Go.Proofs.Ytlpijieimidnoaa

/-- ahead of read i: the last run's end e, and k the next run's length, but for the degree -/
def Pace (d : Int) (i : Nat) (e k : Int) (g : Fl) : Prop :=
  (i = 0 ∧ e = 1 ∧ k = 1 ∧ g = ⟨0, 0, 1, 0⟩) ∨ (1 ≤ i ∧ i < 256 ∧ (i : Int) < e ∧ e ≤ 256 ∧ 2 ≤ k ∧ k ≤ (i : Int) + 1 ∧ g = ⟨i, e, min (k - 1) d, 0⟩) ∨ (i = 256 ∧ 1 ≤ e ∧ e ≤ 256 ∧ 1 ≤ k ∧ k ≤ 300)

theorem pace_next {d : Int} {i : Nat} {e k : Int} {g : Fl} (d1 : 1 ≤ d) (d16 : d ≤ 16) (hi : i < 256) (h : Pace d i e k g) :
    g.readC 1 d 256 = 0 ∧ (g.readF 1 d 256).n = (i : Int) + 1 ∧ 1 ≤ e ∧ e ≤ 256 ∧ 1 ≤ k ∧ k ≤ (i : Int) + 1 ∧
    ((((i : Int) + 1 < e ∨ (¬ (i : Int) + 1 < e ∧ e = 256)) ∧ g.readR 1 d 256 = ⟨0, 0⟩ ∧ Pace d (i + 1) e k (g.readF 1 d 256)) ∨
     (¬ (i : Int) + 1 < e ∧ e ≠ 256 ∧ g.readR 1 d 256 = ⟨e, min k (min d (256 - e))⟩ ∧ Pace d (i + 1) (e + min k (min d (256 - e))) (k + 1) (g.readF 1 d 256))) := by
  have may : g.May d 256 := by
    rcases h with ⟨rfl, rfl, rfl, rfl⟩ | ⟨h1, h2, h3, h4, h5, h6, rfl⟩ | ⟨rfl, _⟩
    · constructor <;> (try dsimp only) <;> omega
    · constructor <;> (try dsimp only) <;> omega
    · omega
  have room : g.n + 1 ≤ 256 := by
    rcases h with ⟨rfl, rfl, rfl, rfl⟩ | ⟨h1, h2, h3, h4, h5, h6, rfl⟩ | ⟨rfl, _⟩
    · dsimp only; omega
    · dsimp only; omega
    · omega
  have rc : g.readC 1 d 256 = 0 := by unfold Fl.readC; rw [if_pos ⟨may, by omega, by omega⟩, if_pos room]
  have rf : g.readF 1 d 256 = (g.moved 1 d).askF 256 := by unfold Fl.readF; rw [if_pos rc]
  have rr : g.readR 1 d 256 = (g.moved 1 d).askR 256 := by unfold Fl.readR; rw [if_pos rc]
  rw [rc, rf, rr]
  rcases h with ⟨rfl, rfl, rfl, rfl⟩ | ⟨h1, h2, h3, h4, h5, h6, rfl⟩ | ⟨rfl, _⟩
  · have m : (Fl.mk 0 0 1 0).moved 1 d = ⟨1, 1, 1, 0⟩ := by
      unfold Fl.moved
      rw [if_neg (by dsimp only; omega)]
      rfl
    have a : (Fl.mk 1 1 1 0).askF 256 = ⟨1, 2, 1, 0⟩ := by decide +kernel
    have b : (Fl.mk 1 1 1 0).askR 256 = ⟨1, 1⟩ := by decide +kernel
    rw [m, a, b]
    refine ⟨rfl, rfl, by omega, by omega, by omega, by omega, Or.inr ⟨by omega, by omega, ?_, ?_⟩⟩
    · rw [Rn.mk.injEq]; omega
    · refine Or.inr (Or.inl ⟨by omega, by omega, by omega, by omega, by omega, by omega, ?_⟩)
      rw [Fl.mk.injEq]; omega
  · by_cases q : (i : Int) + 1 < e
    · have m : (Fl.mk i e (min (k - 1) d) 0).moved 1 d = ⟨i + 1, e, min (k - 1) d, 0⟩ := by
        unfold Fl.moved
        rw [if_neg (by dsimp only; omega), Fl.mk.injEq]
        dsimp only; omega
      have a : (Fl.mk (i + 1) e (min (k - 1) d) 0).askF 256 = ⟨i + 1, e, min (k - 1) d, 0⟩ := by
        unfold Fl.askF
        rw [if_neg]
        dsimp only; omega
      have b : (Fl.mk (i + 1) e (min (k - 1) d) 0).askR 256 = ⟨0, 0⟩ := by
        unfold Fl.askR
        rw [if_neg]
        dsimp only; omega
      rw [m, a, b]
      refine ⟨rfl, rfl, by omega, by omega, by omega, by omega, Or.inl ⟨Or.inl q, rfl, Or.inr (Or.inl ⟨by omega, by omega, by omega, by omega, by omega, by omega, ?_⟩)⟩⟩
      rw [Fl.mk.injEq]; omega
    · have m : (Fl.mk i e (min (k - 1) d) 0).moved 1 d = ⟨i + 1, e, min k d, 0⟩ := by
        unfold Fl.moved
        rw [if_pos (by dsimp only; omega), Fl.mk.injEq]
        dsimp only; omega
      by_cases z : e = 256
      · have a : (Fl.mk (i + 1) e (min k d) 0).askF 256 = ⟨i + 1, e, min k d, 0⟩ := by
          unfold Fl.askF Fl.room
          rw [if_neg]
          dsimp only; omega
        have b : (Fl.mk (i + 1) e (min k d) 0).askR 256 = ⟨0, 0⟩ := by
          unfold Fl.askR Fl.room
          rw [if_neg]
          dsimp only; omega
        rw [m, a, b]
        refine ⟨rfl, rfl, by omega, by omega, by omega, by omega, Or.inl ⟨Or.inr ⟨q, z⟩, rfl, Or.inr (Or.inr ⟨by omega, by omega, by omega, by omega, by omega⟩)⟩⟩
      · have a : (Fl.mk (i + 1) e (min k d) 0).askF 256 = ⟨i + 1, e + min k (min d (256 - e)), min k d, 0⟩ := by
          unfold Fl.askF Fl.room
          rw [if_pos (by dsimp only; omega), Fl.mk.injEq]
          exact ⟨rfl, by dsimp only; omega, rfl, rfl⟩
        have b : (Fl.mk (i + 1) e (min k d) 0).askR 256 = ⟨e, min k (min d (256 - e))⟩ := by
          unfold Fl.askR Fl.room
          rw [if_pos (by dsimp only; omega), Rn.mk.injEq]
          exact ⟨rfl, by dsimp only; omega⟩
        rw [m, a, b]
        refine ⟨rfl, rfl, by omega, by omega, by omega, by omega, Or.inr ⟨q, z, rfl, ?_⟩⟩
        refine Or.inr (Or.inl ⟨by omega, by omega, by omega, by omega, by omega, by omega, ?_⟩)
        rw [Fl.mk.injEq]
        refine ⟨by omega, rfl, by omega, rfl⟩
  · omega
end Go.Proofs.Ytlpijieimidnoaa

/- What becomes of a pace, late or wasted again and again: plain facts. -/
import Derived.Test.YtlpijieimidnoaaAmpTune
namespace Go.Proofs.Ytlpijieimidnoaa
namespace Fl
/-- again and again -/
def lates (f : Fl) : Nat → Fl
  | 0 => f
  | k + 1 => (f.lates k).late
def wastes (f : Fl) : Nat → Fl
  | 0 => f
  | k + 1 => (f.wastes k).waste
def turns (f : Fl) : Nat → Fl
  | 0 => f
  | k + 1 => (f.turns k).late.waste
end Fl
theorem lates_eq (f : Fl) (h : f.May 16 256) (k : Nat) : f.lates k = ⟨f.n, f.a, f.p, min (f.g + k) (f.p - 1)⟩ := by
  obtain ⟨x1, x2, x3, x4, x5, x6, x7, x8, x9, x10, x11⟩ := h
  induction k with
  | zero =>
    show f = _
    obtain ⟨n, a, p, g⟩ := f
    dsimp only at *
    rw [Fl.mk.injEq]
    omega
  | succ k ih =>
    show (f.lates k).late = _
    rw [ih]
    unfold Fl.late
    dsimp only
    split <;> (rw [Fl.mk.injEq]; omega)
theorem wastes_eq (f : Fl) (h : f.May 16 256) (k : Nat) : f.wastes k = ⟨f.n, f.a, max (f.p - k) 1, min (max (f.g - k) 0) (max (f.p - k) 1 - 1)⟩ := by
  obtain ⟨x1, x2, x3, x4, x5, x6, x7, x8, x9, x10, x11⟩ := h
  induction k with
  | zero =>
    show f = _
    obtain ⟨n, a, p, g⟩ := f
    dsimp only at *
    rw [Fl.mk.injEq]
    omega
  | succ k ih =>
    show (f.wastes k).waste = _
    rw [ih]
    unfold Fl.waste
    dsimp only
    split <;> (rw [Fl.mk.injEq]; omega)
theorem late_may {f : Fl} {d b : Int} (h : f.May d b) : f.late.May d b := by
  obtain ⟨x1, x2, x3, x4, x5, x6, x7, x8, x9, x10, x11⟩ := h
  unfold Fl.late
  split
  · constructor <;> (try dsimp only) <;> omega
  · exact ⟨x1, x2, x3, x4, x5, x6, x7, x8, x9, x10, x11⟩
theorem waste_may {f : Fl} {d b : Int} (h : f.May d b) : f.waste.May d b := by
  obtain ⟨x1, x2, x3, x4, x5, x6, x7, x8, x9, x10, x11⟩ := h
  unfold Fl.waste
  split
  · constructor <;> (try dsimp only) <;> omega
  · exact ⟨x1, x2, x3, x4, x5, x6, x7, x8, x9, x10, x11⟩
theorem May.wf {f : Fl} {d b : Int} (h : f.May d b) : f.Wf := by
  obtain ⟨x1, x2, x3, x4, x5, x6, x7, x8, x9, x10, x11⟩ := h
  constructor <;> omega
theorem turns_may (f : Fl) (h : f.May 16 256) (k : Nat) : (f.turns k).May 16 256 := by
  induction k with
  | zero => exact h
  | succ k ih => exact waste_may (late_may ih)
theorem turns_p (f : Fl) (h : f.May 16 256) (k : Nat) : (f.turns k).p = max (f.p - k) 1 := by
  induction k with
  | zero =>
    show f.p = _
    have := h.p0
    omega
  | succ k ih =>
    have m := late_may (turns_may f h k)
    show ((f.turns k).late.waste).p = _
    have q : (f.turns k).late.p = (f.turns k).p := by unfold Fl.late; split <;> rfl
    unfold Fl.waste
    rw [if_pos ⟨m.p0, m.g0, by have := m.gp; omega⟩]
    show max ((f.turns k).late.p - 1) 1 = _
    rw [q, ih]
    omega
theorem wastes_may (f : Fl) (h : f.May 16 256) (k : Nat) : (f.wastes k).May 16 256 := by
  induction k with
  | zero => exact h
  | succ k ih => exact waste_may ih
theorem lates_may (f : Fl) (h : f.May 16 256) (k : Nat) : (f.lates k).May 16 256 := by
  induction k with
  | zero => exact h
  | succ k ih => exact late_may ih

end Go.Proofs.Ytlpijieimidnoaa

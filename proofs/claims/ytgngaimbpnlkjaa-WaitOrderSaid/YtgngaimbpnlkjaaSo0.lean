/- A row of waiters that is being sorted: in memory; how two of them compare, by a function of them (their turns). -/
import Derived.Test.YtgngaimbpnlkjaaRg14
import Derived.Test.YtgngaimbpnlkjaaActs14
import Derived.Sort.AssemblyPlain
import Derived.Sort.WalkA
import Derived.Sort.WalkB2
import Derived.Sort.WalkC4
import Derived.Sort.WalkA6
import Derived.Shelf.Small.Wraps
namespace Go.Proofs.Ytgngaimbpnlkjaa
open Go.RowKit Go.Sort
set_option linter.unusedVariables false

def klt (κ : Wt → Int) (x y : Wt) : Bool := decide (κ x < κ y)
theorem klt_swo (κ : Wt → Int) : SWO (klt κ) where
  irrefl x := by unfold klt; simp
  trans x y z h1 h2 := by unfold klt at *; simp at *; omega
  ntrans x y z h1 h2 := by unfold klt at *; simp at *; omega
/-- how they compare -/
def kcmp (κ : Wt → Int) (x y : Wt) : Int := Go.Lib.compareInt (κ x) (κ y)
theorem kcmp_lt (κ : Wt → Int) (x y : Wt) : decide (kcmp κ x y < 0) = klt κ x y := by
  unfold kcmp klt Go.Lib.compareInt
  by_cases h1 : κ x < κ y
  · simp [h1]
  · by_cases h2 : κ y < κ x <;> simp [h1, h2]
theorem kcmp_yes {κ : Wt → Int} {x y : Wt} (h : klt κ x y = true) : kcmp κ x y < 0 := by rw [← kcmp_lt] at h; simpa using h
theorem kcmp_no {κ : Wt → Int} {x y : Wt} (h : klt κ x y = false) : ¬ kcmp κ x y < 0 := by rw [← kcmp_lt] at h; simpa using h

/-- the row at block g holds d; of what there was at first just it has turned -/
structure Sq (w0 w : World) (g : Nat) (d : Array Wt) : Prop where
  cell : ∀ i, i < d.size → w.cell? ⟨g, i * 2, none⟩ = some (.int .i64 d[i]!.r) ∧ w.cell? ⟨g, i * 2 + 1, none⟩ = some (.int .i64 d[i]!.p)
  fz : ∀ k, w.frozen? ⟨g, k, none⟩ = false
  ok : ∀ i, i < d.size → wfW d[i]!
  only : Only (fun k => k = g) w0 w
  lt : g < w.heap.size
theorem Sq.still {w0 w w' : World} {g : Nat} {d : Array Wt} (h : Sq w0 w g d) (o : Only none_ w w') : Sq w0 w' g d :=
  ⟨fun i hi => ⟨o.cell (h.cell i hi).1 (fun s => s), o.cell (h.cell i hi).2 (fun s => s)⟩, fun k => by
    have := o.block g h.lt (fun s => s)
    unfold World.frozen?
    rw [this]
    exact h.fz k, h.ok, h.only.idle o, Nat.lt_of_lt_of_le h.lt o.size⟩
theorem Sq.drew {w0 w : World} {g : Nat} {d : Array Wt} (h : Sq w0 w g d) : Sq w0 w.drew g d := h.still ((Only.refl _ _).drew)
theorem Sq.drewN {w0 w : World} {g : Nat} {d : Array Wt} (h : Sq w0 w g d) (n : Nat) : Sq w0 (w.drewN n) g d := h.still ((Only.refl _ _).drewN n)
/-- a waiter is laid at a place -/
def lay2 (w : World) (g i : Nat) (x : Wt) : World := (w.setCell ⟨g, i * 2, none⟩ (.int .i64 x.r)).setCell ⟨g, i * 2 + 1, none⟩ (.int .i64 x.p)
theorem lay2_frozen (w : World) (g i : Nat) (x : Wt) (a : Addr) : (lay2 w g i x).frozen? a = w.frozen? a := by unfold lay2; rw [World.frozen?_setCell, World.frozen?_setCell]
theorem lay2_size (w : World) (g i : Nat) (x : Wt) : (lay2 w g i x).heap.size = w.heap.size := by simp [lay2, World.setCell]
theorem lay2_only (w : World) (g i : Nat) (x : Wt) : Only (fun k => k = g) w (lay2 w g i x) := ((Only.refl (fun k => k = g) w).into rfl _ _).into rfl _ _
theorem cell_same {w : World} {g o : Nat} {v u : Value} (h : w.cell? ⟨g, o, none⟩ = some u) : (w.setCell ⟨g, o, none⟩ v).cell? ⟨g, o, none⟩ = some v := World.cell?_setCell_same' _ _ _ (by rw [h]; rfl)
theorem cell_else {w : World} {g o o' : Nat} {v : Value} (h : o ≠ o') : (w.setCell ⟨g, o', none⟩ v).cell? ⟨g, o, none⟩ = w.cell? ⟨g, o, none⟩ := by
  by_cases k : g < w.heap.size
  · unfold World.cell? World.setCell
    simp only [Array.getElem?_modify, if_true]
    cases hb : w.heap[g]? with
    | none => rfl
    | some ob =>
      cases ob <;> simp
      rename_i cs t fr
      rw [Array.getElem?_setIfInBounds_ne (fun e => h e.symm)]
  · unfold World.cell? World.setCell
    rw [Array.getElem?_eq_none (by simp; exact Nat.le_of_not_lt k), Array.getElem?_eq_none (Nat.le_of_not_lt k)]
theorem lay2_cell {w : World} {g i j : Nat} {x y : Wt} (h : w.cell? ⟨g, j * 2, none⟩ = some (.int .i64 y.r) ∧ w.cell? ⟨g, j * 2 + 1, none⟩ = some (.int .i64 y.p)) :
    (lay2 w g i x).cell? ⟨g, j * 2, none⟩ = some (.int .i64 (if j = i then x else y).r) ∧ (lay2 w g i x).cell? ⟨g, j * 2 + 1, none⟩ = some (.int .i64 (if j = i then x else y).p) := by
  unfold lay2
  by_cases e : j = i
  · subst e
    rw [if_pos rfl]
    refine ⟨?_, ?_⟩
    · rw [cell_else (by omega)]
      exact cell_same h.1
    · exact cell_same (u := .int .i64 y.p) (by rw [cell_else (by omega)]; exact h.2)
  · rw [if_neg e]
    refine ⟨?_, ?_⟩
    · rw [cell_else (by omega), cell_else (by omega)]; exact h.1
    · rw [cell_else (by omega), cell_else (by omega)]; exact h.2
theorem swp_at {d : Array Wt} {i j k : Nat} (hi : i < d.size) (hj : j < d.size) : (swp d i j)[k]! = if k = j then d[i]! else if k = i then d[j]! else d[k]! := by
  by_cases e : k = j
  · subst e; rw [if_pos rfl, swp_right d i k hj]
  · rw [if_neg e]
    by_cases e2 : k = i
    · subst e2; rw [if_pos rfl, swp_left d k j hi e]
    · rw [if_neg e2, swp_other d i j k e2 e]
/-- two change places -/
theorem Sq.swap {w0 w : World} {g : Nat} {d : Array Wt} (h : Sq w0 w g d) {i j : Nat} {x y : Wt} (hi : i < d.size) (hj : j < d.size) (hx : d[i]! = x) (hy : d[j]! = y) : Sq w0 (lay2 (lay2 w g i y) g j x) g (swp d i j) := by
  refine ⟨fun k hk => ?_, fun k => by rw [lay2_frozen, lay2_frozen]; exact h.fz k, fun k hk => ?_, h.only.same ((lay2_only w g i y).same (lay2_only _ g j x)), by rw [lay2_size, lay2_size]; exact h.lt⟩
  · rw [size_swp] at hk
    rw [swp_at hi hj]
    have := lay2_cell (i := j) (x := x) (lay2_cell (i := i) (x := y) (h.cell k hk))
    by_cases e : k = j
    · rw [if_pos e] at this ⊢; rw [hx]; exact this
    · rw [if_neg e] at this ⊢
      by_cases e2 : k = i
      · rw [if_pos e2] at this ⊢; rw [hy]; exact this
      · rw [if_neg e2] at this ⊢; exact this
  · rw [size_swp] at hk
    rw [swp_at hi hj]
    by_cases e : k = j
    · rw [if_pos e]; exact h.ok i hi
    · rw [if_neg e]
      by_cases e2 : k = i
      · rw [if_pos e2]; exact h.ok j hj
      · rw [if_neg e2]; exact h.ok k hk
/-- what compares two of them: the method of the register at block p -/
abbrev cmpV (p : Nat) : Value := .func (.func 31) #[.pointer (some ⟨p, 0, none⟩)] #[]
def Less (κ : Wt → Int) (w0 : World) (g p : Nat) : Prop := ∀ w, Only (fun k => k = g) w0 w → ∀ x y : Wt, wfW x → wfW y →
  Calls Try.prog 31 #[.pointer (some ⟨p, 0, none⟩), .agg #[.int .i64 x.r, .int .i64 x.p], .agg #[.int .i64 y.r, .int .i64 y.p]] w fun e w' => e = .returned (.int .i64 (kcmp κ x y)) ∧ Only none_ w w'
theorem Less.at_ {κ : Wt → Int} {w0 : World} {g p : Nat} (h : Less κ w0 g p) {w w' : World} {d : Array Wt} (s : Sq w0 w g d) (o : Only none_ w w') {i j : Nat} {x y : Wt} (hi : i < d.size) (hj : j < d.size) (hx : d[i]! = x) (hy : d[j]! = y) :
    Calls Try.prog 31 #[.pointer (some ⟨p, 0, none⟩), .agg #[.int .i64 x.r, .int .i64 x.p], .agg #[.int .i64 y.r, .int .i64 y.p]] w' fun e w'' => e = .returned (.int .i64 (kcmp κ x y)) ∧ Only none_ w' w'' :=
  h w' (s.only.idle o) x y (hx ▸ s.ok i hi) (hy ▸ s.ok j hj)
end Go.Proofs.Ytgngaimbpnlkjaa

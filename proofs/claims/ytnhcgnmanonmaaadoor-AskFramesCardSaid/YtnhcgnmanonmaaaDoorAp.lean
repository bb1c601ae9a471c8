/- What an operation may be: package ask's own look at it. No condition but what each says. -/
import Derived.Test.YtnhcgnmanonmaaaDoorAk
namespace Go.Proofs.YtnhcgnmanonmaaaDoor
open Go.RowKit
set_option linter.unusedVariables false

/-- an operation -/
structure Opn where
  kind : Int
  id : Int
  first : Int
  count : Int
  A : Option Addr
  len : Nat
  cap : Nat
  well : Bool
def Opn.cells (o : Opn) : Array Value := #[.int .i64 o.kind, .int .i64 o.id, .int .i64 o.first, .int .i64 o.count, .slice o.A o.len o.cap, .bool o.well]
def Opn.val (o : Opn) : Value := .agg #[.int .i64 o.kind, .int .i64 o.id, .int .i64 o.first, .int .i64 o.count, .slice o.A o.len o.cap, .bool o.well]
/-- it has what its kind has, and nothing else -/
def Opn.M (o : Opn) : Prop :=
  (o.kind = 1 ∧ 1 ≤ o.id ∧ 1 ≤ o.count ∧ o.count ≤ 8 ∧ o.len = 0 ∧ o.well = false) ∨
  (o.kind = 2 ∧ 1 ≤ o.id ∧ o.count = 0 ∧ 1 ≤ o.len ∧ o.len ≤ 8 ∧ o.well = false) ∨
  (o.kind = 3 ∧ o.id = 0 ∧ 1 ≤ o.count ∧ o.count ≤ 8 ∧ o.len = 0 ∧ o.well = false) ∨
  (o.kind = 4 ∧ 1 ≤ o.id ∧ o.first = 0 ∧ o.count = 0 ∧ o.len = 0 ∧ o.well = false) ∨
  (o.kind = 5 ∧ 1 ≤ o.id ∧ o.first = 0 ∧ o.count = 0 ∧ o.len = 0)
theorem Row.six {w : World} {g : Nat} {t : TypeId} {a b c d e f : Value} (h : Row w g t #[a, b, c, d, e, f]) : w.cell? ⟨g, 0, none⟩ = some a ∧ w.cell? ⟨g, 1, none⟩ = some b ∧ w.cell? ⟨g, 2, none⟩ = some c ∧ w.cell? ⟨g, 3, none⟩ = some d ∧ w.cell? ⟨g, 4, none⟩ = some e ∧ w.cell? ⟨g, 5, none⟩ = some f := by
  refine ⟨?_, ?_, ?_, ?_, ?_, ?_⟩ <;> (rw [h.cell]; rfl)
theorem Row.melt {w : World} {g : Nat} {t : TypeId} {a b c d e f : Value} (h : Row w g t #[a, b, c, d, e, f]) : w.frozen? ⟨g, 0, none⟩ = false ∧ w.frozen? ⟨g, 1, none⟩ = false ∧ w.frozen? ⟨g, 2, none⟩ = false ∧ w.frozen? ⟨g, 3, none⟩ = false ∧ w.frozen? ⟨g, 4, none⟩ = false ∧ w.frozen? ⟨g, 5, none⟩ = false :=
  ⟨h.frozen 0, h.frozen 1, h.frozen 2, h.frozen 3, h.frozen 4, h.frozen 5⟩
set_option maxHeartbeats 2000000 in
theorem may_4 (o : Opn) (w : World) (m : Bool) (hk : o.kind = 4) (ht : o.M → m = true) (hf : ¬ o.M → m = false) :
    Calls Tryd.prog 19 #[o.val] w fun e w' => e = .returned (.bool m) ∧ Only none_ w w' := by
  obtain ⟨k, i, f, c, A, l, p, b⟩ := o
  have HT := Lib.hid ht
  have HF := Lib.hid hf
  clear ht hf
  have OB := Lib.hid (Only.refl none_ w)
  unfold Opn.val
  dsimp only at hk ⊢
  subst hk
  cases b
  all_goals
    go_enter Tryd.func19, Tryd.ntmps19
    go_wp2_with fail
    all_goals
      go_ret
      refine ⟨?_, ?_⟩
    all_goals
      first
      | exact OB.out.alloc _
      | exact (OB.out.alloc _).new (Nat.le_refl _) _ _
      | exact ((OB.out.alloc _).new (Nat.le_refl _) _ _).new (Nat.le_refl _) _ _
      | (rw [HF.out (by simp [Opn.M]; omega)]; done)
      | (rw [HF.out (by simp [Opn.M]; omega)]; rfl)
      | (rw [HF.out (by simp [Opn.M])]; rfl)
      | (rw [HT.out (by simp [Opn.M]; omega)]; done)
      | (rw [HT.out (by simp [Opn.M]; omega)]; rfl)
      | (rw [HT.out (by simp [Opn.M])]; rfl)
      | fail
set_option maxHeartbeats 2000000 in
theorem may_5 (o : Opn) (w : World) (m : Bool) (hk : o.kind = 5) (ht : o.M → m = true) (hf : ¬ o.M → m = false) :
    Calls Tryd.prog 19 #[o.val] w fun e w' => e = .returned (.bool m) ∧ Only none_ w w' := by
  obtain ⟨k, i, f, c, A, l, p, b⟩ := o
  have HT := Lib.hid ht
  have HF := Lib.hid hf
  clear ht hf
  have OB := Lib.hid (Only.refl none_ w)
  unfold Opn.val
  dsimp only at hk ⊢
  subst hk
  cases b
  all_goals
    go_enter Tryd.func19, Tryd.ntmps19
    go_wp2_with fail
    all_goals
      go_ret
      refine ⟨?_, ?_⟩
    all_goals
      first
      | exact OB.out.alloc _
      | exact (OB.out.alloc _).new (Nat.le_refl _) _ _
      | exact ((OB.out.alloc _).new (Nat.le_refl _) _ _).new (Nat.le_refl _) _ _
      | (rw [HF.out (by simp [Opn.M]; omega)]; done)
      | (rw [HF.out (by simp [Opn.M]; omega)]; rfl)
      | (rw [HF.out (by simp [Opn.M])]; rfl)
      | (rw [HT.out (by simp [Opn.M]; omega)]; done)
      | (rw [HT.out (by simp [Opn.M]; omega)]; rfl)
      | (rw [HT.out (by simp [Opn.M])]; rfl)
      | fail
theorem may_other (o : Opn) (w : World) (m : Bool) (h1 : o.kind ≠ 1) (h2 : o.kind ≠ 2) (h3 : o.kind ≠ 3) (h4 : o.kind ≠ 4) (h5 : o.kind ≠ 5) (hf : ¬ o.M → m = false) :
    Calls Tryd.prog 19 #[o.val] w fun e w' => e = .returned (.bool m) ∧ Only none_ w w' := by
  obtain ⟨k, i, f, c, A, l, p, b⟩ := o
  obtain rfl := hf (by simp only [Opn.M] at *; omega)
  clear hf
  unfold Opn.val
  dsimp only at h1 h2 h3 h4 h5 ⊢
  have e1 : (k == 1) = false := by simpa using h1
  have e2 : (k == 2) = false := by simpa using h2
  have e3 : (k == 3) = false := by simpa using h3
  have e4 : (k == 4) = false := by simpa using h4
  have e5 : (k == 5) = false := by simpa using h5
  clear h1 h2 h3 h4 h5
  go_enter Tryd.func19, Tryd.ntmps19
  go_wp2_with fail
  go_ret
  exact ⟨rfl, (Only.refl none_ w).alloc _⟩
end Go.Proofs.YtnhcgnmanonmaaaDoor

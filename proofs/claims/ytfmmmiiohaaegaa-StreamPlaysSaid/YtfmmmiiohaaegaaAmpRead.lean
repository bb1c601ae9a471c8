/- What May and Read of package amp answer, of any pace, any count, any degree and any disk. -/
import Derived.Test.YtfmmmiiohaaegaaAmp
namespace Go.Proofs.Ytfmmmiiohaaegaa
open Go.RowKit
set_option linter.unusedVariables false

/-- a run -/
structure Rn where
  f : Int
  c : Int
  deriving DecidableEq
def Rn.cells (r : Rn) : Array Value := #[.int .i64 r.f, .int .i64 r.c]
def Rn.val (r : Rn) : Value := .agg #[.int .i64 r.f, .int .i64 r.c]

namespace Fl
def moved (f : Fl) (c d : Int) : Fl := ⟨f.n + c, max f.a (f.n + c), if f.n < f.a ∧ f.a ≤ f.n + c then min (f.p + 1) d else f.p, f.g⟩
def room (f : Fl) (b : Int) : Int := min f.p (b - f.a)
def askF (f : Fl) (b : Int) : Fl := if f.a - f.n ≤ f.g ∧ f.room b ≠ 0 then ⟨f.n, f.a + f.room b, f.p, f.g⟩ else f
def askR (f : Fl) (b : Int) : Rn := if f.a - f.n ≤ f.g ∧ f.room b ≠ 0 then ⟨f.a, f.room b⟩ else ⟨0, 0⟩
/-- a read's code -/
def readC (f : Fl) (c d b : Int) : Int := if f.May d b ∧ 1 ≤ c ∧ c ≤ 8 then if f.n + c ≤ b then 0 else 6 else 1
def readF (f : Fl) (c d b : Int) : Fl := if f.readC c d b = 0 then (f.moved c d).askF b else ⟨0, 0, 0, 0⟩
def readR (f : Fl) (c d b : Int) : Rn := if f.readC c d b = 0 then (f.moved c d).askR b else ⟨0, 0⟩
end Fl

theorem moved_may {f : Fl} {c d b : Int} (h : f.May d b) (h1 : 1 ≤ c) (h8 : c ≤ 8) (hb : f.n + c ≤ b) : (f.moved c d).May d b := by
  obtain ⟨x1, x2, x3, x4, x5, x6, x7, x8, x9, x10, x11⟩ := h
  unfold Fl.moved
  constructor <;> (try dsimp only) <;> (try split) <;> omega
theorem ask_may {f : Fl} {d b : Int} (h : f.May d b) : (f.askF b).May d b := by
  obtain ⟨x1, x2, x3, x4, x5, x6, x7, x8, x9, x10, x11⟩ := h
  unfold Fl.askF Fl.room
  split
  · constructor <;> (try dsimp only) <;> omega
  · exact ⟨x1, x2, x3, x4, x5, x6, x7, x8, x9, x10, x11⟩

set_option maxHeartbeats 400000 in
theorem moved_any (f : Fl) (c d b : Int) (w : World) (h : f.May d b) (h1 : 1 ≤ c) (h8 : c ≤ 8) (hb : f.n + c ≤ b) :
    Calls Try.prog 64 #[f.val, .int .i64 c, .int .i64 d] w fun e w' => e = .returned (f.moved c d).val ∧ Only none_ w w' := by
  obtain ⟨x1, x2, x3, x4, x5, x6, x7, x8, x9, x10, x11⟩ := h
  have v1 : IntKind.i64.wrap (f.n + c) = f.n + c := by rw [IntKind.wrap_i64]; omega
  have v2 : IntKind.i64.wrap (f.p + 1) = f.p + 1 := by rw [IntKind.wrap_i64]; omega
  have HH := Lib.hid (fun g w => held_any g d w (by omega) (by omega))
  have MV := Lib.hid (show f.moved c d = if f.n < f.a ∧ f.a ≤ f.n + c then (Fl.mk (f.n + c) (max f.a (f.n + c)) (f.p + 1) f.g).held d else (Fl.mk (f.n + c) (max f.a (f.n + c)) f.p f.g).held d from by
    unfold Fl.moved Fl.held
    by_cases hc : f.n < f.a ∧ f.a ≤ f.n + c
    · simp only [if_pos hc, Fl.mk.injEq, true_and]; omega
    · simp only [if_neg hc, Fl.mk.injEq, true_and]; omega)
  have t : (decide (f.n < f.a) = false ∨ (decide (f.n < f.a) = true ∧ decide (f.a ≤ f.n + c) = false)) ∨ (decide (f.n < f.a) = true ∧ decide (f.a ≤ f.n + c) = true) := by simp; omega
  clear x1 x2 x3 x4 x5 x6 x7 x8 x9 x10 x11 h1 h8 hb
  rcases t with t | ⟨t1, t2⟩
  · replace MV := Lib.hid (show f.moved c d = (Fl.mk (f.n + c) (max f.a (f.n + c)) f.p f.g).held d from by
      rw [MV.out, if_neg]; simp only [decide_eq_false_iff_not, decide_eq_true_eq] at t; omega)
    rcases t with t | ⟨t1, t2⟩
    all_goals
      go_enter Try.func64, Try.ntmps64
      unfold Fl.val at HH ⊢
      go_wp2_with fail
      (with_reducible refine (HH.out ⟨f.n + c, max f.a (f.n + c), f.p, f.g⟩ _).mono ?_)
      rintro e w1 ⟨rfl, o1, o2, rfl⟩
      have MV' := Lib.hid MV.out.symm
      generalize (Fl.mk (f.n + c) (max f.a (f.n + c)) f.p f.g).held d = q at *
      go_wp2_with fail
      exact bodyPost_ret (v := .agg #[.int .i64 q.n, .int .i64 q.a, .int .i64 q.p, .int .i64 q.g]) (by simp [results, Try.results64, go_sem]) rfl
        ⟨by rw [MV.out], ((((Only.refl none_ w).alloc _).alloc _).alloc _).alloc _⟩
  · replace MV := Lib.hid (show f.moved c d = (Fl.mk (f.n + c) (max f.a (f.n + c)) (f.p + 1) f.g).held d from by
      rw [MV.out, if_pos]; simp only [decide_eq_true_eq] at t1 t2; omega)
    go_enter Try.func64, Try.ntmps64
    unfold Fl.val at HH ⊢
    go_wp2_with fail
    (with_reducible refine (HH.out ⟨f.n + c, max f.a (f.n + c), f.p + 1, f.g⟩ _).mono ?_)
    rintro e w1 ⟨rfl, o1, o2, rfl⟩
    generalize (Fl.mk (f.n + c) (max f.a (f.n + c)) (f.p + 1) f.g).held d = q at *
    go_wp2_with fail
    exact bodyPost_ret (v := .agg #[.int .i64 q.n, .int .i64 q.a, .int .i64 q.p, .int .i64 q.g]) (by simp [results, Try.results64, go_sem]) rfl
      ⟨by rw [MV.out], ((((Only.refl none_ w).alloc _).alloc _).alloc _).alloc _⟩

set_option maxHeartbeats 400000 in
theorem ask_any (f : Fl) (d b : Int) (w : World) (h : f.May d b) :
    Calls Try.prog 63 #[f.val, .int .i64 b] w fun e w' => e = .returned (.tuple #[(f.askF b).val, (f.askR b).val]) ∧ Only none_ w w' := by
  obtain ⟨x1, x2, x3, x4, x5, x6, x7, x8, x9, x10, x11⟩ := h
  have v1 : IntKind.i64.wrap (b - f.a) = b - f.a := by rw [IntKind.wrap_i64]; omega
  have v2 : IntKind.i64.wrap (f.a - f.n) = f.a - f.n := by rw [IntKind.wrap_i64]; omega
  have v3 : IntKind.i64.wrap (f.a + min f.p (b - f.a)) = f.a + min f.p (b - f.a) := by rw [IntKind.wrap_i64]; omega
  have t : (decide (f.g < f.a - f.n) = true ∨ (decide (f.g < f.a - f.n) = false ∧ (min f.p (b - f.a) == 0) = true)) ∨ (decide (f.g < f.a - f.n) = false ∧ (min f.p (b - f.a) == 0) = false) := by simp; omega
  clear x1 x2 x3 x4 x5 x6 x7 x8 x9 x10 x11
  rcases t with t | ⟨t1, t2⟩
  · have A := Lib.hid (show f.askF b = f from by unfold Fl.askF Fl.room; rw [if_neg]; simp only [beq_iff_eq, decide_eq_false_iff_not, decide_eq_true_eq] at t; omega)
    have B := Lib.hid (show f.askR b = ⟨0, 0⟩ from by unfold Fl.askR Fl.room; rw [if_neg]; simp only [beq_iff_eq, decide_eq_false_iff_not, decide_eq_true_eq] at t; omega)
    rcases t with t | ⟨t1, t2⟩
    all_goals
      go_enter Try.func63, Try.ntmps63
      unfold Fl.val Rn.val
      go_wp2_with fail
      exact bodyPost_ret (v := .tuple #[.agg #[.int .i64 f.n, .int .i64 f.a, .int .i64 f.p, .int .i64 f.g], .agg #[.int .i64 0, .int .i64 0]]) (by simp [results, Try.results63, go_sem]) rfl
        ⟨by rw [A.out, B.out], ((((Only.refl none_ w).alloc _).alloc _).alloc _).alloc _⟩
  · have A := Lib.hid (show f.askF b = ⟨f.n, f.a + min f.p (b - f.a), f.p, f.g⟩ from by unfold Fl.askF Fl.room; rw [if_pos]; simp only [beq_eq_false_iff_ne, decide_eq_false_iff_not] at t1 t2; omega)
    have B := Lib.hid (show f.askR b = ⟨f.a, min f.p (b - f.a)⟩ from by unfold Fl.askR Fl.room; rw [if_pos]; simp only [beq_eq_false_iff_ne, decide_eq_false_iff_not] at t1 t2; omega)
    go_enter Try.func63, Try.ntmps63
    unfold Fl.val Rn.val
    go_wp2_with fail
    go_region
    all_goals
      go_wp2_with fail
      exact bodyPost_ret (v := .tuple #[.agg #[.int .i64 f.n, .int .i64 (f.a + min f.p (b - f.a)), .int .i64 f.p, .int .i64 f.g], .agg #[.int .i64 f.a, .int .i64 (min f.p (b - f.a))]]) (by simp [results, Try.results63, go_sem]) rfl
        ⟨by rw [A.out, B.out], (((((Only.refl none_ w).alloc _).alloc _).alloc _).alloc _).drew⟩
end Go.Proofs.Ytfmmmiiohaaegaa

/- Texts of the layers below, one behind the other. -/
import Derived.Test.YtlfnncahhbbmpaaGreatDoorQD
import Derived.Deep.RegionHeld3
namespace Go.Proofs.YtlfnncahhbbmpaaGreatDoor
open Go.RowKit
set_option linter.unusedVariables false
set_option maxRecDepth 100000

/-- a variable that a closure has: it lies at block q, and holds v -/
abbrev Var (w : World) (q : Nat) (v : Value) : Prop := w.cell? ⟨q, 0, none⟩ = some v
/-- a code, as Catch has it -/
def coded (c : Int) : Option Int := if c = 0 then none else some c
theorem coded_get (c : Int) : (coded c).getD 0 = c := by unfold coded; split <;> simp_all

theorem admit_any (f : Fl) (d b : Int) (w : World) :
    Calls Tryz.prog 72 #[f.val, .int .i64 d, .int .i64 b] w fun e w' => e = done (if f.May d b then none else some 1) ∧ Only none_ w w' := by
  by_cases hd : 1 ≤ d ∧ d ≤ 16
  · by_cases hb : 1 ≤ b ∧ b ≤ 256
    · have := admit_in f d b w ⟨hd.1, hd.2, hb.1, hb.2⟩ (decide (f.May d b)) rfl
      simpa using this
    · rw [if_neg (fun h => hb ⟨h.b0, h.b1⟩)]
      exact admit_blk f d b w hd (by omega)
  · rw [if_neg (fun h => hd ⟨h.d0, h.d1⟩)]
    exact admit_deg f d b w (by omega)

theorem Row.fl {w : World} {q : Nat} {f : Fl} (h : Row w q 102 f.cells) : w.cell? ⟨q, 0, none⟩ = some (.int .i64 f.n) ∧ w.cell? ⟨q, 1, none⟩ = some (.int .i64 f.a) ∧ w.cell? ⟨q, 2, none⟩ = some (.int .i64 f.p) ∧ w.cell? ⟨q, 3, none⟩ = some (.int .i64 f.g) := h.four

theorem may1_any (q0 q1 q2 : Nat) (f : Fl) (d b : Int) (w : World) (h0 : Row w q0 102 f.cells) (h1 : Var w q1 (.int .i64 d)) (h2 : Var w q2 (.int .i64 b)) :
    Calls Tryz.prog 71 #[.pointer (some ⟨q0, 0, none⟩), .pointer (some ⟨q1, 0, none⟩), .pointer (some ⟨q2, 0, none⟩)] w fun e w' => e = done (if f.May d b then none else some 1) ∧ Only none_ w w' := by
  obtain ⟨c0, c1, c2, c3⟩ := h0.fl
  have A := Lib.hid (admit_any f d b w)
  clear h0
  unfold Fl.val at A
  go_enter Tryz.func71, Tryz.ntmps71
  go_wp2_with fail
  (with_reducible refine A.out.mono ?_)
  by_cases hm : f.May d b
  · simp only [if_pos hm]
    rintro e w' ⟨rfl, o⟩
    have O := Lib.hid o
    clear o A c0 c1 c2 c3 h1 h2
    simp only [done]
    go_wp2_with fail
    go_end0
    exact ⟨rfl, O.out⟩
  · simp only [if_neg hm]
    rintro e w' ⟨rfl, o⟩
    have O := Lib.hid o
    clear o A c0 c1 c2 c3 h1 h2
    simp only [done]
    go_wp2_with fail
    exact ⟨rfl, rfl, O.out⟩

theorem catch_quiet (G : FuncId) (caps : Array Value) (w : World) (c : Option Int) (hG : ∀ w, (callFunc G caps).run Tryz.prog w = .ok (.enter G caps) w)
    (h : Calls Tryz.prog G caps (w.alloc (.cells #[.int .i64 0] 27)) fun e w' => e = done c ∧ Only none_ (w.alloc (.cells #[.int .i64 0] 27)) w') :
    Calls Tryz.prog 26 #[.func (.func G) #[] caps] w fun e w' => e = .returned (.int .i64 (c.getD 0)) ∧ Only none_ w w' := by
  refine (catch_code G caps w none_ (fun r w' => r = c) hG (fun s => s) (fun r w1 v _ e => e) (h.mono ?_)).mono ?_
  · rintro e w' ⟨he, o⟩
    exact ⟨c, he, rfl, o⟩
  · rintro e w' ⟨r, he, rfl, o⟩
    exact ⟨he, o⟩

theorem may_any (f : Fl) (d b : Int) (w : World) :
    Calls Tryz.prog 40 #[f.val, .int .i64 d, .int .i64 b] w fun e w' => e = .returned (.bool (decide (f.May d b))) ∧ Only none_ w w' := by
  have r0 := (Row.fresh w 102 f.cells).alloc (.cells #[.int .i64 d] 3)
  have r1 := Row.fresh (w.alloc (.cells f.cells 102)) 3 #[.int .i64 d]
  have r2 := Row.fresh ((w.alloc (.cells f.cells 102)).alloc (.cells #[.int .i64 d] 3)) 3 #[.int .i64 b]
  have C := catch_quiet 71 #[.pointer (some ⟨w.heap.size, 0, none⟩), .pointer (some ⟨w.heap.size + 1, 0, none⟩), .pointer (some ⟨w.heap.size + 1 + 1, 0, none⟩)]
    (((w.alloc (.cells f.cells 102)).alloc (.cells #[.int .i64 d] 3)).alloc (.cells #[.int .i64 b] 3)) (if f.May d b then none else some 1) (fun _ => rfl)
    (may1_any _ _ _ f d b _ ((r0.alloc _).alloc _) (by
      have h := ((r1.alloc (.cells #[.int .i64 b] 3)).alloc (.cells #[.int .i64 0] 27)).cell 0
      rw [World.size_alloc] at h
      exact h) (by
      have h := (r2.alloc (.cells #[.int .i64 0] 27)).cell 0
      rw [World.size_alloc, World.size_alloc] at h
      exact h))
  unfold Fl.cells at C
  have C := Lib.hid C
  clear r0 r1 r2
  unfold Fl.val
  go_enter Tryz.func40, Tryz.ntmps40
  go_wp2_with fail
  (with_reducible refine C.out.mono ?_)
  rintro e w' ⟨rfl, o⟩
  have O := Lib.hid (((((Only.refl none_ w).alloc _).alloc _).alloc _).same o)
  clear o C
  by_cases hm : f.May d b
  · rw [if_pos hm]
    simp only [Option.getD_none]
    go_wp2_with fail
    go_ret
    exact ⟨by rw [decide_eq_true hm]; rfl, O.out⟩
  · rw [if_neg hm]
    simp only [Option.getD_some]
    go_wp2_with fail
    go_ret
    exact ⟨by rw [decide_eq_false hm]; rfl, O.out⟩

/-- the closure of Read: all that it has, where it lies -/
structure Caps (w : World) (q0 q1 q2 q3 q4 q5 : Nat) (f : Fl) (c d b : Int) : Prop where
  h0 : Row w q0 102 f.cells
  h1 : Var w q1 (.int .i64 d)
  h2 : Var w q2 (.int .i64 b)
  h3 : Var w q3 (.int .i64 c)
  h4 : Row w q4 102 (Fl.mk 0 0 0 0).cells
  h5 : Row w q5 39 (Rn.mk 0 0).cells
  n0 : q0 ≠ q4
  n1 : q1 ≠ q4
  n2 : q2 ≠ q4
  n3 : q3 ≠ q4
  m0 : q0 ≠ q5
  m1 : q1 ≠ q5
  m2 : q2 ≠ q5
  m3 : q3 ≠ q5
  n4 : q4 ≠ q5
theorem Caps.still {w w' : World} {q0 q1 q2 q3 q4 q5 : Nat} {f : Fl} {c d b : Int} (h : Caps w q0 q1 q2 q3 q4 q5 f c d b) (o : Only none_ w w') : Caps w' q0 q1 q2 q3 q4 q5 f c d b :=
  ⟨o.still h.h0, o.cell h.h1 (fun s => s), o.cell h.h2 (fun s => s), o.cell h.h3 (fun s => s), o.still h.h4, o.still h.h5, h.n0, h.n1, h.n2, h.n3, h.m0, h.m1, h.m2, h.m3, h.n4⟩
def two9 (p b : Nat) : Nat → Prop := fun k => k = p ∨ k = b
/-- what the closure leaves -/
def Left9 (w : World) (q4 q5 : Nat) (f : Fl) (c d b : Int) (e : Ending) (w' : World) : Prop :=
  e = done (coded (f.readC c d b)) ∧ Row w' q4 102 (f.readF c d b).cells ∧ Row w' q5 39 (f.readR c d b).cells ∧ Only (two9 q4 q5) w w'

theorem read1_arg (q0 q1 q2 q3 q4 q5 : Nat) (f : Fl) (c d b : Int) (w : World) (h : Caps w q0 q1 q2 q3 q4 q5 f c d b) (hm : ¬ f.May d b) :
    Calls Tryz.prog 161 #[.pointer (some ⟨q0, 0, none⟩), .pointer (some ⟨q1, 0, none⟩), .pointer (some ⟨q2, 0, none⟩), .pointer (some ⟨q3, 0, none⟩), .pointer (some ⟨q4, 0, none⟩), .pointer (some ⟨q5, 0, none⟩)] w (Left9 w q4 q5 f c d b) := by
  obtain ⟨c0, c1, c2, c3⟩ := h.h0.fl
  have A := Lib.hid (admit_any f d b w)
  have C1 := h.h1
  have C2 := h.h2
  have H := Lib.hid h
  have RC := Lib.hid (show f.readC c d b = 1 from by unfold Fl.readC; rw [if_neg (fun h => hm h.1)])
  rw [if_neg hm] at A
  clear h hm
  unfold Fl.val at A
  go_enter Tryz.func161, Tryz.ntmps161
  go_wp2_with fail
  (with_reducible refine A.out.mono ?_)
  rintro e w' ⟨rfl, o⟩
  have O := Lib.hid o
  clear o A c0 c1 c2 c3 C1 C2
  simp only [done]
  go_wp2_with fail
  refine ⟨rfl, ?_, ?_, ?_, O.out.up⟩
  · rw [RC.out]; rfl
  · rw [show f.readF c d b = ⟨0, 0, 0, 0⟩ from by unfold Fl.readF; rw [RC.out]; rfl]
    exact (H.out.still O.out).h4
  · rw [show f.readR c d b = ⟨0, 0⟩ from by unfold Fl.readR; rw [RC.out]; rfl]
    exact (H.out.still O.out).h5

set_option maxHeartbeats 400000 in
theorem read1_no (q0 q1 q2 q3 q4 q5 : Nat) (f : Fl) (c d b : Int) (w : World) (h : Caps w q0 q1 q2 q3 q4 q5 f c d b) (hm : f.May d b) (hc : ¬ (1 ≤ c ∧ c ≤ 8 ∧ f.n + c ≤ b)) :
    Calls Tryz.prog 161 #[.pointer (some ⟨q0, 0, none⟩), .pointer (some ⟨q1, 0, none⟩), .pointer (some ⟨q2, 0, none⟩), .pointer (some ⟨q3, 0, none⟩), .pointer (some ⟨q4, 0, none⟩), .pointer (some ⟨q5, 0, none⟩)] w (Left9 w q4 q5 f c d b) := by
  obtain ⟨c0, c1, c2, c3⟩ := h.h0.fl
  have A := Lib.hid (admit_any f d b w)
  have C1 := h.h1
  have C2 := h.h2
  have H := Lib.hid h
  have RC := Lib.hid (show f.readC c d b = if 1 ≤ c ∧ c ≤ 8 then 6 else 1 from by
    unfold Fl.readC
    by_cases k : 1 ≤ c ∧ c ≤ 8
    · rw [if_pos ⟨hm, k.1, k.2⟩, if_pos k, if_neg]; omega
    · rw [if_neg k, if_neg (fun h => k h.2)])
  rw [if_pos hm] at A
  have v1 : IntKind.i64.wrap (b - f.n) = b - f.n := by have := hm.n0; have := hm.na; have := hm.ab; have := hm.b1; rw [IntKind.wrap_i64]; omega
  have t : (decide (1 ≤ c) = false ∨ (decide (1 ≤ c) = true ∧ decide (c ≤ 8) = false)) ∨ (decide (1 ≤ c) = true ∧ decide (c ≤ 8) = true ∧ decide (c ≤ b - f.n) = false) := by
    simp only [decide_eq_false_iff_not, decide_eq_true_eq]; omega
  clear h hm hc
  unfold Fl.val at A
  rcases t with t | ⟨t1, t2, t3⟩
  · replace RC := Lib.hid (show f.readC c d b = 1 from by
      rw [RC.out, if_neg]; simp only [decide_eq_false_iff_not, decide_eq_true_eq] at t; omega)
    rcases t with t | ⟨t1, t2⟩
    all_goals
      go_enter Tryz.func161, Tryz.ntmps161
      go_wp2_with fail
      (with_reducible refine A.out.mono ?_)
      rintro e w' ⟨rfl, o⟩
      have O := Lib.hid o
      have C3 := (H.out.still o).h3
      clear o A c0 c1 c2 c3 C1 C2
      simp only [done]
      go_wp2_with fail
      (with_reducible refine (unless_no _ _).mono ?_)
      rintro e w'' ⟨rfl, rfl⟩
      go_wp2_with fail
      refine ⟨rfl, ?_, ?_, ?_, O.out.up⟩
      · rw [RC.out]; rfl
      · rw [show f.readF c d b = ⟨0, 0, 0, 0⟩ from by unfold Fl.readF; rw [RC.out]; rfl]
        exact (H.out.still O.out).h4
      · rw [show f.readR c d b = ⟨0, 0⟩ from by unfold Fl.readR; rw [RC.out]; rfl]
        exact (H.out.still O.out).h5
  · replace RC := Lib.hid (show f.readC c d b = 6 from by
      rw [RC.out, if_pos]; simp only [decide_eq_true_eq] at t1 t2; omega)
    go_enter Tryz.func161, Tryz.ntmps161
    go_wp2_with fail
    (with_reducible refine A.out.mono ?_)
    rintro e w' ⟨rfl, o⟩
    have O := Lib.hid o
    have C3 := (H.out.still o).h3
    have C2' := (H.out.still o).h2
    obtain ⟨d0, d1, d2, d3⟩ := (H.out.still o).h0.fl
    clear o A c0 c1 c2 c3 C1 C2
    simp only [done]
    go_wp2_with fail
    (with_reducible refine (unless_yes _ _).mono ?_)
    rintro e w'' ⟨rfl, rfl⟩
    go_wp2_with fail
    (with_reducible refine (unless_no _ _).mono ?_)
    rintro e w'' ⟨rfl, rfl⟩
    go_wp2_with fail
    refine ⟨rfl, ?_, ?_, ?_, O.out.up⟩
    · rw [RC.out]; rfl
    · rw [show f.readF c d b = ⟨0, 0, 0, 0⟩ from by unfold Fl.readF; rw [RC.out]; rfl]
      exact (H.out.still O.out).h4
    · rw [show f.readR c d b = ⟨0, 0⟩ from by unfold Fl.readR; rw [RC.out]; rfl]
      exact (H.out.still O.out).h5

set_option maxHeartbeats 1000000 in
theorem read1_yes (q0 q1 q2 q3 q4 q5 : Nat) (f : Fl) (c d b : Int) (w : World) (h : Caps w q0 q1 q2 q3 q4 q5 f c d b) (hm : f.May d b) (hc : 1 ≤ c ∧ c ≤ 8 ∧ f.n + c ≤ b) :
    Calls Tryz.prog 161 #[.pointer (some ⟨q0, 0, none⟩), .pointer (some ⟨q1, 0, none⟩), .pointer (some ⟨q2, 0, none⟩), .pointer (some ⟨q3, 0, none⟩), .pointer (some ⟨q4, 0, none⟩), .pointer (some ⟨q5, 0, none⟩)] w (Left9 w q4 q5 f c d b) := by
  obtain ⟨c0, c1, c2, c3⟩ := h.h0.fl
  have A := Lib.hid (admit_any f d b w)
  have C1 := h.h1
  have C2 := h.h2
  have H := Lib.hid h
  have RC := Lib.hid (show f.readC c d b = 0 from by unfold Fl.readC; rw [if_pos ⟨hm, hc.1, hc.2.1⟩, if_pos hc.2.2])
  have RF := Lib.hid (show f.readF c d b = (f.moved c d).askF b from by unfold Fl.readF; rw [RC.out, if_pos rfl])
  have RR := Lib.hid (show f.readR c d b = (f.moved c d).askR b from by unfold Fl.readR; rw [RC.out, if_pos rfl])
  rw [if_pos hm] at A
  have v1 : IntKind.i64.wrap (b - f.n) = b - f.n := by have := hm.n0; have := hm.na; have := hm.ab; have := hm.b1; rw [IntKind.wrap_i64]; omega
  have t1 : decide (1 ≤ c) = true := by simp only [decide_eq_true_eq]; omega
  have t2 : decide (c ≤ 8) = true := by simp only [decide_eq_true_eq]; omega
  have t3 : decide (c ≤ b - f.n) = true := by simp only [decide_eq_true_eq]; omega
  have MV := Lib.hid (fun w => moved_any f c d b w hm hc.1 hc.2.1 hc.2.2)
  have AS := Lib.hid (fun w => ask_any (f.moved c d) d b w (moved_may hm hc.1 hc.2.1 hc.2.2))
  generalize f.moved c d = g at *
  generalize g.askF b = k at *
  generalize g.askR b = r at *
  clear h hm hc
  unfold Fl.val at A MV AS
  unfold Rn.val at AS
  go_enter Tryz.func161, Tryz.ntmps161
  go_wp2_with fail
  (with_reducible refine A.out.mono ?_)
  rintro e w0 ⟨rfl, o⟩
  have O := Lib.hid o
  have H0 := Lib.hid (H.out.still o)
  clear o A c0 c1 c2 c3 C1 C2
  have C3 := H0.out.h3
  have C2 := H0.out.h2
  obtain ⟨d0, d1, d2, d3⟩ := H0.out.h0.fl
  simp only [done]
  go_wp2_with fail
  (with_reducible refine (unless_yes _ _).mono ?_)
  rintro e w'' ⟨rfl, rfl⟩
  go_wp2_with fail
  (with_reducible refine (unless_yes _ _).mono ?_)
  rintro e w'' ⟨rfl, rfl⟩
  go_wp2_with fail
  clear C3 C2 d0 d1 d2 d3 t1 t2 t3 v1
  have OD := Lib.hid (Only.refl none_ w0).drew
  have HD := Lib.hid (H0.out.still OD.out)
  have C1 := HD.out.h1
  have C3 := HD.out.h3
  have C2 := HD.out.h2
  obtain ⟨d0, d1, d2, d3⟩ := HD.out.h0.fl
  have i4 : two9 q4 q5 q4 := Or.inl rfl
  have n45 : q4 ≠ q5 := H.out.n4
  have n54 : q5 ≠ q4 := fun e => H.out.n4 e.symm
  have i5 : two9 q4 q5 q5 := Or.inr rfl
  have KK := Lib.hid (fun (w' : World) (o : Only (two9 q4 q5) w0 w') => (show w'.cell? ⟨q0, 0, none⟩ = some (.int .i64 f.n) ∧ w'.cell? ⟨q0, 1, none⟩ = some (.int .i64 f.a) ∧ w'.cell? ⟨q0, 2, none⟩ = some (.int .i64 f.p) ∧ w'.cell? ⟨q0, 3, none⟩ = some (.int .i64 f.g) ∧ w'.cell? ⟨q1, 0, none⟩ = some (.int .i64 d) ∧ w'.cell? ⟨q2, 0, none⟩ = some (.int .i64 b) ∧ w'.cell? ⟨q3, 0, none⟩ = some (.int .i64 c) from by
    have hh := H0.out
    have n0 := hh.n0; have n1 := hh.n1; have n2 := hh.n2; have n3 := hh.n3
    have m0 := hh.m0; have m1 := hh.m1; have m2 := hh.m2; have m3 := hh.m3
    obtain ⟨e0, e1, e2, e3⟩ := (o.row hh.h0 (fun s => by unfold two9 at s; omega)).fl
    exact ⟨e0, e1, e2, e3, o.cell hh.h1 (fun s => by unfold two9 at s; dsimp only at s; omega), o.cell hh.h2 (fun s => by unfold two9 at s; dsimp only at s; omega), o.cell hh.h3 (fun s => by unfold two9 at s; dsimp only at s; omega)⟩))
  go_region_held3 (fun w' => w'.cell? ⟨q0, 0, none⟩ = some (.int .i64 f.n) ∧ w'.cell? ⟨q0, 1, none⟩ = some (.int .i64 f.a) ∧ w'.cell? ⟨q0, 2, none⟩ = some (.int .i64 f.p) ∧ w'.cell? ⟨q0, 3, none⟩ = some (.int .i64 f.g) ∧ w'.cell? ⟨q1, 0, none⟩ = some (.int .i64 d) ∧ w'.cell? ⟨q2, 0, none⟩ = some (.int .i64 b) ∧ w'.cell? ⟨q3, 0, none⟩ = some (.int .i64 c))
    (first
      | (with_reducible refine KK.out _ ?_; with_reducible refine Only.into (S := two9 q4 q5) ?_ i5 _ _; with_reducible refine Only.into (S := two9 q4 q5) ?_ i5 _ _; with_reducible refine Only.into (S := two9 q4 q5) ?_ i4 _ _; with_reducible refine Only.into (S := two9 q4 q5) ?_ i4 _ _; with_reducible refine Only.into (S := two9 q4 q5) ?_ i4 _ _; with_reducible refine Only.into (S := two9 q4 q5) ?_ i4 _ _; with_reducible exact O2.out.up)
      | (with_reducible refine KK.out _ ?_; with_reducible refine Only.into (S := two9 q4 q5) ?_ i4 _ _; with_reducible refine Only.into (S := two9 q4 q5) ?_ i4 _ _; with_reducible refine Only.into (S := two9 q4 q5) ?_ i4 _ _; with_reducible refine Only.into (S := two9 q4 q5) ?_ i4 _ _; with_reducible exact O2.out.up)
      | (with_reducible exact KK.out _ O2.out.up)
      | (with_reducible exact KK.out _ O1.out.up)
      | (with_reducible exact KK.out _ OD.out.up)
      | fail)
    (first
      | (go_at_call 163; (with_reducible refine (MV.out _).mono ?_); rintro e w1 ⟨rfl, o1⟩; have O1 := Lib.hid (OD.out.same o1))
      | (go_at_call 162; (with_reducible refine (AS.out _).mono ?_); rintro e w2 ⟨rfl, o2⟩; have O2 := Lib.hid (O1.out.same o2); have z4 := (O2.out.still H0.out.h4).frozen; have z5 := (O2.out.still H0.out.h5).frozen; obtain ⟨e0, e1, e2, e3⟩ := (O2.out.still H0.out.h4).fl; obtain ⟨e4, e5⟩ := (show w2.cell? ⟨q5, 0, none⟩ = some (.int .i64 0) ∧ w2.cell? ⟨q5, 1, none⟩ = some (.int .i64 0) from (O2.out.still H0.out.h5).two))
      | fail)
  go_end0
  have R4 := Lib.hid ((((((((O2.out.still H0.out.h4).put 0 (.int .i64 k.n)).put 1 (.int .i64 k.a)).put 2 (.int .i64 k.p)).put 3 (.int .i64 k.g)).far (p := ⟨q5, 0, none⟩) n45 (.int .i64 r.f)).far (p := ⟨q5, 1, none⟩) n45 (.int .i64 r.c)))
  have R5 := Lib.hid (((((((O2.out.still H0.out.h5).far (p := ⟨q4, 0, none⟩) n54 (.int .i64 k.n)).far (p := ⟨q4, 1, none⟩) n54 (.int .i64 k.a)).far (p := ⟨q4, 2, none⟩) n54 (.int .i64 k.p)).far (p := ⟨q4, 3, none⟩) n54 (.int .i64 k.g)).put 0 (.int .i64 r.f)).put 1 (.int .i64 r.c))
  refine ⟨by rw [RC.out]; rfl, ?_, ?_, ?_⟩
  · rw [RF.out]; exact R4.out
  · rw [RR.out]; exact R5.out
  · exact (((((((O.out.same O2.out).up.into i4 0 (.int .i64 k.n)).into i4 1 (.int .i64 k.a)).into i4 2 (.int .i64 k.p)).into i4 3 (.int .i64 k.g)).into i5 0 (.int .i64 r.f)).into i5 1 (.int .i64 r.c))

theorem read1_any (q0 q1 q2 q3 q4 q5 : Nat) (f : Fl) (c d b : Int) (w : World) (h : Caps w q0 q1 q2 q3 q4 q5 f c d b) :
    Calls Tryz.prog 161 #[.pointer (some ⟨q0, 0, none⟩), .pointer (some ⟨q1, 0, none⟩), .pointer (some ⟨q2, 0, none⟩), .pointer (some ⟨q3, 0, none⟩), .pointer (some ⟨q4, 0, none⟩), .pointer (some ⟨q5, 0, none⟩)] w (Left9 w q4 q5 f c d b) := by
  by_cases hm : f.May d b
  · by_cases hc : 1 ≤ c ∧ c ≤ 8 ∧ f.n + c ≤ b
    · exact read1_yes q0 q1 q2 q3 q4 q5 f c d b w h hm hc
    · exact read1_no q0 q1 q2 q3 q4 q5 f c d b w h hm hc
  · exact read1_arg q0 q1 q2 q3 q4 q5 f c d b w h hm

/-- Read's boxes, ahead of the call -/
def Boxes (w : World) (f : Fl) (c d b : Int) : World :=
  (((((w.alloc (.cells f.cells 102)).alloc (.cells #[.int .i64 c] 3)).alloc (.cells #[.int .i64 d] 3)).alloc (.cells #[.int .i64 b] 3)).alloc (.cells (Fl.mk 0 0 0 0).cells 102)).alloc (.cells (Rn.mk 0 0).cells 39)
theorem boxes_size (w : World) (f : Fl) (c d b : Int) : (Boxes w f c d b).heap.size = w.heap.size + 6 := by simp [Boxes]
theorem boxes_caps (w : World) (f : Fl) (c d b : Int) (o : Obj) : Caps ((Boxes w f c d b).alloc o) w.heap.size (w.heap.size + 2) (w.heap.size + 3) (w.heap.size + 1) (w.heap.size + 4) (w.heap.size + 5) f c d b := by
  have fresh : ∀ (w : World) (n : Nat) (t : TypeId) (cs : Array Value), n = w.heap.size → Row (w.alloc (.cells cs t)) n t cs := by
    rintro w n t cs rfl; exact Row.fresh w t cs
  refine ⟨?_, ?_, ?_, ?_, ?_, ?_, by omega, by omega, by omega, by omega, by omega, by omega, by omega, by omega, by omega⟩
  · exact ((((((fresh w _ _ _ rfl).alloc _).alloc _).alloc _).alloc _).alloc _).alloc _
  · exact (((((fresh _ _ 3 #[.int .i64 d] (by simp)).alloc _).alloc _).alloc _).alloc o).cell 0
  · exact ((((fresh _ _ 3 #[.int .i64 b] (by simp)).alloc _).alloc _).alloc o).cell 0
  · exact ((((((fresh _ _ 3 #[.int .i64 c] (by simp)).alloc _).alloc _).alloc _).alloc _).alloc o).cell 0
  · exact ((fresh _ _ 102 (Fl.mk 0 0 0 0).cells (by simp)).alloc _).alloc o
  · exact (fresh _ _ 39 (Rn.mk 0 0).cells (by simp)).alloc o

theorem read_catch (f : Fl) (c d b : Int) (w : World) :
    Calls Tryz.prog 26 #[.func (.func 161) #[] #[.pointer (some ⟨w.heap.size, 0, none⟩), .pointer (some ⟨w.heap.size + 2, 0, none⟩), .pointer (some ⟨w.heap.size + 3, 0, none⟩), .pointer (some ⟨w.heap.size + 1, 0, none⟩), .pointer (some ⟨w.heap.size + 4, 0, none⟩), .pointer (some ⟨w.heap.size + 5, 0, none⟩)]] (Boxes w f c d b)
      fun e w' => e = .returned (.int .i64 (f.readC c d b)) ∧ Row w' (w.heap.size + 4) 102 (f.readF c d b).cells ∧ Row w' (w.heap.size + 5) 39 (f.readR c d b).cells ∧ Only none_ w w' := by
  have sz := boxes_size w f c d b
  refine (catch_code 161 _ (Boxes w f c d b) (two9 (w.heap.size + 4) (w.heap.size + 5)) (fun r w' => r = coded (f.readC c d b) ∧ Row w' (w.heap.size + 4) 102 (f.readF c d b).cells ∧ Row w' (w.heap.size + 5) 39 (f.readR c d b).cells) (fun _ => rfl) (by unfold two9; omega) ?_ ((read1_any _ _ _ _ _ _ f c d b _ (boxes_caps w f c d b _)).mono ?_)).mono ?_
  · rintro r w1 v _ ⟨hr, h4, h5⟩
    exact ⟨hr, h4.far (by dsimp only; omega) v, h5.far (by dsimp only; omega) v⟩
  · rintro e w' ⟨he, h4, h5, o⟩
    exact ⟨_, he, ⟨rfl, h4, h5⟩, o⟩
  · rintro e w' ⟨r, he, ⟨rfl, h4, h5⟩, o⟩
    rw [coded_get] at he
    refine ⟨he, h4, h5, ?_⟩
    have o1 : Only none_ w (Boxes w f c d b) := ((((((Only.refl none_ w).alloc _).alloc _).alloc _).alloc _).alloc _).alloc _
    exact o1.trans o (fun i hi s => by unfold two9 at s; omega)

set_option maxHeartbeats 1000000 in
theorem read_any (f : Fl) (c d b : Int) (w : World) :
    Calls Tryz.prog 146 #[f.val, .int .i64 c, .int .i64 d, .int .i64 b] w fun e w' => e = .returned (.tuple #[(f.readF c d b).val, (f.readR c d b).val, .int .i64 (f.readC c d b)]) ∧ Only none_ w w' := by
  have C := read_catch f c d b w
  unfold Boxes Fl.cells Rn.cells at C
  generalize f.readF c d b = k at *
  generalize f.readR c d b = r at *
  generalize f.readC c d b = q at *
  rw [show w.heap.size + 2 = w.heap.size + 1 + 1 from rfl, show w.heap.size + 3 = w.heap.size + 1 + 1 + 1 from rfl, show w.heap.size + 4 = w.heap.size + 1 + 1 + 1 + 1 from rfl, show w.heap.size + 5 = w.heap.size + 1 + 1 + 1 + 1 + 1 from rfl] at C
  have C := Lib.hid C
  unfold Fl.val Rn.val
  go_enter Tryz.func146, Tryz.ntmps146
  go_wp2_with fail
  (with_reducible refine C.out.mono ?_)
  rintro e w1 ⟨rfl, h4, h5, o⟩
  have O := Lib.hid o
  have HF := Lib.hid h4
  have HR := Lib.hid h5
  clear o C h4 h5
  have n45 : w.heap.size + 1 + 1 + 1 + 1 ≠ w.heap.size + 1 + 1 + 1 + 1 + 1 := by omega
  have l4 : w.heap.size ≤ w.heap.size + 1 + 1 + 1 + 1 := by omega
  have l5 : w.heap.size ≤ w.heap.size + 1 + 1 + 1 + 1 + 1 := by omega
  generalize w.heap.size + 1 + 1 + 1 + 1 + 1 = q5 at *
  generalize w.heap.size + 1 + 1 + 1 + 1 = q4 at *
  have n54 : q5 ≠ q4 := fun e => n45 e.symm
  go_wp2_with fail
  have FD := Lib.hid HF.out.drew
  have RD := Lib.hid HR.out.drew
  obtain ⟨e0, e1, e2, e3⟩ := FD.out.four
  obtain ⟨e4, e5⟩ := RD.out.two
  have z4 := FD.out.frozen
  have z5 := RD.out.frozen
  obtain ⟨g0, g1, g2, g3⟩ := HF.out.four
  obtain ⟨g4, g5⟩ := HR.out.two
  have y4 := HF.out.frozen
  have y5 := HR.out.frozen
  go_region
  have R4 := Lib.hid ((((((((HF.out).put 0 (.int .i64 k.n)).put 1 (.int .i64 k.a)).put 2 (.int .i64 k.p)).put 3 (.int .i64 k.g)).far (p := ⟨q5, 0, none⟩) n45 (.int .i64 r.f)).far (p := ⟨q5, 1, none⟩) n45 (.int .i64 r.c)))
  have R5 := Lib.hid (((((((HR.out).far (p := ⟨q4, 0, none⟩) n54 (.int .i64 k.n)).far (p := ⟨q4, 1, none⟩) n54 (.int .i64 k.a)).far (p := ⟨q4, 2, none⟩) n54 (.int .i64 k.p)).far (p := ⟨q4, 3, none⟩) n54 (.int .i64 k.g)).put 0 (.int .i64 r.f)).put 1 (.int .i64 r.c))
  have O2 := Lib.hid ((((((O.out.new l4 0 (.int .i64 k.n)).new l4 1 (.int .i64 k.a)).new l4 2 (.int .i64 k.p)).new l4 3 (.int .i64 k.g)).new l5 0 (.int .i64 r.f)).new l5 1 (.int .i64 r.c))
  clear e0 e1 e2 e3 e4 e5 g0 g1 g2 g3 g4 g5 z4 z5 y4 y5 C
  generalize (((((w1.setCell ⟨q4, 0, none⟩ (.int .i64 k.n)).setCell ⟨q4, 1, none⟩ (.int .i64 k.a)).setCell ⟨q4, 2, none⟩ (.int .i64 k.p)).setCell ⟨q4, 3, none⟩ (.int .i64 k.g)).setCell ⟨q5, 0, none⟩ (.int .i64 r.f)).setCell ⟨q5, 1, none⟩ (.int .i64 r.c) = w2 at *
  have R4' : Row w2.drew q4 102 #[.int .i64 k.n, .int .i64 k.a, .int .i64 k.p, .int .i64 k.g] := R4.out
  have R5' : Row w2.drew q5 39 #[.int .i64 r.f, .int .i64 r.c] := R5.out
  obtain ⟨e0, e1, e2, e3⟩ := R4'.four
  obtain ⟨e4, e5⟩ := R5'.two
  go_wp2_with fail
  exact bodyPost_ret (v := .tuple #[.agg #[.int .i64 k.n, .int .i64 k.a, .int .i64 k.p, .int .i64 k.g], .agg #[.int .i64 r.f, .int .i64 r.c], .int .i64 q]) (by simp [results, Tryz.results146, go_sem, e0, e1, e2, e3, e4, e5]) rfl ⟨rfl, O2.out.drew⟩
end Go.Proofs.YtlfnncahhbbmpaaGreatDoor

namespace Go.Proofs.YtlfnncahhbbmpaaGreatDoor
open Go.RowKit
set_option linter.unusedVariables false
set_option maxRecDepth 100000

namespace Fl
def late (f : Fl) : Fl := if 1 ≤ f.p ∧ 0 ≤ f.g ∧ f.g < f.p - 1 then ⟨f.n, f.a, f.p, f.g + 1⟩ else f
/-- both numbers within their bounds -/
def ok (f : Fl) : Prop := 1 ≤ f.p ∧ 0 ≤ f.g ∧ f.g < f.p
instance (f : Fl) : Decidable f.ok := inferInstanceAs (Decidable (_ ∧ _))
def waste (f : Fl) : Fl := if 1 ≤ f.p ∧ 0 ≤ f.g ∧ f.g < f.p then ⟨f.n, f.a, max (f.p - 1) 1, min (max (f.g - 1) 0) (max (f.p - 1) 1 - 1)⟩ else f
def trigger (f : Fl) : Int := if 0 ≤ f.a ∧ 0 ≤ f.g then f.a - 1 - f.g else 0
def start (n : Int) : Fl := ⟨n, n, 1, 0⟩
end Fl

theorem held_iff (f : Fl) (h : f.Wf) : (f = f.held 9223372036854775807) ↔ f.ok := by
  obtain ⟨_, _, _, _, h1, h2, h3, h4⟩ := h
  obtain ⟨n, a, p, g⟩ := f
  unfold Fl.held Fl.ok
  dsimp only at h1 h2 h3 h4 ⊢
  simp only [Fl.mk.injEq, true_and]
  omega

theorem start_any (n : Int) (w : World) : Calls Tryz.prog 41 #[.int .i64 n] w fun e w' => e = .returned (Fl.start n).val ∧ Only none_ w w' := by
  unfold Fl.val Fl.start
  go_enter Tryz.func41, Tryz.ntmps41
  go_wp2_with fail
  exact bodyPost_ret (v := .agg #[.int .i64 n, .int .i64 n, .int .i64 1, .int .i64 0]) (by simp [results, Tryz.results41, go_sem]) rfl ⟨rfl, (Only.refl none_ w).alloc _⟩

set_option maxHeartbeats 1000000 in
theorem late_any (f : Fl) (w : World) (h : f.Wf) : Calls Tryz.prog 125 #[f.val] w fun e w' => e = .returned f.late.val ∧ Only none_ w w' := by
  have HI := Lib.hid (held_iff f h)
  have H := Lib.hid (fun g w => pheld_any g 9223372036854775807 w (by omega) (by omega))
  have HW := Lib.hid h
  clear h
  unfold Fl.val at H ⊢
  go_enter Tryz.func125, Tryz.ntmps125
  go_wp2_with fail
  have r0 := (Row.fresh w 102 #[.int .i64 f.n, .int .i64 f.a, .int .i64 f.p, .int .i64 f.g]).alloc (.cells #[.int .i64 0, .int .i64 0, .int .i64 0, .int .i64 0] 102)
  have r1 := Row.fresh (w.alloc (.cells #[.int .i64 f.n, .int .i64 f.a, .int .i64 f.p, .int .i64 f.g] 102)) 102 #[.int .i64 0, .int .i64 0, .int .i64 0, .int .i64 0]
  rw [World.size_alloc] at r1
  have OA := Lib.hid (((Only.refl none_ w).alloc (.cells #[.int .i64 f.n, .int .i64 f.a, .int .i64 f.p, .int .i64 f.g] 102)).alloc (.cells #[.int .i64 0, .int .i64 0, .int .i64 0, .int .i64 0] 102))
  have n01 : w.heap.size ≠ w.heap.size + 1 := by omega
  generalize (w.alloc (.cells #[.int .i64 f.n, .int .i64 f.a, .int .i64 f.p, .int .i64 f.g] 102)).alloc (.cells #[.int .i64 0, .int .i64 0, .int .i64 0, .int .i64 0] 102) = w0 at *
  obtain ⟨q1, hq1⟩ : ∃ q1, w.heap.size + 1 = q1 := ⟨_, rfl⟩
  obtain ⟨q0, hq0⟩ : ∃ q0, w.heap.size = q0 := ⟨_, rfl⟩
  have L0 := Lib.hid (show w.heap.size ≤ q0 by omega)
  have L1 := Lib.hid (show w.heap.size ≤ q1 by omega)
  rw [hq1] at n01 r1 ⊢
  rw [hq0] at n01 r0 ⊢
  clear hq0 hq1
  have n10 : q1 ≠ q0 := fun e => n01 e.symm
  have R0 := Lib.hid r0
  have R1 := Lib.hid r1
  clear r0 r1
  have OD := Lib.hid (Only.refl none_ w0).drew
  obtain ⟨c0, c1, c2, c3⟩ := (OD.out.still R0.out).four
  have RF := Lib.hid (fun w' (o : Only none_ w0 w') => (o.still R0.out).four)
  by_cases hk : f.ok
  · have EQ := fun w => eq_fl f (f.held 9223372036854775807) w
    rw [decide_eq_true (HI.out.2 hk)] at EQ
    have k1 := hk.1
    have k2 := hk.2.1
    have k3 := hk.2.2
    have p1 := HW.out.p1
    have g1 := HW.out.g1
    have v1 : IntKind.i64.wrap (f.g + 1) = f.g + 1 := by rw [IntKind.wrap_i64]; omega
    have T := Lib.hid (show f.late = (Fl.mk f.n f.a f.p (f.g + 1)).held 9223372036854775807 from by
      unfold Fl.late Fl.held
      dsimp only
      by_cases hc : f.g < f.p - 1
      · rw [if_pos ⟨k1, k2, hc⟩]; simp only [Fl.mk.injEq, true_and]; omega
      · rw [if_neg (fun h => hc h.2.2)]
        obtain ⟨n, a, p, g⟩ := f
        dsimp only at *
        simp only [Fl.mk.injEq, true_and]; omega)
    clear HI HW k1 k2 k3 p1 g1 hk
    go_region_held3 (fun w' => w'.cell? ⟨q0, 0, none⟩ = some (.int .i64 f.n) ∧ w'.cell? ⟨q0, 1, none⟩ = some (.int .i64 f.a) ∧ w'.cell? ⟨q0, 2, none⟩ = some (.int .i64 f.p) ∧ w'.cell? ⟨q0, 3, none⟩ = some (.int .i64 f.g))
      (first
        | (with_reducible exact RF.out _ O1.out)
        | (with_reducible exact RF.out _ OD.out)
        | fail)
      (first
        | (go_at_call 140; (with_reducible refine (H.out f _).mono ?_); rintro e w1 ⟨rfl, o1⟩; have O1 := Lib.hid (OD.out.same o1.only))
        | fail)
    rename_i hHeld
    clear hHeld o1 EQ c0 c1 c2 c3 RF OD
    have A1 := Lib.hid (OA.out.same O1.out)
    have S0 := Lib.hid (O1.out.still R0.out)
    have S1 := Lib.hid (O1.out.still R1.out)
    obtain ⟨c0, c1, c2, c3⟩ := S0.out.four
    obtain ⟨d0, d1, d2, d3⟩ := S1.out.four
    have z0 := S0.out.frozen
    have z1 := S1.out.frozen
    clear O1 OA R0 R1
    generalize f.held 9223372036854775807 = hh at *
    go_wp2_with fail
    (with_reducible refine (H.out (Fl.mk f.n f.a f.p (f.g + 1)) _).mono ?_)
    rintro e w2 ⟨rfl, o2⟩
    have T' := Lib.hid T.out
    generalize (Fl.mk f.n f.a f.p (f.g + 1)).held 9223372036854775807 = k at *
    have S0' := Lib.hid (o2.only.still (S0.out.put 3 (.int .i64 (f.g + 1))))
    have S1' := Lib.hid (o2.only.still (S1.out.far (p := ⟨q0, 3, none⟩) n10 (.int .i64 (f.g + 1))))
    have A2 := Lib.hid ((A1.out.new L0.out 3 (.int .i64 (f.g + 1))).same o2.only)
    clear c0 c1 c2 c3 d0 d1 d2 d3 z0 z1 o2 S0 S1 A1
    have z1 := S1'.out.frozen
    obtain ⟨d0, d1, d2, d3⟩ := S1'.out.four
    go_wp2_with fail
    have e0 := Lib.hid ((((S1'.out.put 0 (.int .i64 k.n)).put 1 (.int .i64 k.a)).put 2 (.int .i64 k.p)).put 3 (.int .i64 k.g))
    have A3 := Lib.hid ((((A2.out.new L1.out 0 (.int .i64 k.n)).new L1.out 1 (.int .i64 k.a)).new L1.out 2 (.int .i64 k.p)).new L1.out 3 (.int .i64 k.g))
    clear d0 d1 d2 d3 z1
    generalize (((w2.setCell ⟨q1, 0, none⟩ (.int .i64 k.n)).setCell ⟨q1, 1, none⟩ (.int .i64 k.a)).setCell ⟨q1, 2, none⟩ (.int .i64 k.p)).setCell ⟨q1, 3, none⟩ (.int .i64 k.g) = w3 at *
    obtain ⟨d0, d1, d2, d3⟩ := (show Row w3 q1 102 #[.int .i64 k.n, .int .i64 k.a, .int .i64 k.p, .int .i64 k.g] from e0.out).four
    rw [T.out]
    exact bodyPost_ret (v := .agg #[.int .i64 k.n, .int .i64 k.a, .int .i64 k.p, .int .i64 k.g]) (by simp [results, Tryz.results125, go_sem, d0, d1, d2, d3]) rfl ⟨rfl, A3.out⟩
  · have EQ := fun w => eq_fl f (f.held 9223372036854775807) w
    rw [decide_eq_false (fun e => hk (HI.out.1 e))] at EQ
    have T := Lib.hid (show f.late = f from by
      unfold Fl.late
      rw [if_neg]
      rintro ⟨x1, x2, x3⟩
      exact hk ⟨x1, x2, by omega⟩)
    clear HI HW hk
    go_region_held3 (fun w' => w'.cell? ⟨q0, 0, none⟩ = some (.int .i64 f.n) ∧ w'.cell? ⟨q0, 1, none⟩ = some (.int .i64 f.a) ∧ w'.cell? ⟨q0, 2, none⟩ = some (.int .i64 f.p) ∧ w'.cell? ⟨q0, 3, none⟩ = some (.int .i64 f.g))
      (first
        | (with_reducible exact RF.out _ O1.out)
        | (with_reducible exact RF.out _ OD.out)
        | fail)
      (first
        | (go_at_call 140; (with_reducible refine (H.out f _).mono ?_); rintro e w1 ⟨rfl, o1⟩; have O1 := Lib.hid (OD.out.same o1.only))
        | fail)
    rename_i hHeld
    clear hHeld o1 EQ c0 c1 c2 c3 RF OD
    have A1 := Lib.hid (OA.out.same O1.out)
    have S0 := Lib.hid (O1.out.still R0.out)
    have S1 := Lib.hid (O1.out.still R1.out)
    obtain ⟨c0, c1, c2, c3⟩ := S0.out.four
    obtain ⟨d0, d1, d2, d3⟩ := S1.out.four
    have z1 := S1.out.frozen
    clear O1 OA R0 R1
    generalize f.held 9223372036854775807 = hh at *
    go_wp2_with fail
    have e0 := Lib.hid ((((S1.out.put 0 (.int .i64 f.n)).put 1 (.int .i64 f.a)).put 2 (.int .i64 f.p)).put 3 (.int .i64 f.g))
    have A2 := Lib.hid ((((A1.out.new L1.out 0 (.int .i64 f.n)).new L1.out 1 (.int .i64 f.a)).new L1.out 2 (.int .i64 f.p)).new L1.out 3 (.int .i64 f.g))
    clear c0 c1 c2 c3 d0 d1 d2 d3 z1
    generalize (((w1.setCell ⟨q1, 0, none⟩ (.int .i64 f.n)).setCell ⟨q1, 1, none⟩ (.int .i64 f.a)).setCell ⟨q1, 2, none⟩ (.int .i64 f.p)).setCell ⟨q1, 3, none⟩ (.int .i64 f.g) = w3 at *
    obtain ⟨d0, d1, d2, d3⟩ := (show Row w3 q1 102 #[.int .i64 f.n, .int .i64 f.a, .int .i64 f.p, .int .i64 f.g] from e0.out).four
    rw [T.out]
    exact bodyPost_ret (v := .agg #[.int .i64 f.n, .int .i64 f.a, .int .i64 f.p, .int .i64 f.g]) (by simp [results, Tryz.results125, go_sem, d0, d1, d2, d3]) rfl ⟨rfl, A2.out⟩
set_option maxHeartbeats 1000000 in
theorem waste_any (f : Fl) (w : World) (h : f.Wf) : Calls Tryz.prog 126 #[f.val] w fun e w' => e = .returned f.waste.val ∧ Only none_ w w' := by
  have HI := Lib.hid (held_iff f h)
  have H := Lib.hid (fun g w => pheld_any g 9223372036854775807 w (by omega) (by omega))
  have HW := Lib.hid h
  clear h
  unfold Fl.val at H ⊢
  go_enter Tryz.func126, Tryz.ntmps126
  go_wp2_with fail
  have r0 := (Row.fresh w 102 #[.int .i64 f.n, .int .i64 f.a, .int .i64 f.p, .int .i64 f.g]).alloc (.cells #[.int .i64 0, .int .i64 0, .int .i64 0, .int .i64 0] 102)
  have r1 := Row.fresh (w.alloc (.cells #[.int .i64 f.n, .int .i64 f.a, .int .i64 f.p, .int .i64 f.g] 102)) 102 #[.int .i64 0, .int .i64 0, .int .i64 0, .int .i64 0]
  rw [World.size_alloc] at r1
  have OA := Lib.hid (((Only.refl none_ w).alloc (.cells #[.int .i64 f.n, .int .i64 f.a, .int .i64 f.p, .int .i64 f.g] 102)).alloc (.cells #[.int .i64 0, .int .i64 0, .int .i64 0, .int .i64 0] 102))
  have n01 : w.heap.size ≠ w.heap.size + 1 := by omega
  generalize (w.alloc (.cells #[.int .i64 f.n, .int .i64 f.a, .int .i64 f.p, .int .i64 f.g] 102)).alloc (.cells #[.int .i64 0, .int .i64 0, .int .i64 0, .int .i64 0] 102) = w0 at *
  obtain ⟨q1, hq1⟩ : ∃ q1, w.heap.size + 1 = q1 := ⟨_, rfl⟩
  obtain ⟨q0, hq0⟩ : ∃ q0, w.heap.size = q0 := ⟨_, rfl⟩
  have L0 := Lib.hid (show w.heap.size ≤ q0 by omega)
  have L1 := Lib.hid (show w.heap.size ≤ q1 by omega)
  rw [hq1] at n01 r1 ⊢
  rw [hq0] at n01 r0 ⊢
  clear hq0 hq1
  have n10 : q1 ≠ q0 := fun e => n01 e.symm
  have R0 := Lib.hid r0
  have R1 := Lib.hid r1
  clear r0 r1
  have OD := Lib.hid (Only.refl none_ w0).drew
  obtain ⟨c0, c1, c2, c3⟩ := (OD.out.still R0.out).four
  have RF := Lib.hid (fun w' (o : Only none_ w0 w') => (o.still R0.out).four)
  by_cases hk : f.ok
  · have EQ := fun w => eq_fl f (f.held 9223372036854775807) w
    rw [decide_eq_true (HI.out.2 hk)] at EQ
    have k1 := hk.1
    have k2 := hk.2.1
    have k3 := hk.2.2
    have p1 := HW.out.p1
    have g1 := HW.out.g1
    have v1 : IntKind.i64.wrap (f.g - 1) = f.g - 1 := by rw [IntKind.wrap_i64]; omega
    have v2 : IntKind.i64.wrap (f.p - 1) = f.p - 1 := by rw [IntKind.wrap_i64]; omega
    have T := Lib.hid (show f.waste = (Fl.mk f.n f.a (f.p - 1) (f.g - 1)).held 9223372036854775807 from by
      unfold Fl.waste Fl.held
      dsimp only
      rw [if_pos ⟨k1, k2, k3⟩]
      simp only [Fl.mk.injEq, true_and]; omega)
    clear HI HW k1 k2 k3 p1 g1 hk
    go_region_held3 (fun w' => w'.cell? ⟨q0, 0, none⟩ = some (.int .i64 f.n) ∧ w'.cell? ⟨q0, 1, none⟩ = some (.int .i64 f.a) ∧ w'.cell? ⟨q0, 2, none⟩ = some (.int .i64 f.p) ∧ w'.cell? ⟨q0, 3, none⟩ = some (.int .i64 f.g))
      (first
        | (with_reducible exact RF.out _ O1.out)
        | (with_reducible exact RF.out _ OD.out)
        | fail)
      (first
        | (go_at_call 140; (with_reducible refine (H.out f _).mono ?_); rintro e w1 ⟨rfl, o1⟩; have O1 := Lib.hid (OD.out.same o1.only))
        | fail)
    rename_i hHeld
    clear hHeld o1 EQ c0 c1 c2 c3 RF OD
    have A1 := Lib.hid (OA.out.same O1.out)
    have S0 := Lib.hid (O1.out.still R0.out)
    have S1 := Lib.hid (O1.out.still R1.out)
    obtain ⟨c0, c1, c2, c3⟩ := S0.out.four
    obtain ⟨d0, d1, d2, d3⟩ := S1.out.four
    have z0 := S0.out.frozen
    have z1 := S1.out.frozen
    clear O1 OA R0 R1
    generalize f.held 9223372036854775807 = hh at *
    go_wp2_with fail
    (with_reducible refine (H.out (Fl.mk f.n f.a (f.p - 1) (f.g - 1)) _).mono ?_)
    rintro e w2 ⟨rfl, o2⟩
    have T' := Lib.hid T.out
    generalize (Fl.mk f.n f.a (f.p - 1) (f.g - 1)).held 9223372036854775807 = k at *
    have S0' := Lib.hid (o2.only.still ((S0.out.put 2 (.int .i64 (f.p - 1))).put 3 (.int .i64 (f.g - 1))))
    have S1' := Lib.hid (o2.only.still ((S1.out.far (p := ⟨q0, 2, none⟩) n10 (.int .i64 (f.p - 1))).far (p := ⟨q0, 3, none⟩) n10 (.int .i64 (f.g - 1))))
    have A2 := Lib.hid (((A1.out.new L0.out 2 (.int .i64 (f.p - 1))).new L0.out 3 (.int .i64 (f.g - 1))).same o2.only)
    clear c0 c1 c2 c3 d0 d1 d2 d3 z0 z1 o2 S0 S1 A1
    have z1 := S1'.out.frozen
    obtain ⟨d0, d1, d2, d3⟩ := S1'.out.four
    go_wp2_with fail
    have e0 := Lib.hid ((((S1'.out.put 0 (.int .i64 k.n)).put 1 (.int .i64 k.a)).put 2 (.int .i64 k.p)).put 3 (.int .i64 k.g))
    have A3 := Lib.hid ((((A2.out.new L1.out 0 (.int .i64 k.n)).new L1.out 1 (.int .i64 k.a)).new L1.out 2 (.int .i64 k.p)).new L1.out 3 (.int .i64 k.g))
    clear d0 d1 d2 d3 z1
    generalize (((w2.setCell ⟨q1, 0, none⟩ (.int .i64 k.n)).setCell ⟨q1, 1, none⟩ (.int .i64 k.a)).setCell ⟨q1, 2, none⟩ (.int .i64 k.p)).setCell ⟨q1, 3, none⟩ (.int .i64 k.g) = w3 at *
    obtain ⟨d0, d1, d2, d3⟩ := (show Row w3 q1 102 #[.int .i64 k.n, .int .i64 k.a, .int .i64 k.p, .int .i64 k.g] from e0.out).four
    rw [T.out]
    exact bodyPost_ret (v := .agg #[.int .i64 k.n, .int .i64 k.a, .int .i64 k.p, .int .i64 k.g]) (by simp [results, Tryz.results126, go_sem, d0, d1, d2, d3]) rfl ⟨rfl, A3.out⟩
  · have EQ := fun w => eq_fl f (f.held 9223372036854775807) w
    rw [decide_eq_false (fun e => hk (HI.out.1 e))] at EQ
    have T := Lib.hid (show f.waste = f from by
      unfold Fl.waste
      rw [if_neg]
      rintro ⟨x1, x2, x3⟩
      exact hk ⟨x1, x2, x3⟩)
    clear HI HW hk
    go_region_held3 (fun w' => w'.cell? ⟨q0, 0, none⟩ = some (.int .i64 f.n) ∧ w'.cell? ⟨q0, 1, none⟩ = some (.int .i64 f.a) ∧ w'.cell? ⟨q0, 2, none⟩ = some (.int .i64 f.p) ∧ w'.cell? ⟨q0, 3, none⟩ = some (.int .i64 f.g))
      (first
        | (with_reducible exact RF.out _ O1.out)
        | (with_reducible exact RF.out _ OD.out)
        | fail)
      (first
        | (go_at_call 140; (with_reducible refine (H.out f _).mono ?_); rintro e w1 ⟨rfl, o1⟩; have O1 := Lib.hid (OD.out.same o1.only))
        | fail)
    rename_i hHeld
    clear hHeld o1 EQ c0 c1 c2 c3 RF OD
    have A1 := Lib.hid (OA.out.same O1.out)
    have S0 := Lib.hid (O1.out.still R0.out)
    have S1 := Lib.hid (O1.out.still R1.out)
    obtain ⟨c0, c1, c2, c3⟩ := S0.out.four
    obtain ⟨d0, d1, d2, d3⟩ := S1.out.four
    have z1 := S1.out.frozen
    clear O1 OA R0 R1
    generalize f.held 9223372036854775807 = hh at *
    go_wp2_with fail
    have e0 := Lib.hid ((((S1.out.put 0 (.int .i64 f.n)).put 1 (.int .i64 f.a)).put 2 (.int .i64 f.p)).put 3 (.int .i64 f.g))
    have A2 := Lib.hid ((((A1.out.new L1.out 0 (.int .i64 f.n)).new L1.out 1 (.int .i64 f.a)).new L1.out 2 (.int .i64 f.p)).new L1.out 3 (.int .i64 f.g))
    clear c0 c1 c2 c3 d0 d1 d2 d3 z1
    generalize (((w1.setCell ⟨q1, 0, none⟩ (.int .i64 f.n)).setCell ⟨q1, 1, none⟩ (.int .i64 f.a)).setCell ⟨q1, 2, none⟩ (.int .i64 f.p)).setCell ⟨q1, 3, none⟩ (.int .i64 f.g) = w3 at *
    obtain ⟨d0, d1, d2, d3⟩ := (show Row w3 q1 102 #[.int .i64 f.n, .int .i64 f.a, .int .i64 f.p, .int .i64 f.g] from e0.out).four
    rw [T.out]
    exact bodyPost_ret (v := .agg #[.int .i64 f.n, .int .i64 f.a, .int .i64 f.p, .int .i64 f.g]) (by simp [results, Tryz.results126, go_sem, d0, d1, d2, d3]) rfl ⟨rfl, A2.out⟩
end Go.Proofs.YtlfnncahhbbmpaaGreatDoor

namespace Go.Proofs.YtlfnncahhbbmpaaGreatDoor
set_option linter.unusedVariables false
set_option maxRecDepth 100000

/-- a stream: its number, its pace, which access used it last -/
structure Sm where
  id : Nat
  f : Fl
  used : Nat
  deriving DecidableEq
instance : Inhabited Sm := ⟨⟨0, ⟨0, 0, 0, 0⟩, 0⟩⟩
def Sm.cells (s : Sm) : List Value := [.int .i64 s.id, .int .i64 s.f.n, .int .i64 s.f.a, .int .i64 s.f.p, .int .i64 s.f.g, .int .i64 s.used]
theorem sm6 : ∀ s : Sm, s.cells.length = 6 := fun _ => rfl

/-- what a tracker is made of -/
structure Cf where
  most : Nat
  size : Nat
  life : Nat
  deg : Nat
  blk : Nat
structure Cf.Ok (c : Cf) : Prop where
  m1 : 1 ≤ c.most
  m16 : c.most ≤ 16
  s1 : 1 ≤ c.size
  s32 : c.size ≤ 32
  l1 : 1 ≤ c.life
  l64 : c.life ≤ 64
  d1 : 1 ≤ c.deg
  d16 : c.deg ≤ 16
  b1 : 1 ≤ c.blk
  b256 : c.blk ≤ 256

/-- a tracker: its streams, its table, how many accesses there were, how many streams -/
structure Tr where
  ss : List Sm
  es : List En
  uses : Nat
  begun : Nat

/-- an access that may be -/
def mayAcc (b : Nat) (f c : Int) : Bool := decide (1 ≤ c ∧ c ≤ 8 ∧ 0 ≤ f ∧ f + c ≤ b)
theorem mayAcc_iff {b : Nat} {f c : Int} : mayAcc b f c = true ↔ 1 ≤ c ∧ c ≤ 8 ∧ 0 ≤ f ∧ f + c ≤ b := by
  unfold mayAcc; simp
def fits (x : Int) (s : Sm) : Bool := s.f.n == x
/-- of those that fit the one that was used last -/
def topOf (ss : List Sm) (x : Int) : Option Nat := ss.findIdx? (fun s => fits x s && ss.all (fun t => !fits x t || decide (t.used ≤ s.used)))
/-- the one that was used longest ago -/
def lowOf (ss : List Sm) : Option Nat := ss.findIdx? (fun s => ss.all (fun t => decide (s.used ≤ t.used)))
/-- the one that has a number -/
def idOf (ss : List Sm) (i : Int) : Option Nat := ss.findIdx? (fun s => (s.id : Int) == i)

theorem idx_is {α : Type} {l : List α} {p : α → Bool} {k : Nat} {a : α} (h : l[k]? = some a) (hp : p a = true) (hn : ∀ j b, j < k → l[j]? = some b → p b = false) : l.findIdx? p = some k := by
  have hk := lt_of_get h
  rw [List.findIdx?_eq_some_iff_getElem]
  refine ⟨hk, ?_, fun j hj => ?_⟩
  · rw [List.getElem?_eq_getElem hk] at h
    injection h with h
    rw [h]; exact hp
  · have := hn j l[j] hj (List.getElem?_eq_getElem (by omega))
    simp [this]
theorem idx_of {α : Type} {l : List α} {p : α → Bool} {k : Nat} (h : l.findIdx? p = some k) : ∃ a, l[k]? = some a ∧ p a = true ∧ ∀ j b, j < k → l[j]? = some b → p b = false := by
  rw [List.findIdx?_eq_some_iff_getElem] at h
  obtain ⟨hk, h1, h2⟩ := h
  refine ⟨l[k], List.getElem?_eq_getElem hk, h1, fun j b hj hb => ?_⟩
  have := h2 j hj
  rw [List.getElem?_eq_getElem (by omega)] at hb
  injection hb with hb
  rw [hb] at this
  simpa using this
theorem idx_none {α : Type} {l : List α} {p : α → Bool} (h : ∀ (j : Nat) b, l[j]? = some b → p b = false) : l.findIdx? p = none := by
  rw [List.findIdx?_eq_none_iff]
  intro a ha
  obtain ⟨j, hj, rfl⟩ := List.getElem_of_mem ha
  exact h j _ (List.getElem?_eq_getElem hj)
theorem idx_no {α : Type} {l : List α} {p : α → Bool} (h : l.findIdx? p = none) : ∀ (j : Nat) b, l[j]? = some b → p b = false := by
  rw [List.findIdx?_eq_none_iff] at h
  intro j b hb
  exact h b (List.mem_of_getElem? hb)

/-- numbers rise; uses are apart -/
structure Ranks (ss : List Sm) : Prop where
  rise : ss.Pairwise (fun a b => a.id < b.id)
  apart : ss.Pairwise (fun a b => a.used ≠ b.used)
theorem pair_at {α : Type} {R : α → α → Prop} {l : List α} (h : l.Pairwise R) {i j : Nat} {a b : α} (hi : l[i]? = some a) (hj : l[j]? = some b) (k : i < j) : R a b := by
  have li := lt_of_get hi
  have lj := lt_of_get hj
  rw [List.getElem?_eq_getElem li] at hi
  rw [List.getElem?_eq_getElem lj] at hj
  injection hi with hi
  injection hj with hj
  subst hi; subst hj
  exact List.pairwise_iff_getElem.1 h i j li lj k
theorem used_one {ss : List Sm} (h : ss.Pairwise (fun a b => a.used ≠ b.used)) {i j : Nat} {a b : Sm} (hi : ss[i]? = some a) (hj : ss[j]? = some b) (k : a.used = b.used) : i = j := by
  rcases Nat.lt_trichotomy i j with q | q | q
  · exact absurd k (pair_at h hi hj q)
  · exact q
  · exact absurd k.symm (pair_at h hj hi q)
theorem id_one {ss : List Sm} (h : ss.Pairwise (fun a b => a.id < b.id)) {i j : Nat} {a b : Sm} (hi : ss[i]? = some a) (hj : ss[j]? = some b) (k : a.id = b.id) : i = j := by
  rcases Nat.lt_trichotomy i j with q | q | q
  · have := pair_at h hi hj q; omega
  · exact q
  · have := pair_at h hj hi q; omega

theorem top_is {ss : List Sm} {x : Int} {k : Nat} {s : Sm} (h : ss.Pairwise (fun a b => a.used ≠ b.used)) (hk : ss[k]? = some s) (hx : s.f.n = x) (hm : ∀ (j : Nat) t, ss[j]? = some t → t.f.n = x → t.used ≤ s.used) : topOf ss x = some k := by
  unfold topOf
  refine idx_is hk ?_ ?_
  · simp only [Bool.and_eq_true, List.all_eq_true, fits]
    refine ⟨by simp [hx], fun t ht => ?_⟩
    obtain ⟨j, hj⟩ := List.mem_iff_getElem?.1 ht
    by_cases e : t.f.n = x
    · have := hm j t hj e
      simp [this]
    · simp [e]
  · intro j b hj hb
    rw [Bool.eq_false_iff]
    simp only [ne_eq, Bool.and_eq_true, List.all_eq_true, fits, not_and]
    intro e q
    have e : b.f.n = x := by simpa using e
    have h1 := q s (List.mem_of_getElem? hk)
    simp [hx] at h1
    have h2 := hm j b hb e
    have := used_one h hb hk (by omega)
    omega
theorem top_none {ss : List Sm} {x : Int} (h : ∀ (j : Nat) t, ss[j]? = some t → t.f.n ≠ x) : topOf ss x = none :=
  idx_none (fun j b hb => by
    have := h j b hb
    simp [fits, this])
theorem top_of {ss : List Sm} {x : Int} {k : Nat} (h : topOf ss x = some k) : ∃ s, ss[k]? = some s ∧ s.f.n = x ∧ ∀ (j : Nat) t, ss[j]? = some t → t.f.n = x → t.used ≤ s.used := by
  obtain ⟨s, hs, hp, _⟩ := idx_of h
  simp only [Bool.and_eq_true, List.all_eq_true, fits] at hp
  refine ⟨s, hs, by simpa using hp.1, fun j t ht e => ?_⟩
  have := hp.2 t (List.mem_of_getElem? ht)
  simpa [e] using this
/-- of some there is one that is greatest -/
theorem some_top : ∀ {ss : List Sm} {p : Sm → Bool}, (∃ s ∈ ss, p s = true) → ∃ s ∈ ss, p s = true ∧ ∀ t ∈ ss, p t = true → t.used ≤ s.used
  | [], _, ⟨_, h, _⟩ => by cases h
  | a :: r, p, h => by
    by_cases k : ∃ s ∈ r, p s = true
    · obtain ⟨s, hs, hp, hm⟩ := some_top k
      by_cases q : p a = true ∧ s.used ≤ a.used
      · refine ⟨a, by simp, q.1, fun t ht e => ?_⟩
        rcases List.mem_cons.1 ht with rfl | ht
        · exact Nat.le_refl _
        · exact Nat.le_trans (hm t ht e) q.2
      · refine ⟨s, by simp [hs], hp, fun t ht e => ?_⟩
        rcases List.mem_cons.1 ht with rfl | ht
        · exact Nat.le_of_lt (Nat.lt_of_not_le (fun u => q ⟨e, u⟩))
        · exact hm t ht e
    · obtain ⟨s, hs, hp⟩ := h
      rcases List.mem_cons.1 hs with rfl | hs
      · refine ⟨s, by simp, hp, fun t ht e => ?_⟩
        rcases List.mem_cons.1 ht with rfl | ht
        · exact Nat.le_refl _
        · exact absurd ⟨t, ht, e⟩ k
      · exact absurd ⟨s, hs, hp⟩ k
theorem top_no {ss : List Sm} {x : Int} (h : topOf ss x = none) : ∀ (j : Nat) t, ss[j]? = some t → t.f.n ≠ x := by
  intro j t ht e
  obtain ⟨s, hs, hp, hm⟩ := some_top (p := fits x) ⟨t, List.mem_of_getElem? ht, by simp [fits, e]⟩
  obtain ⟨i, hi⟩ := List.mem_iff_getElem?.1 hs
  have := idx_no h i s hi
  rw [Bool.eq_false_iff] at this
  apply this
  simp only [Bool.and_eq_true, List.all_eq_true]
  refine ⟨hp, fun u hu => ?_⟩
  by_cases q : fits x u = true
  · simp [hm u hu q]
  · simp [q]
theorem low_is {ss : List Sm} {k : Nat} {s : Sm} (h : ss.Pairwise (fun a b => a.used ≠ b.used)) (hk : ss[k]? = some s) (hm : ∀ (j : Nat) t, ss[j]? = some t → s.used ≤ t.used) : lowOf ss = some k := by
  unfold lowOf
  refine idx_is hk ?_ ?_
  · simp only [List.all_eq_true, decide_eq_true_eq]
    intro t ht
    obtain ⟨j, hj⟩ := List.mem_iff_getElem?.1 ht
    exact hm j t hj
  · intro j b hj hb
    rw [Bool.eq_false_iff]
    simp only [ne_eq, List.all_eq_true, decide_eq_true_eq]
    intro q
    have h1 := q s (List.mem_of_getElem? hk)
    have h2 := hm j b hb
    have := used_one h hb hk (by omega)
    omega
theorem low_of {ss : List Sm} {k : Nat} (h : lowOf ss = some k) : ∃ s, ss[k]? = some s ∧ ∀ (j : Nat) t, ss[j]? = some t → s.used ≤ t.used := by
  obtain ⟨s, hs, hp, _⟩ := idx_of h
  simp only [List.all_eq_true, decide_eq_true_eq] at hp
  exact ⟨s, hs, fun j t ht => hp t (List.mem_of_getElem? ht)⟩
theorem id_is {ss : List Sm} {i : Int} {k : Nat} {s : Sm} (hk : ss[k]? = some s) (hi : (s.id : Int) = i) (hn : ∀ (j : Nat) t, j < k → ss[j]? = some t → (t.id : Int) ≠ i) : idOf ss i = some k :=
  idx_is hk (by simp [hi]) (fun j b hj hb => by simpa using hn j b hj hb)
theorem id_none {ss : List Sm} {i : Int} (h : ∀ (j : Nat) t, ss[j]? = some t → (t.id : Int) ≠ i) : idOf ss i = none := idx_none (fun j b hb => by simpa using h j b hb)
theorem id_of {ss : List Sm} {i : Int} {k : Nat} (h : idOf ss i = some k) : ∃ s, ss[k]? = some s ∧ (s.id : Int) = i := by
  obtain ⟨s, hs, hp, _⟩ := idx_of h
  exact ⟨s, hs, by simpa using hp⟩
theorem id_no {ss : List Sm} {i : Int} (h : idOf ss i = none) : ∀ (j : Nat) t, ss[j]? = some t → (t.id : Int) ≠ i := fun j t ht => by simpa using idx_no h j t ht

/-- with room for one more -/
def fewer (most : Nat) (ss : List Sm) : List Sm := if most ≤ ss.length then ss.eraseIdx ((lowOf ss).getD 0) else ss
/-- a stream behind an access -/
def usedBy (c : Cf) (s : Sm) (n : Int) (u : Nat) : Sm := ⟨s.id, s.f.readF n c.deg c.blk, u⟩
/-- an access -/
def accS (c : Cf) (t : Tr) (f n : Int) : Tr :=
  if mayAcc c.blk f n then
    match topOf t.ss f with
    | some k => ⟨t.ss.set k (usedBy c (t.ss[k]?.getD default) n (t.uses + 1)), t.es, t.uses + 1, t.begun⟩
    | none => if lookB c.size c.life t.es f n then ⟨fewer c.most t.ss ++ [usedBy c ⟨t.begun + 1, Fl.start f, 0⟩ n (t.uses + 1)], lookT c.size c.life t.es f n, t.uses + 1, t.begun + 1⟩
      else ⟨t.ss, lookT c.size c.life t.es f n, t.uses + 1, t.begun⟩
  else t
def accI (c : Cf) (t : Tr) (f n : Int) : Nat :=
  if mayAcc c.blk f n then
    match topOf t.ss f with
    | some k => (t.ss[k]?.getD default).id
    | none => if lookB c.size c.life t.es f n then t.begun + 1 else 0
  else 0
def accR (c : Cf) (t : Tr) (f n : Int) : Rn :=
  if mayAcc c.blk f n then
    match topOf t.ss f with
    | some k => (t.ss[k]?.getD default).f.readR n c.deg c.blk
    | none => if lookB c.size c.life t.es f n then (Fl.start f).readR n c.deg c.blk else ⟨0, 0⟩
  else ⟨0, 0⟩
def accC (b : Nat) (f n : Int) : Int := if mayAcc b f n then 0 else 1
/-- what is told of a stream -/
def Sm.tune (s : Sm) (late : Bool) : Sm := ⟨s.id, if late then s.f.late else s.f.waste, s.used⟩
def tuneS (t : Tr) (i : Int) (late : Bool) : Tr :=
  match idOf t.ss i with
  | some k => ⟨t.ss.set k ((t.ss[k]?.getD default).tune late), t.es, t.uses, t.begun⟩
  | none => t
def tuneB (t : Tr) (i : Int) : Bool := (idOf t.ss i).isSome

/-- what a tracker is -/
structure Fine10 (c : Cf) (t : Tr) : Prop where
  ok : c.Ok
  rank : Ranks t.ss
  ids : ∀ s ∈ t.ss, 1 ≤ s.id ∧ s.id ≤ t.begun
  uses : ∀ s ∈ t.ss, 1 ≤ s.used ∧ s.used ≤ t.uses
  may : ∀ s ∈ t.ss, s.f.May c.deg c.blk
  few : t.ss.length ≤ c.most
  tab : Fine8 c.size c.life t.es
  beg : t.begun ≤ t.uses

theorem May.wf {f : Fl} {d b : Int} (h : f.May d b) : f.Wf := by
  obtain ⟨n, a, p, g⟩ := f
  obtain ⟨h1, h2, h3, h4, h5, h6, h7, h8, h9, h10, h11⟩ := h
  simp only at *
  constructor <;> (try dsimp only) <;> omega
theorem start_may {d b : Nat} {f : Int} (h1 : 1 ≤ d ∧ d ≤ 16) (h2 : 1 ≤ b ∧ b ≤ 256) (h3 : 0 ≤ f ∧ f ≤ b) : (Fl.start f).May d b := by
  unfold Fl.start
  constructor <;> (try dsimp only) <;> omega
theorem late_may {f : Fl} {d b : Int} (h : f.May d b) : f.late.May d b := by
  unfold Fl.late
  split
  · obtain ⟨h1, h2, h3, h4, h5, h6, h7, h8, h9, h10, h11⟩ := h
    constructor <;> (try dsimp only) <;> omega
  · exact h
theorem waste_may {f : Fl} {d b : Int} (h : f.May d b) : f.waste.May d b := by
  unfold Fl.waste
  split
  · obtain ⟨h1, h2, h3, h4, h5, h6, h7, h8, h9, h10, h11⟩ := h
    constructor <;> (try dsimp only) <;> omega
  · exact h
theorem read_code {f : Fl} {n d b : Int} (h : f.May d b) (h1 : 1 ≤ n) (h8 : n ≤ 8) (hb : f.n + n ≤ b) : f.readC n d b = 0 := by
  unfold Fl.readC
  rw [if_pos ⟨h, h1, h8⟩, if_pos hb]
theorem read_may {f : Fl} {n d b : Int} (h : f.May d b) (h1 : 1 ≤ n) (h8 : n ≤ 8) (hb : f.n + n ≤ b) : (f.readF n d b).May d b := by
  unfold Fl.readF
  rw [if_pos (read_code h h1 h8 hb)]
  exact ask_may (moved_may h h1 h8 hb)

theorem ranks_set {ss : List Sm} {k : Nat} {s s' : Sm} (h : Ranks ss) (hk : ss[k]? = some s) (hi : s'.id = s.id) (hu : ∀ (j : Nat) t, j ≠ k → ss[j]? = some t → t.used ≠ s'.used) : Ranks (ss.set k s') := by
  have hl := lt_of_get hk
  constructor
  · rw [List.pairwise_iff_getElem]
    intro i j li lj hij
    simp only [List.length_set] at li lj
    have h1 := fun (x : Nat) (lx : x < ss.length) => show (ss.set k s')[x]'(by simpa using lx) = if k = x then s' else ss[x] from List.getElem_set ..
    rw [h1 i li, h1 j lj]
    have q := List.pairwise_iff_getElem.1 h.rise
    have e : ss[k] = s := by rw [List.getElem?_eq_getElem hl] at hk; injection hk
    split
    · rename_i e1
      split
      · omega
      · have := q k j hl lj (by omega)
        rw [e] at this
        show s'.id < _
        omega
    · split
      · rename_i e1 e2
        have := q i k li hl (by omega)
        rw [e] at this
        show _ < s'.id
        omega
      · exact q i j li lj hij
  · rw [List.pairwise_iff_getElem]
    intro i j li lj hij
    simp only [List.length_set] at li lj
    have h1 := fun (x : Nat) (lx : x < ss.length) => show (ss.set k s')[x]'(by simpa using lx) = if k = x then s' else ss[x] from List.getElem_set ..
    rw [h1 i li, h1 j lj]
    split
    · rename_i e1
      split
      · omega
      · exact (hu j _ (by omega) (List.getElem?_eq_getElem lj)).symm
    · split
      · exact hu i _ (by omega) (List.getElem?_eq_getElem li)
      · exact List.pairwise_iff_getElem.1 h.apart i j li lj hij
theorem Ranks.sub {ss ts : List Sm} (h : Ranks ss) (s : ts.Sublist ss) : Ranks ts := ⟨h.rise.sublist s, h.apart.sublist s⟩
theorem fewer_sub (most : Nat) (ss : List Sm) : (fewer most ss).Sublist ss := by
  unfold fewer
  split
  · exact List.eraseIdx_sublist _ _
  · exact List.Sublist.refl _
theorem low_lt {ss : List Sm} (h : ss ≠ []) : (lowOf ss).getD 0 < ss.length := by
  cases q : lowOf ss with
  | none => exact List.length_pos_iff.2 h
  | some k =>
    obtain ⟨s, hs, _⟩ := low_of q
    exact lt_of_get hs
theorem fewer_len {most : Nat} {ss : List Sm} (h : ss.length ≤ most) (h1 : 1 ≤ most) : (fewer most ss).length + 1 ≤ most := by
  unfold fewer
  split
  · rename_i q
    have hne : ss ≠ [] := fun e => by rw [e] at q; simp at q; omega
    rw [List.length_eraseIdx, if_pos (low_lt hne)]
    have := List.length_pos_iff.2 hne
    omega
  · omega
theorem mem_set {ss : List Sm} {k : Nat} {s' t : Sm} (h : t ∈ ss.set k s') : t = s' ∨ t ∈ ss := (List.mem_or_eq_of_mem_set h).symm

theorem accS_fine {c : Cf} {t : Tr} (h : Fine10 c t) (f n : Int) : Fine10 c (accS c t f n) := by
  unfold accS
  split
  · rename_i hm
    have hm := mayAcc_iff.1 hm
    have hok := h.ok
    split
    · rename_i k hk
      obtain ⟨s, hs, hx, _⟩ := top_of hk
      have hmem := List.mem_of_getElem? hs
      rw [hs]
      refine ⟨h.ok, ranks_set h.rank hs rfl (fun j t' hj ht' => ?_), ?_, ?_, ?_, ?_, h.tab, ?_⟩
      · have := (h.uses t' (List.mem_of_getElem? ht')).2
        show t'.used ≠ t.uses + 1
        omega
      · intro u hu
        rcases mem_set hu with rfl | hu
        · exact h.ids s hmem
        · exact h.ids u hu
      · intro u hu
        rcases mem_set hu with rfl | hu
        · show 1 ≤ t.uses + 1 ∧ t.uses + 1 ≤ t.uses + 1
          omega
        · have := h.uses u hu
          show 1 ≤ u.used ∧ u.used ≤ t.uses + 1
          omega
      · intro u hu
        rcases mem_set hu with rfl | hu
        · exact read_may (h.may s hmem) hm.1 hm.2.1 (by show s.f.n + n ≤ _; omega)
        · exact h.may u hu
      · show (t.ss.set _ _).length ≤ _
        rw [List.length_set]; exact h.few
      · show t.begun ≤ t.uses + 1
        have := h.beg
        omega
    · split
      · have hsub := fewer_sub c.most t.ss
        refine ⟨h.ok, ⟨?_, ?_⟩, ?_, ?_, ?_, ?_, lookT_fine h.tab, ?_⟩
        · show (fewer c.most t.ss ++ [_]).Pairwise _
          rw [List.pairwise_append]
          refine ⟨(h.rank.sub hsub).rise, List.pairwise_singleton _ _, fun a ha b hb => ?_⟩
          have := (h.ids a (hsub.subset ha)).2
          rw [List.mem_singleton.1 hb]
          show a.id < t.begun + 1
          omega
        · show (fewer c.most t.ss ++ [_]).Pairwise _
          rw [List.pairwise_append]
          refine ⟨(h.rank.sub hsub).apart, List.pairwise_singleton _ _, fun a ha b hb => ?_⟩
          have := (h.uses a (hsub.subset ha)).2
          rw [List.mem_singleton.1 hb]
          show a.used ≠ t.uses + 1
          omega
        · intro u hu
          rcases List.mem_append.1 hu with hu | hu
          · have := h.ids u (hsub.subset hu)
            show 1 ≤ u.id ∧ u.id ≤ t.begun + 1
            omega
          · rw [List.mem_singleton.1 hu]
            show 1 ≤ t.begun + 1 ∧ t.begun + 1 ≤ t.begun + 1
            omega
        · intro u hu
          rcases List.mem_append.1 hu with hu | hu
          · have := h.uses u (hsub.subset hu)
            show 1 ≤ u.used ∧ u.used ≤ t.uses + 1
            omega
          · rw [List.mem_singleton.1 hu]
            show 1 ≤ t.uses + 1 ∧ t.uses + 1 ≤ t.uses + 1
            omega
        · intro u hu
          rcases List.mem_append.1 hu with hu | hu
          · exact h.may u (hsub.subset hu)
          · rw [List.mem_singleton.1 hu]
            exact read_may (start_may ⟨hok.d1, hok.d16⟩ ⟨hok.b1, hok.b256⟩ ⟨hm.2.2.1, by omega⟩) hm.1 hm.2.1 hm.2.2.2
        · show (fewer c.most t.ss ++ [_]).length ≤ _
          have := fewer_len h.few hok.m1
          simp
          omega
        · show t.begun + 1 ≤ t.uses + 1
          have := h.beg
          omega
      · refine ⟨h.ok, h.rank, h.ids, fun s hs => ?_, h.may, h.few, lookT_fine h.tab, ?_⟩
        · have := h.uses s hs
          show 1 ≤ s.used ∧ s.used ≤ t.uses + 1
          omega
        · show t.begun ≤ t.uses + 1
          have := h.beg
          omega
  · exact h
theorem tuneS_fine {c : Cf} {t : Tr} (h : Fine10 c t) (i : Int) (late : Bool) : Fine10 c (tuneS t i late) := by
  unfold tuneS
  split
  · rename_i k hk
    obtain ⟨s, hs, _⟩ := id_of hk
    have hmem := List.mem_of_getElem? hs
    rw [hs]
    refine ⟨h.ok, ranks_set h.rank hs rfl (fun j t' hj ht' e => hj (used_one h.rank.apart ht' hs e)), ?_, ?_, ?_, ?_, h.tab, h.beg⟩
    · intro u hu
      rcases mem_set hu with rfl | hu
      · exact h.ids s hmem
      · exact h.ids u hu
    · intro u hu
      rcases mem_set hu with rfl | hu
      · exact h.uses s hmem
      · exact h.uses u hu
    · intro u hu
      rcases mem_set hu with rfl | hu
      · show Fl.May (if late then s.f.late else s.f.waste) _ _
        split
        · exact late_may (h.may s hmem)
        · exact waste_may (h.may s hmem)
      · exact h.may u hu
    · show (t.ss.set _ _).length ≤ _
      rw [List.length_set]; exact h.few
  · exact h
theorem new_fine {c : Cf} (h : c.Ok) : Fine10 c ⟨[], [], 0, 0⟩ :=
  ⟨h, ⟨List.Pairwise.nil, List.Pairwise.nil⟩, fun _ k => (by cases k), fun _ k => (by cases k), fun _ k => (by cases k), Nat.zero_le _, nil_fine h.s1 h.s32 h.l1 h.l64, Nat.zero_le _⟩
end Go.Proofs.YtlfnncahhbbmpaaGreatDoor

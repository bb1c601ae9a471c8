/- What May and Read of package amp answer, of any pace, any count, any degree and any disk. -/
import Derived.Test.YtfmmmiiohaaegaaAmpRead
import Derived.Deep.RegionHeld3
namespace Go.Proofs.Ytfmmmiiohaaegaa
open Go.RowKit
set_option linter.unusedVariables false

/-- a variable that a closure has: it lies at block q, and holds v -/
abbrev Var (w : World) (q : Nat) (v : Value) : Prop := w.cell? ⟨q, 0, none⟩ = some v
/-- a code, as Catch has it -/
def coded (c : Int) : Option Int := if c = 0 then none else some c
theorem coded_get (c : Int) : (coded c).getD 0 = c := by unfold coded; split <;> simp_all

theorem admit_any (f : Fl) (d b : Int) (w : World) :
    Calls Try.prog 42 #[f.val, .int .i64 d, .int .i64 b] w fun e w' => e = done (if f.May d b then none else some 1) ∧ Only none_ w w' := by
  by_cases hd : 1 ≤ d ∧ d ≤ 16
  · by_cases hb : 1 ≤ b ∧ b ≤ 256
    · have := admit_in f d b w ⟨hd.1, hd.2, hb.1, hb.2⟩ (decide (f.May d b)) rfl
      simpa using this
    · rw [if_neg (fun h => hb ⟨h.b0, h.b1⟩)]
      exact admit_blk f d b w hd (by omega)
  · rw [if_neg (fun h => hd ⟨h.d0, h.d1⟩)]
    exact admit_deg f d b w (by omega)

theorem Row.fl {w : World} {q : Nat} {f : Fl} (h : Row w q 57 f.cells) : w.cell? ⟨q, 0, none⟩ = some (.int .i64 f.n) ∧ w.cell? ⟨q, 1, none⟩ = some (.int .i64 f.a) ∧ w.cell? ⟨q, 2, none⟩ = some (.int .i64 f.p) ∧ w.cell? ⟨q, 3, none⟩ = some (.int .i64 f.g) := h.four

theorem may1_any (q0 q1 q2 : Nat) (f : Fl) (d b : Int) (w : World) (h0 : Row w q0 57 f.cells) (h1 : Var w q1 (.int .i64 d)) (h2 : Var w q2 (.int .i64 b)) :
    Calls Try.prog 41 #[.pointer (some ⟨q0, 0, none⟩), .pointer (some ⟨q1, 0, none⟩), .pointer (some ⟨q2, 0, none⟩)] w fun e w' => e = done (if f.May d b then none else some 1) ∧ Only none_ w w' := by
  obtain ⟨c0, c1, c2, c3⟩ := h0.fl
  have A := Lib.hid (admit_any f d b w)
  clear h0
  unfold Fl.val at A
  go_enter Try.func41, Try.ntmps41
  go_wp2_with fail
  (with_reducible refine A.out.mono ?_)
  by_cases hm : f.May d b
  · simp only [if_pos hm]
    rintro e w' ⟨rfl, o⟩
    have O := Lib.hid o
    clear o A c0 c1 c2 c3 h1 h2
    simp only [done]
    go_wp2_with fail
    go_end0
    exact ⟨rfl, O.out⟩
  · simp only [if_neg hm]
    rintro e w' ⟨rfl, o⟩
    have O := Lib.hid o
    clear o A c0 c1 c2 c3 h1 h2
    simp only [done]
    go_wp2_with fail
    exact ⟨rfl, rfl, O.out⟩

theorem catch_quiet (G : FuncId) (caps : Array Value) (w : World) (c : Option Int) (hG : ∀ w, (callFunc G caps).run Try.prog w = .ok (.enter G caps) w)
    (h : Calls Try.prog G caps (w.alloc (.cells #[.int .i64 0] 27)) fun e w' => e = done c ∧ Only none_ (w.alloc (.cells #[.int .i64 0] 27)) w') :
    Calls Try.prog 40 #[.func (.func G) #[] caps] w fun e w' => e = .returned (.int .i64 (c.getD 0)) ∧ Only none_ w w' := by
  refine (catch_code G caps w none_ (fun r w' => r = c) hG (fun s => s) (fun r w1 v _ e => e) (h.mono ?_)).mono ?_
  · rintro e w' ⟨he, o⟩
    exact ⟨c, he, rfl, o⟩
  · rintro e w' ⟨r, he, rfl, o⟩
    exact ⟨he, o⟩

theorem may_any (f : Fl) (d b : Int) (w : World) :
    Calls Try.prog 22 #[f.val, .int .i64 d, .int .i64 b] w fun e w' => e = .returned (.bool (decide (f.May d b))) ∧ Only none_ w w' := by
  have r0 := (Row.fresh w 57 f.cells).alloc (.cells #[.int .i64 d] 3)
  have r1 := Row.fresh (w.alloc (.cells f.cells 57)) 3 #[.int .i64 d]
  have r2 := Row.fresh ((w.alloc (.cells f.cells 57)).alloc (.cells #[.int .i64 d] 3)) 3 #[.int .i64 b]
  have C := catch_quiet 41 #[.pointer (some ⟨w.heap.size, 0, none⟩), .pointer (some ⟨w.heap.size + 1, 0, none⟩), .pointer (some ⟨w.heap.size + 1 + 1, 0, none⟩)]
    (((w.alloc (.cells f.cells 57)).alloc (.cells #[.int .i64 d] 3)).alloc (.cells #[.int .i64 b] 3)) (if f.May d b then none else some 1) (fun _ => rfl)
    (may1_any _ _ _ f d b _ ((r0.alloc _).alloc _) (by
      have h := ((r1.alloc (.cells #[.int .i64 b] 3)).alloc (.cells #[.int .i64 0] 27)).cell 0
      rw [World.size_alloc] at h
      exact h) (by
      have h := (r2.alloc (.cells #[.int .i64 0] 27)).cell 0
      rw [World.size_alloc, World.size_alloc] at h
      exact h))
  unfold Fl.cells at C
  have C := Lib.hid C
  clear r0 r1 r2
  unfold Fl.val
  go_enter Try.func22, Try.ntmps22
  go_wp2_with fail
  (with_reducible refine C.out.mono ?_)
  rintro e w' ⟨rfl, o⟩
  have O := Lib.hid (((((Only.refl none_ w).alloc _).alloc _).alloc _).same o)
  clear o C
  by_cases hm : f.May d b
  · rw [if_pos hm]
    simp only [Option.getD_none]
    go_wp2_with fail
    go_ret
    exact ⟨by rw [decide_eq_true hm]; rfl, O.out⟩
  · rw [if_neg hm]
    simp only [Option.getD_some]
    go_wp2_with fail
    go_ret
    exact ⟨by rw [decide_eq_false hm]; rfl, O.out⟩

/-- the closure of Read: all that it has, where it lies -/
structure Caps (w : World) (q0 q1 q2 q3 q4 q5 : Nat) (f : Fl) (c d b : Int) : Prop where
  h0 : Row w q0 57 f.cells
  h1 : Var w q1 (.int .i64 d)
  h2 : Var w q2 (.int .i64 b)
  h3 : Var w q3 (.int .i64 c)
  h4 : Row w q4 57 (Fl.mk 0 0 0 0).cells
  h5 : Row w q5 36 (Rn.mk 0 0).cells
  n0 : q0 ≠ q4
  n1 : q1 ≠ q4
  n2 : q2 ≠ q4
  n3 : q3 ≠ q4
  m0 : q0 ≠ q5
  m1 : q1 ≠ q5
  m2 : q2 ≠ q5
  m3 : q3 ≠ q5
  n4 : q4 ≠ q5
theorem Caps.still {w w' : World} {q0 q1 q2 q3 q4 q5 : Nat} {f : Fl} {c d b : Int} (h : Caps w q0 q1 q2 q3 q4 q5 f c d b) (o : Only none_ w w') : Caps w' q0 q1 q2 q3 q4 q5 f c d b :=
  ⟨o.still h.h0, o.cell h.h1 (fun s => s), o.cell h.h2 (fun s => s), o.cell h.h3 (fun s => s), o.still h.h4, o.still h.h5, h.n0, h.n1, h.n2, h.n3, h.m0, h.m1, h.m2, h.m3, h.n4⟩
def two9 (p b : Nat) : Nat → Prop := fun k => k = p ∨ k = b
/-- what the closure leaves -/
def Left9 (w : World) (q4 q5 : Nat) (f : Fl) (c d b : Int) (e : Ending) (w' : World) : Prop :=
  e = done (coded (f.readC c d b)) ∧ Row w' q4 57 (f.readF c d b).cells ∧ Row w' q5 36 (f.readR c d b).cells ∧ Only (two9 q4 q5) w w'

theorem read1_arg (q0 q1 q2 q3 q4 q5 : Nat) (f : Fl) (c d b : Int) (w : World) (h : Caps w q0 q1 q2 q3 q4 q5 f c d b) (hm : ¬ f.May d b) :
    Calls Try.prog 62 #[.pointer (some ⟨q0, 0, none⟩), .pointer (some ⟨q1, 0, none⟩), .pointer (some ⟨q2, 0, none⟩), .pointer (some ⟨q3, 0, none⟩), .pointer (some ⟨q4, 0, none⟩), .pointer (some ⟨q5, 0, none⟩)] w (Left9 w q4 q5 f c d b) := by
  obtain ⟨c0, c1, c2, c3⟩ := h.h0.fl
  have A := Lib.hid (admit_any f d b w)
  have C1 := h.h1
  have C2 := h.h2
  have H := Lib.hid h
  have RC := Lib.hid (show f.readC c d b = 1 from by unfold Fl.readC; rw [if_neg (fun h => hm h.1)])
  rw [if_neg hm] at A
  clear h hm
  unfold Fl.val at A
  go_enter Try.func62, Try.ntmps62
  go_wp2_with fail
  (with_reducible refine A.out.mono ?_)
  rintro e w' ⟨rfl, o⟩
  have O := Lib.hid o
  clear o A c0 c1 c2 c3 C1 C2
  simp only [done]
  go_wp2_with fail
  refine ⟨rfl, ?_, ?_, ?_, O.out.up⟩
  · rw [RC.out]; rfl
  · rw [show f.readF c d b = ⟨0, 0, 0, 0⟩ from by unfold Fl.readF; rw [RC.out]; rfl]
    exact (H.out.still O.out).h4
  · rw [show f.readR c d b = ⟨0, 0⟩ from by unfold Fl.readR; rw [RC.out]; rfl]
    exact (H.out.still O.out).h5

set_option maxHeartbeats 400000 in
theorem read1_no (q0 q1 q2 q3 q4 q5 : Nat) (f : Fl) (c d b : Int) (w : World) (h : Caps w q0 q1 q2 q3 q4 q5 f c d b) (hm : f.May d b) (hc : ¬ (1 ≤ c ∧ c ≤ 8 ∧ f.n + c ≤ b)) :
    Calls Try.prog 62 #[.pointer (some ⟨q0, 0, none⟩), .pointer (some ⟨q1, 0, none⟩), .pointer (some ⟨q2, 0, none⟩), .pointer (some ⟨q3, 0, none⟩), .pointer (some ⟨q4, 0, none⟩), .pointer (some ⟨q5, 0, none⟩)] w (Left9 w q4 q5 f c d b) := by
  obtain ⟨c0, c1, c2, c3⟩ := h.h0.fl
  have A := Lib.hid (admit_any f d b w)
  have C1 := h.h1
  have C2 := h.h2
  have H := Lib.hid h
  have RC := Lib.hid (show f.readC c d b = if 1 ≤ c ∧ c ≤ 8 then 6 else 1 from by
    unfold Fl.readC
    by_cases k : 1 ≤ c ∧ c ≤ 8
    · rw [if_pos ⟨hm, k.1, k.2⟩, if_pos k, if_neg]; omega
    · rw [if_neg k, if_neg (fun h => k h.2)])
  rw [if_pos hm] at A
  have v1 : IntKind.i64.wrap (b - f.n) = b - f.n := by have := hm.n0; have := hm.na; have := hm.ab; have := hm.b1; rw [IntKind.wrap_i64]; omega
  have t : (decide (1 ≤ c) = false ∨ (decide (1 ≤ c) = true ∧ decide (c ≤ 8) = false)) ∨ (decide (1 ≤ c) = true ∧ decide (c ≤ 8) = true ∧ decide (c ≤ b - f.n) = false) := by
    simp only [decide_eq_false_iff_not, decide_eq_true_eq]; omega
  clear h hm hc
  unfold Fl.val at A
  rcases t with t | ⟨t1, t2, t3⟩
  · replace RC := Lib.hid (show f.readC c d b = 1 from by
      rw [RC.out, if_neg]; simp only [decide_eq_false_iff_not, decide_eq_true_eq] at t; omega)
    rcases t with t | ⟨t1, t2⟩
    all_goals
      go_enter Try.func62, Try.ntmps62
      go_wp2_with fail
      (with_reducible refine A.out.mono ?_)
      rintro e w' ⟨rfl, o⟩
      have O := Lib.hid o
      have C3 := (H.out.still o).h3
      clear o A c0 c1 c2 c3 C1 C2
      simp only [done]
      go_wp2_with fail
      (with_reducible refine (unless_no _ _).mono ?_)
      rintro e w'' ⟨rfl, rfl⟩
      go_wp2_with fail
      refine ⟨rfl, ?_, ?_, ?_, O.out.up⟩
      · rw [RC.out]; rfl
      · rw [show f.readF c d b = ⟨0, 0, 0, 0⟩ from by unfold Fl.readF; rw [RC.out]; rfl]
        exact (H.out.still O.out).h4
      · rw [show f.readR c d b = ⟨0, 0⟩ from by unfold Fl.readR; rw [RC.out]; rfl]
        exact (H.out.still O.out).h5
  · replace RC := Lib.hid (show f.readC c d b = 6 from by
      rw [RC.out, if_pos]; simp only [decide_eq_true_eq] at t1 t2; omega)
    go_enter Try.func62, Try.ntmps62
    go_wp2_with fail
    (with_reducible refine A.out.mono ?_)
    rintro e w' ⟨rfl, o⟩
    have O := Lib.hid o
    have C3 := (H.out.still o).h3
    have C2' := (H.out.still o).h2
    obtain ⟨d0, d1, d2, d3⟩ := (H.out.still o).h0.fl
    clear o A c0 c1 c2 c3 C1 C2
    simp only [done]
    go_wp2_with fail
    (with_reducible refine (unless_yes _ _).mono ?_)
    rintro e w'' ⟨rfl, rfl⟩
    go_wp2_with fail
    (with_reducible refine (unless_no _ _).mono ?_)
    rintro e w'' ⟨rfl, rfl⟩
    go_wp2_with fail
    refine ⟨rfl, ?_, ?_, ?_, O.out.up⟩
    · rw [RC.out]; rfl
    · rw [show f.readF c d b = ⟨0, 0, 0, 0⟩ from by unfold Fl.readF; rw [RC.out]; rfl]
      exact (H.out.still O.out).h4
    · rw [show f.readR c d b = ⟨0, 0⟩ from by unfold Fl.readR; rw [RC.out]; rfl]
      exact (H.out.still O.out).h5

set_option maxHeartbeats 1000000 in
theorem read1_yes (q0 q1 q2 q3 q4 q5 : Nat) (f : Fl) (c d b : Int) (w : World) (h : Caps w q0 q1 q2 q3 q4 q5 f c d b) (hm : f.May d b) (hc : 1 ≤ c ∧ c ≤ 8 ∧ f.n + c ≤ b) :
    Calls Try.prog 62 #[.pointer (some ⟨q0, 0, none⟩), .pointer (some ⟨q1, 0, none⟩), .pointer (some ⟨q2, 0, none⟩), .pointer (some ⟨q3, 0, none⟩), .pointer (some ⟨q4, 0, none⟩), .pointer (some ⟨q5, 0, none⟩)] w (Left9 w q4 q5 f c d b) := by
  obtain ⟨c0, c1, c2, c3⟩ := h.h0.fl
  have A := Lib.hid (admit_any f d b w)
  have C1 := h.h1
  have C2 := h.h2
  have H := Lib.hid h
  have RC := Lib.hid (show f.readC c d b = 0 from by unfold Fl.readC; rw [if_pos ⟨hm, hc.1, hc.2.1⟩, if_pos hc.2.2])
  have RF := Lib.hid (show f.readF c d b = (f.moved c d).askF b from by unfold Fl.readF; rw [RC.out, if_pos rfl])
  have RR := Lib.hid (show f.readR c d b = (f.moved c d).askR b from by unfold Fl.readR; rw [RC.out, if_pos rfl])
  rw [if_pos hm] at A
  have v1 : IntKind.i64.wrap (b - f.n) = b - f.n := by have := hm.n0; have := hm.na; have := hm.ab; have := hm.b1; rw [IntKind.wrap_i64]; omega
  have t1 : decide (1 ≤ c) = true := by simp only [decide_eq_true_eq]; omega
  have t2 : decide (c ≤ 8) = true := by simp only [decide_eq_true_eq]; omega
  have t3 : decide (c ≤ b - f.n) = true := by simp only [decide_eq_true_eq]; omega
  have MV := Lib.hid (fun w => moved_any f c d b w hm hc.1 hc.2.1 hc.2.2)
  have AS := Lib.hid (fun w => ask_any (f.moved c d) d b w (moved_may hm hc.1 hc.2.1 hc.2.2))
  generalize f.moved c d = g at *
  generalize g.askF b = k at *
  generalize g.askR b = r at *
  clear h hm hc
  unfold Fl.val at A MV AS
  unfold Rn.val at AS
  go_enter Try.func62, Try.ntmps62
  go_wp2_with fail
  (with_reducible refine A.out.mono ?_)
  rintro e w0 ⟨rfl, o⟩
  have O := Lib.hid o
  have H0 := Lib.hid (H.out.still o)
  clear o A c0 c1 c2 c3 C1 C2
  have C3 := H0.out.h3
  have C2 := H0.out.h2
  obtain ⟨d0, d1, d2, d3⟩ := H0.out.h0.fl
  simp only [done]
  go_wp2_with fail
  (with_reducible refine (unless_yes _ _).mono ?_)
  rintro e w'' ⟨rfl, rfl⟩
  go_wp2_with fail
  (with_reducible refine (unless_yes _ _).mono ?_)
  rintro e w'' ⟨rfl, rfl⟩
  go_wp2_with fail
  clear C3 C2 d0 d1 d2 d3 t1 t2 t3 v1
  have OD := Lib.hid (Only.refl none_ w0).drew
  have HD := Lib.hid (H0.out.still OD.out)
  have C1 := HD.out.h1
  have C3 := HD.out.h3
  have C2 := HD.out.h2
  obtain ⟨d0, d1, d2, d3⟩ := HD.out.h0.fl
  have i4 : two9 q4 q5 q4 := Or.inl rfl
  have n45 : q4 ≠ q5 := H.out.n4
  have n54 : q5 ≠ q4 := fun e => H.out.n4 e.symm
  have i5 : two9 q4 q5 q5 := Or.inr rfl
  have KK := Lib.hid (fun (w' : World) (o : Only (two9 q4 q5) w0 w') => (show w'.cell? ⟨q0, 0, none⟩ = some (.int .i64 f.n) ∧ w'.cell? ⟨q0, 1, none⟩ = some (.int .i64 f.a) ∧ w'.cell? ⟨q0, 2, none⟩ = some (.int .i64 f.p) ∧ w'.cell? ⟨q0, 3, none⟩ = some (.int .i64 f.g) ∧ w'.cell? ⟨q1, 0, none⟩ = some (.int .i64 d) ∧ w'.cell? ⟨q2, 0, none⟩ = some (.int .i64 b) ∧ w'.cell? ⟨q3, 0, none⟩ = some (.int .i64 c) from by
    have hh := H0.out
    have n0 := hh.n0; have n1 := hh.n1; have n2 := hh.n2; have n3 := hh.n3
    have m0 := hh.m0; have m1 := hh.m1; have m2 := hh.m2; have m3 := hh.m3
    obtain ⟨e0, e1, e2, e3⟩ := (o.row hh.h0 (fun s => by unfold two9 at s; omega)).fl
    exact ⟨e0, e1, e2, e3, o.cell hh.h1 (fun s => by unfold two9 at s; dsimp only at s; omega), o.cell hh.h2 (fun s => by unfold two9 at s; dsimp only at s; omega), o.cell hh.h3 (fun s => by unfold two9 at s; dsimp only at s; omega)⟩))
  go_region_held3 (fun w' => w'.cell? ⟨q0, 0, none⟩ = some (.int .i64 f.n) ∧ w'.cell? ⟨q0, 1, none⟩ = some (.int .i64 f.a) ∧ w'.cell? ⟨q0, 2, none⟩ = some (.int .i64 f.p) ∧ w'.cell? ⟨q0, 3, none⟩ = some (.int .i64 f.g) ∧ w'.cell? ⟨q1, 0, none⟩ = some (.int .i64 d) ∧ w'.cell? ⟨q2, 0, none⟩ = some (.int .i64 b) ∧ w'.cell? ⟨q3, 0, none⟩ = some (.int .i64 c))
    (first
      | (with_reducible refine KK.out _ ?_; with_reducible refine Only.into (S := two9 q4 q5) ?_ i5 _ _; with_reducible refine Only.into (S := two9 q4 q5) ?_ i5 _ _; with_reducible refine Only.into (S := two9 q4 q5) ?_ i4 _ _; with_reducible refine Only.into (S := two9 q4 q5) ?_ i4 _ _; with_reducible refine Only.into (S := two9 q4 q5) ?_ i4 _ _; with_reducible refine Only.into (S := two9 q4 q5) ?_ i4 _ _; with_reducible exact O2.out.up)
      | (with_reducible refine KK.out _ ?_; with_reducible refine Only.into (S := two9 q4 q5) ?_ i4 _ _; with_reducible refine Only.into (S := two9 q4 q5) ?_ i4 _ _; with_reducible refine Only.into (S := two9 q4 q5) ?_ i4 _ _; with_reducible refine Only.into (S := two9 q4 q5) ?_ i4 _ _; with_reducible exact O2.out.up)
      | (with_reducible exact KK.out _ O2.out.up)
      | (with_reducible exact KK.out _ O1.out.up)
      | (with_reducible exact KK.out _ OD.out.up)
      | fail)
    (first
      | (go_at_call 64; (with_reducible refine (MV.out _).mono ?_); rintro e w1 ⟨rfl, o1⟩; have O1 := Lib.hid (OD.out.same o1))
      | (go_at_call 63; (with_reducible refine (AS.out _).mono ?_); rintro e w2 ⟨rfl, o2⟩; have O2 := Lib.hid (O1.out.same o2); have z4 := (O2.out.still H0.out.h4).frozen; have z5 := (O2.out.still H0.out.h5).frozen; obtain ⟨e0, e1, e2, e3⟩ := (O2.out.still H0.out.h4).fl; obtain ⟨e4, e5⟩ := (show w2.cell? ⟨q5, 0, none⟩ = some (.int .i64 0) ∧ w2.cell? ⟨q5, 1, none⟩ = some (.int .i64 0) from (O2.out.still H0.out.h5).two))
      | fail)
  go_end0
  have R4 := Lib.hid ((((((((O2.out.still H0.out.h4).put 0 (.int .i64 k.n)).put 1 (.int .i64 k.a)).put 2 (.int .i64 k.p)).put 3 (.int .i64 k.g)).far (p := ⟨q5, 0, none⟩) n45 (.int .i64 r.f)).far (p := ⟨q5, 1, none⟩) n45 (.int .i64 r.c)))
  have R5 := Lib.hid (((((((O2.out.still H0.out.h5).far (p := ⟨q4, 0, none⟩) n54 (.int .i64 k.n)).far (p := ⟨q4, 1, none⟩) n54 (.int .i64 k.a)).far (p := ⟨q4, 2, none⟩) n54 (.int .i64 k.p)).far (p := ⟨q4, 3, none⟩) n54 (.int .i64 k.g)).put 0 (.int .i64 r.f)).put 1 (.int .i64 r.c))
  refine ⟨by rw [RC.out]; rfl, ?_, ?_, ?_⟩
  · rw [RF.out]; exact R4.out
  · rw [RR.out]; exact R5.out
  · exact (((((((O.out.same O2.out).up.into i4 0 (.int .i64 k.n)).into i4 1 (.int .i64 k.a)).into i4 2 (.int .i64 k.p)).into i4 3 (.int .i64 k.g)).into i5 0 (.int .i64 r.f)).into i5 1 (.int .i64 r.c))

theorem read1_any (q0 q1 q2 q3 q4 q5 : Nat) (f : Fl) (c d b : Int) (w : World) (h : Caps w q0 q1 q2 q3 q4 q5 f c d b) :
    Calls Try.prog 62 #[.pointer (some ⟨q0, 0, none⟩), .pointer (some ⟨q1, 0, none⟩), .pointer (some ⟨q2, 0, none⟩), .pointer (some ⟨q3, 0, none⟩), .pointer (some ⟨q4, 0, none⟩), .pointer (some ⟨q5, 0, none⟩)] w (Left9 w q4 q5 f c d b) := by
  by_cases hm : f.May d b
  · by_cases hc : 1 ≤ c ∧ c ≤ 8 ∧ f.n + c ≤ b
    · exact read1_yes q0 q1 q2 q3 q4 q5 f c d b w h hm hc
    · exact read1_no q0 q1 q2 q3 q4 q5 f c d b w h hm hc
  · exact read1_arg q0 q1 q2 q3 q4 q5 f c d b w h hm

/-- Read's boxes, ahead of the call -/
def Boxes (w : World) (f : Fl) (c d b : Int) : World :=
  (((((w.alloc (.cells f.cells 57)).alloc (.cells #[.int .i64 c] 3)).alloc (.cells #[.int .i64 d] 3)).alloc (.cells #[.int .i64 b] 3)).alloc (.cells (Fl.mk 0 0 0 0).cells 57)).alloc (.cells (Rn.mk 0 0).cells 36)
theorem boxes_size (w : World) (f : Fl) (c d b : Int) : (Boxes w f c d b).heap.size = w.heap.size + 6 := by simp [Boxes]
theorem boxes_caps (w : World) (f : Fl) (c d b : Int) (o : Obj) : Caps ((Boxes w f c d b).alloc o) w.heap.size (w.heap.size + 2) (w.heap.size + 3) (w.heap.size + 1) (w.heap.size + 4) (w.heap.size + 5) f c d b := by
  have fresh : ∀ (w : World) (n : Nat) (t : TypeId) (cs : Array Value), n = w.heap.size → Row (w.alloc (.cells cs t)) n t cs := by
    rintro w n t cs rfl; exact Row.fresh w t cs
  refine ⟨?_, ?_, ?_, ?_, ?_, ?_, by omega, by omega, by omega, by omega, by omega, by omega, by omega, by omega, by omega⟩
  · exact ((((((fresh w _ _ _ rfl).alloc _).alloc _).alloc _).alloc _).alloc _).alloc _
  · exact (((((fresh _ _ 3 #[.int .i64 d] (by simp)).alloc _).alloc _).alloc _).alloc o).cell 0
  · exact ((((fresh _ _ 3 #[.int .i64 b] (by simp)).alloc _).alloc _).alloc o).cell 0
  · exact ((((((fresh _ _ 3 #[.int .i64 c] (by simp)).alloc _).alloc _).alloc _).alloc _).alloc o).cell 0
  · exact ((fresh _ _ 57 (Fl.mk 0 0 0 0).cells (by simp)).alloc _).alloc o
  · exact (fresh _ _ 36 (Rn.mk 0 0).cells (by simp)).alloc o

theorem read_catch (f : Fl) (c d b : Int) (w : World) :
    Calls Try.prog 40 #[.func (.func 62) #[] #[.pointer (some ⟨w.heap.size, 0, none⟩), .pointer (some ⟨w.heap.size + 2, 0, none⟩), .pointer (some ⟨w.heap.size + 3, 0, none⟩), .pointer (some ⟨w.heap.size + 1, 0, none⟩), .pointer (some ⟨w.heap.size + 4, 0, none⟩), .pointer (some ⟨w.heap.size + 5, 0, none⟩)]] (Boxes w f c d b)
      fun e w' => e = .returned (.int .i64 (f.readC c d b)) ∧ Row w' (w.heap.size + 4) 57 (f.readF c d b).cells ∧ Row w' (w.heap.size + 5) 36 (f.readR c d b).cells ∧ Only none_ w w' := by
  have sz := boxes_size w f c d b
  refine (catch_code 62 _ (Boxes w f c d b) (two9 (w.heap.size + 4) (w.heap.size + 5)) (fun r w' => r = coded (f.readC c d b) ∧ Row w' (w.heap.size + 4) 57 (f.readF c d b).cells ∧ Row w' (w.heap.size + 5) 36 (f.readR c d b).cells) (fun _ => rfl) (by unfold two9; omega) ?_ ((read1_any _ _ _ _ _ _ f c d b _ (boxes_caps w f c d b _)).mono ?_)).mono ?_
  · rintro r w1 v _ ⟨hr, h4, h5⟩
    exact ⟨hr, h4.far (by dsimp only; omega) v, h5.far (by dsimp only; omega) v⟩
  · rintro e w' ⟨he, h4, h5, o⟩
    exact ⟨_, he, ⟨rfl, h4, h5⟩, o⟩
  · rintro e w' ⟨r, he, ⟨rfl, h4, h5⟩, o⟩
    rw [coded_get] at he
    refine ⟨he, h4, h5, ?_⟩
    have o1 : Only none_ w (Boxes w f c d b) := ((((((Only.refl none_ w).alloc _).alloc _).alloc _).alloc _).alloc _).alloc _
    exact o1.trans o (fun i hi s => by unfold two9 at s; omega)

set_option maxHeartbeats 1000000 in
theorem read_any (f : Fl) (c d b : Int) (w : World) :
    Calls Try.prog 48 #[f.val, .int .i64 c, .int .i64 d, .int .i64 b] w fun e w' => e = .returned (.tuple #[(f.readF c d b).val, (f.readR c d b).val, .int .i64 (f.readC c d b)]) ∧ Only none_ w w' := by
  have C := read_catch f c d b w
  unfold Boxes Fl.cells Rn.cells at C
  generalize f.readF c d b = k at *
  generalize f.readR c d b = r at *
  generalize f.readC c d b = q at *
  rw [show w.heap.size + 2 = w.heap.size + 1 + 1 from rfl, show w.heap.size + 3 = w.heap.size + 1 + 1 + 1 from rfl, show w.heap.size + 4 = w.heap.size + 1 + 1 + 1 + 1 from rfl, show w.heap.size + 5 = w.heap.size + 1 + 1 + 1 + 1 + 1 from rfl] at C
  have C := Lib.hid C
  unfold Fl.val Rn.val
  go_enter Try.func48, Try.ntmps48
  go_wp2_with fail
  (with_reducible refine C.out.mono ?_)
  rintro e w1 ⟨rfl, h4, h5, o⟩
  have O := Lib.hid o
  have HF := Lib.hid h4
  have HR := Lib.hid h5
  clear o C h4 h5
  have n45 : w.heap.size + 1 + 1 + 1 + 1 ≠ w.heap.size + 1 + 1 + 1 + 1 + 1 := by omega
  have l4 : w.heap.size ≤ w.heap.size + 1 + 1 + 1 + 1 := by omega
  have l5 : w.heap.size ≤ w.heap.size + 1 + 1 + 1 + 1 + 1 := by omega
  generalize w.heap.size + 1 + 1 + 1 + 1 + 1 = q5 at *
  generalize w.heap.size + 1 + 1 + 1 + 1 = q4 at *
  have n54 : q5 ≠ q4 := fun e => n45 e.symm
  go_wp2_with fail
  have FD := Lib.hid HF.out.drew
  have RD := Lib.hid HR.out.drew
  obtain ⟨e0, e1, e2, e3⟩ := FD.out.four
  obtain ⟨e4, e5⟩ := RD.out.two
  have z4 := FD.out.frozen
  have z5 := RD.out.frozen
  obtain ⟨g0, g1, g2, g3⟩ := HF.out.four
  obtain ⟨g4, g5⟩ := HR.out.two
  have y4 := HF.out.frozen
  have y5 := HR.out.frozen
  go_region
  have R4 := Lib.hid ((((((((HF.out).put 0 (.int .i64 k.n)).put 1 (.int .i64 k.a)).put 2 (.int .i64 k.p)).put 3 (.int .i64 k.g)).far (p := ⟨q5, 0, none⟩) n45 (.int .i64 r.f)).far (p := ⟨q5, 1, none⟩) n45 (.int .i64 r.c)))
  have R5 := Lib.hid (((((((HR.out).far (p := ⟨q4, 0, none⟩) n54 (.int .i64 k.n)).far (p := ⟨q4, 1, none⟩) n54 (.int .i64 k.a)).far (p := ⟨q4, 2, none⟩) n54 (.int .i64 k.p)).far (p := ⟨q4, 3, none⟩) n54 (.int .i64 k.g)).put 0 (.int .i64 r.f)).put 1 (.int .i64 r.c))
  have O2 := Lib.hid ((((((O.out.new l4 0 (.int .i64 k.n)).new l4 1 (.int .i64 k.a)).new l4 2 (.int .i64 k.p)).new l4 3 (.int .i64 k.g)).new l5 0 (.int .i64 r.f)).new l5 1 (.int .i64 r.c))
  clear e0 e1 e2 e3 e4 e5 g0 g1 g2 g3 g4 g5 z4 z5 y4 y5 C
  generalize (((((w1.setCell ⟨q4, 0, none⟩ (.int .i64 k.n)).setCell ⟨q4, 1, none⟩ (.int .i64 k.a)).setCell ⟨q4, 2, none⟩ (.int .i64 k.p)).setCell ⟨q4, 3, none⟩ (.int .i64 k.g)).setCell ⟨q5, 0, none⟩ (.int .i64 r.f)).setCell ⟨q5, 1, none⟩ (.int .i64 r.c) = w2 at *
  have R4' : Row w2.drew q4 57 #[.int .i64 k.n, .int .i64 k.a, .int .i64 k.p, .int .i64 k.g] := R4.out
  have R5' : Row w2.drew q5 36 #[.int .i64 r.f, .int .i64 r.c] := R5.out
  obtain ⟨e0, e1, e2, e3⟩ := R4'.four
  obtain ⟨e4, e5⟩ := R5'.two
  go_wp2_with fail
  exact bodyPost_ret (v := .tuple #[.agg #[.int .i64 k.n, .int .i64 k.a, .int .i64 k.p, .int .i64 k.g], .agg #[.int .i64 r.f, .int .i64 r.c], .int .i64 q]) (by simp [results, Try.results48, go_sem, e0, e1, e2, e3, e4, e5]) rfl ⟨rfl, O2.out.drew⟩
end Go.Proofs.Ytfmmmiiohaaegaa

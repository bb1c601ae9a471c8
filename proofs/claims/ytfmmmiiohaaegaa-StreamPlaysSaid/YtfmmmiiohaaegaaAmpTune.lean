/- What Late, Waste, Trigger and Start of package amp answer, of any pace. -/
import Derived.Test.YtfmmmiiohaaegaaAmpCall
namespace Go.Proofs.Ytfmmmiiohaaegaa
open Go.RowKit
set_option linter.unusedVariables false

namespace Fl
def late (f : Fl) : Fl := if 1 ≤ f.p ∧ 0 ≤ f.g ∧ f.g < f.p - 1 then ⟨f.n, f.a, f.p, f.g + 1⟩ else f
/-- both numbers within their bounds -/
def ok (f : Fl) : Prop := 1 ≤ f.p ∧ 0 ≤ f.g ∧ f.g < f.p
instance (f : Fl) : Decidable f.ok := inferInstanceAs (Decidable (_ ∧ _))
def waste (f : Fl) : Fl := if 1 ≤ f.p ∧ 0 ≤ f.g ∧ f.g < f.p then ⟨f.n, f.a, max (f.p - 1) 1, min (max (f.g - 1) 0) (max (f.p - 1) 1 - 1)⟩ else f
def trigger (f : Fl) : Int := if 0 ≤ f.a ∧ 0 ≤ f.g then f.a - 1 - f.g else 0
def start (n : Int) : Fl := ⟨n, n, 1, 0⟩
end Fl

theorem held_iff (f : Fl) (h : f.Wf) : (f = f.held 9223372036854775807) ↔ f.ok := by
  obtain ⟨_, _, _, _, h1, h2, h3, h4⟩ := h
  obtain ⟨n, a, p, g⟩ := f
  unfold Fl.held Fl.ok
  dsimp only at h1 h2 h3 h4 ⊢
  simp only [Fl.mk.injEq, true_and]
  omega

theorem start_any (n : Int) (w : World) : Calls Try.prog 23 #[.int .i64 n] w fun e w' => e = .returned (Fl.start n).val ∧ Only none_ w w' := by
  unfold Fl.val Fl.start
  go_enter Try.func23, Try.ntmps23
  go_wp2_with fail
  exact bodyPost_ret (v := .agg #[.int .i64 n, .int .i64 n, .int .i64 1, .int .i64 0]) (by simp [results, Try.results23, go_sem]) rfl ⟨rfl, (Only.refl none_ w).alloc _⟩

set_option maxHeartbeats 1000000 in
theorem late_any (f : Fl) (w : World) (h : f.Wf) : Calls Try.prog 34 #[f.val] w fun e w' => e = .returned f.late.val ∧ Only none_ w w' := by
  have HI := Lib.hid (held_iff f h)
  have H := Lib.hid (fun g w => held_any g 9223372036854775807 w (by omega) (by omega))
  have HW := Lib.hid h
  clear h
  unfold Fl.val at H ⊢
  go_enter Try.func34, Try.ntmps34
  go_wp2_with fail
  have r0 := (Row.fresh w 57 #[.int .i64 f.n, .int .i64 f.a, .int .i64 f.p, .int .i64 f.g]).alloc (.cells #[.int .i64 0, .int .i64 0, .int .i64 0, .int .i64 0] 57)
  have r1 := Row.fresh (w.alloc (.cells #[.int .i64 f.n, .int .i64 f.a, .int .i64 f.p, .int .i64 f.g] 57)) 57 #[.int .i64 0, .int .i64 0, .int .i64 0, .int .i64 0]
  rw [World.size_alloc] at r1
  have OA := Lib.hid (((Only.refl none_ w).alloc (.cells #[.int .i64 f.n, .int .i64 f.a, .int .i64 f.p, .int .i64 f.g] 57)).alloc (.cells #[.int .i64 0, .int .i64 0, .int .i64 0, .int .i64 0] 57))
  have n01 : w.heap.size ≠ w.heap.size + 1 := by omega
  generalize (w.alloc (.cells #[.int .i64 f.n, .int .i64 f.a, .int .i64 f.p, .int .i64 f.g] 57)).alloc (.cells #[.int .i64 0, .int .i64 0, .int .i64 0, .int .i64 0] 57) = w0 at *
  obtain ⟨q1, hq1⟩ : ∃ q1, w.heap.size + 1 = q1 := ⟨_, rfl⟩
  obtain ⟨q0, hq0⟩ : ∃ q0, w.heap.size = q0 := ⟨_, rfl⟩
  have L0 := Lib.hid (show w.heap.size ≤ q0 by omega)
  have L1 := Lib.hid (show w.heap.size ≤ q1 by omega)
  rw [hq1] at n01 r1 ⊢
  rw [hq0] at n01 r0 ⊢
  clear hq0 hq1
  have n10 : q1 ≠ q0 := fun e => n01 e.symm
  have R0 := Lib.hid r0
  have R1 := Lib.hid r1
  clear r0 r1
  have OD := Lib.hid (Only.refl none_ w0).drew
  obtain ⟨c0, c1, c2, c3⟩ := (OD.out.still R0.out).four
  have RF := Lib.hid (fun w' (o : Only none_ w0 w') => (o.still R0.out).four)
  by_cases hk : f.ok
  · have EQ := fun w => eq_fl f (f.held 9223372036854775807) w
    rw [decide_eq_true (HI.out.2 hk)] at EQ
    have k1 := hk.1
    have k2 := hk.2.1
    have k3 := hk.2.2
    have p1 := HW.out.p1
    have g1 := HW.out.g1
    have v1 : IntKind.i64.wrap (f.g + 1) = f.g + 1 := by rw [IntKind.wrap_i64]; omega
    have T := Lib.hid (show f.late = (Fl.mk f.n f.a f.p (f.g + 1)).held 9223372036854775807 from by
      unfold Fl.late Fl.held
      dsimp only
      by_cases hc : f.g < f.p - 1
      · rw [if_pos ⟨k1, k2, hc⟩]; simp only [Fl.mk.injEq, true_and]; omega
      · rw [if_neg (fun h => hc h.2.2)]
        obtain ⟨n, a, p, g⟩ := f
        dsimp only at *
        simp only [Fl.mk.injEq, true_and]; omega)
    clear HI HW k1 k2 k3 p1 g1 hk
    go_region_held3 (fun w' => w'.cell? ⟨q0, 0, none⟩ = some (.int .i64 f.n) ∧ w'.cell? ⟨q0, 1, none⟩ = some (.int .i64 f.a) ∧ w'.cell? ⟨q0, 2, none⟩ = some (.int .i64 f.p) ∧ w'.cell? ⟨q0, 3, none⟩ = some (.int .i64 f.g))
      (first
        | (with_reducible exact RF.out _ O1.out)
        | (with_reducible exact RF.out _ OD.out)
        | fail)
      (first
        | (go_at_call 52; (with_reducible refine (H.out f _).mono ?_); rintro e w1 ⟨rfl, o1⟩; have O1 := Lib.hid (OD.out.same o1.only))
        | fail)
    rename_i hHeld
    clear hHeld o1 EQ c0 c1 c2 c3 RF OD
    have A1 := Lib.hid (OA.out.same O1.out)
    have S0 := Lib.hid (O1.out.still R0.out)
    have S1 := Lib.hid (O1.out.still R1.out)
    obtain ⟨c0, c1, c2, c3⟩ := S0.out.four
    obtain ⟨d0, d1, d2, d3⟩ := S1.out.four
    have z0 := S0.out.frozen
    have z1 := S1.out.frozen
    clear O1 OA R0 R1
    generalize f.held 9223372036854775807 = hh at *
    go_wp2_with fail
    (with_reducible refine (H.out (Fl.mk f.n f.a f.p (f.g + 1)) _).mono ?_)
    rintro e w2 ⟨rfl, o2⟩
    have T' := Lib.hid T.out
    generalize (Fl.mk f.n f.a f.p (f.g + 1)).held 9223372036854775807 = k at *
    have S0' := Lib.hid (o2.only.still (S0.out.put 3 (.int .i64 (f.g + 1))))
    have S1' := Lib.hid (o2.only.still (S1.out.far (p := ⟨q0, 3, none⟩) n10 (.int .i64 (f.g + 1))))
    have A2 := Lib.hid ((A1.out.new L0.out 3 (.int .i64 (f.g + 1))).same o2.only)
    clear c0 c1 c2 c3 d0 d1 d2 d3 z0 z1 o2 S0 S1 A1
    have z1 := S1'.out.frozen
    obtain ⟨d0, d1, d2, d3⟩ := S1'.out.four
    go_wp2_with fail
    have e0 := Lib.hid ((((S1'.out.put 0 (.int .i64 k.n)).put 1 (.int .i64 k.a)).put 2 (.int .i64 k.p)).put 3 (.int .i64 k.g))
    have A3 := Lib.hid ((((A2.out.new L1.out 0 (.int .i64 k.n)).new L1.out 1 (.int .i64 k.a)).new L1.out 2 (.int .i64 k.p)).new L1.out 3 (.int .i64 k.g))
    clear d0 d1 d2 d3 z1
    generalize (((w2.setCell ⟨q1, 0, none⟩ (.int .i64 k.n)).setCell ⟨q1, 1, none⟩ (.int .i64 k.a)).setCell ⟨q1, 2, none⟩ (.int .i64 k.p)).setCell ⟨q1, 3, none⟩ (.int .i64 k.g) = w3 at *
    obtain ⟨d0, d1, d2, d3⟩ := (show Row w3 q1 57 #[.int .i64 k.n, .int .i64 k.a, .int .i64 k.p, .int .i64 k.g] from e0.out).four
    rw [T.out]
    exact bodyPost_ret (v := .agg #[.int .i64 k.n, .int .i64 k.a, .int .i64 k.p, .int .i64 k.g]) (by simp [results, Try.results34, go_sem, d0, d1, d2, d3]) rfl ⟨rfl, A3.out⟩
  · have EQ := fun w => eq_fl f (f.held 9223372036854775807) w
    rw [decide_eq_false (fun e => hk (HI.out.1 e))] at EQ
    have T := Lib.hid (show f.late = f from by
      unfold Fl.late
      rw [if_neg]
      rintro ⟨x1, x2, x3⟩
      exact hk ⟨x1, x2, by omega⟩)
    clear HI HW hk
    go_region_held3 (fun w' => w'.cell? ⟨q0, 0, none⟩ = some (.int .i64 f.n) ∧ w'.cell? ⟨q0, 1, none⟩ = some (.int .i64 f.a) ∧ w'.cell? ⟨q0, 2, none⟩ = some (.int .i64 f.p) ∧ w'.cell? ⟨q0, 3, none⟩ = some (.int .i64 f.g))
      (first
        | (with_reducible exact RF.out _ O1.out)
        | (with_reducible exact RF.out _ OD.out)
        | fail)
      (first
        | (go_at_call 52; (with_reducible refine (H.out f _).mono ?_); rintro e w1 ⟨rfl, o1⟩; have O1 := Lib.hid (OD.out.same o1.only))
        | fail)
    rename_i hHeld
    clear hHeld o1 EQ c0 c1 c2 c3 RF OD
    have A1 := Lib.hid (OA.out.same O1.out)
    have S0 := Lib.hid (O1.out.still R0.out)
    have S1 := Lib.hid (O1.out.still R1.out)
    obtain ⟨c0, c1, c2, c3⟩ := S0.out.four
    obtain ⟨d0, d1, d2, d3⟩ := S1.out.four
    have z1 := S1.out.frozen
    clear O1 OA R0 R1
    generalize f.held 9223372036854775807 = hh at *
    go_wp2_with fail
    have e0 := Lib.hid ((((S1.out.put 0 (.int .i64 f.n)).put 1 (.int .i64 f.a)).put 2 (.int .i64 f.p)).put 3 (.int .i64 f.g))
    have A2 := Lib.hid ((((A1.out.new L1.out 0 (.int .i64 f.n)).new L1.out 1 (.int .i64 f.a)).new L1.out 2 (.int .i64 f.p)).new L1.out 3 (.int .i64 f.g))
    clear c0 c1 c2 c3 d0 d1 d2 d3 z1
    generalize (((w1.setCell ⟨q1, 0, none⟩ (.int .i64 f.n)).setCell ⟨q1, 1, none⟩ (.int .i64 f.a)).setCell ⟨q1, 2, none⟩ (.int .i64 f.p)).setCell ⟨q1, 3, none⟩ (.int .i64 f.g) = w3 at *
    obtain ⟨d0, d1, d2, d3⟩ := (show Row w3 q1 57 #[.int .i64 f.n, .int .i64 f.a, .int .i64 f.p, .int .i64 f.g] from e0.out).four
    rw [T.out]
    exact bodyPost_ret (v := .agg #[.int .i64 f.n, .int .i64 f.a, .int .i64 f.p, .int .i64 f.g]) (by simp [results, Try.results34, go_sem, d0, d1, d2, d3]) rfl ⟨rfl, A2.out⟩
set_option maxHeartbeats 1000000 in
theorem waste_any (f : Fl) (w : World) (h : f.Wf) : Calls Try.prog 37 #[f.val] w fun e w' => e = .returned f.waste.val ∧ Only none_ w w' := by
  have HI := Lib.hid (held_iff f h)
  have H := Lib.hid (fun g w => held_any g 9223372036854775807 w (by omega) (by omega))
  have HW := Lib.hid h
  clear h
  unfold Fl.val at H ⊢
  go_enter Try.func37, Try.ntmps37
  go_wp2_with fail
  have r0 := (Row.fresh w 57 #[.int .i64 f.n, .int .i64 f.a, .int .i64 f.p, .int .i64 f.g]).alloc (.cells #[.int .i64 0, .int .i64 0, .int .i64 0, .int .i64 0] 57)
  have r1 := Row.fresh (w.alloc (.cells #[.int .i64 f.n, .int .i64 f.a, .int .i64 f.p, .int .i64 f.g] 57)) 57 #[.int .i64 0, .int .i64 0, .int .i64 0, .int .i64 0]
  rw [World.size_alloc] at r1
  have OA := Lib.hid (((Only.refl none_ w).alloc (.cells #[.int .i64 f.n, .int .i64 f.a, .int .i64 f.p, .int .i64 f.g] 57)).alloc (.cells #[.int .i64 0, .int .i64 0, .int .i64 0, .int .i64 0] 57))
  have n01 : w.heap.size ≠ w.heap.size + 1 := by omega
  generalize (w.alloc (.cells #[.int .i64 f.n, .int .i64 f.a, .int .i64 f.p, .int .i64 f.g] 57)).alloc (.cells #[.int .i64 0, .int .i64 0, .int .i64 0, .int .i64 0] 57) = w0 at *
  obtain ⟨q1, hq1⟩ : ∃ q1, w.heap.size + 1 = q1 := ⟨_, rfl⟩
  obtain ⟨q0, hq0⟩ : ∃ q0, w.heap.size = q0 := ⟨_, rfl⟩
  have L0 := Lib.hid (show w.heap.size ≤ q0 by omega)
  have L1 := Lib.hid (show w.heap.size ≤ q1 by omega)
  rw [hq1] at n01 r1 ⊢
  rw [hq0] at n01 r0 ⊢
  clear hq0 hq1
  have n10 : q1 ≠ q0 := fun e => n01 e.symm
  have R0 := Lib.hid r0
  have R1 := Lib.hid r1
  clear r0 r1
  have OD := Lib.hid (Only.refl none_ w0).drew
  obtain ⟨c0, c1, c2, c3⟩ := (OD.out.still R0.out).four
  have RF := Lib.hid (fun w' (o : Only none_ w0 w') => (o.still R0.out).four)
  by_cases hk : f.ok
  · have EQ := fun w => eq_fl f (f.held 9223372036854775807) w
    rw [decide_eq_true (HI.out.2 hk)] at EQ
    have k1 := hk.1
    have k2 := hk.2.1
    have k3 := hk.2.2
    have p1 := HW.out.p1
    have g1 := HW.out.g1
    have v1 : IntKind.i64.wrap (f.g - 1) = f.g - 1 := by rw [IntKind.wrap_i64]; omega
    have v2 : IntKind.i64.wrap (f.p - 1) = f.p - 1 := by rw [IntKind.wrap_i64]; omega
    have T := Lib.hid (show f.waste = (Fl.mk f.n f.a (f.p - 1) (f.g - 1)).held 9223372036854775807 from by
      unfold Fl.waste Fl.held
      dsimp only
      rw [if_pos ⟨k1, k2, k3⟩]
      simp only [Fl.mk.injEq, true_and]; omega)
    clear HI HW k1 k2 k3 p1 g1 hk
    go_region_held3 (fun w' => w'.cell? ⟨q0, 0, none⟩ = some (.int .i64 f.n) ∧ w'.cell? ⟨q0, 1, none⟩ = some (.int .i64 f.a) ∧ w'.cell? ⟨q0, 2, none⟩ = some (.int .i64 f.p) ∧ w'.cell? ⟨q0, 3, none⟩ = some (.int .i64 f.g))
      (first
        | (with_reducible exact RF.out _ O1.out)
        | (with_reducible exact RF.out _ OD.out)
        | fail)
      (first
        | (go_at_call 52; (with_reducible refine (H.out f _).mono ?_); rintro e w1 ⟨rfl, o1⟩; have O1 := Lib.hid (OD.out.same o1.only))
        | fail)
    rename_i hHeld
    clear hHeld o1 EQ c0 c1 c2 c3 RF OD
    have A1 := Lib.hid (OA.out.same O1.out)
    have S0 := Lib.hid (O1.out.still R0.out)
    have S1 := Lib.hid (O1.out.still R1.out)
    obtain ⟨c0, c1, c2, c3⟩ := S0.out.four
    obtain ⟨d0, d1, d2, d3⟩ := S1.out.four
    have z0 := S0.out.frozen
    have z1 := S1.out.frozen
    clear O1 OA R0 R1
    generalize f.held 9223372036854775807 = hh at *
    go_wp2_with fail
    (with_reducible refine (H.out (Fl.mk f.n f.a (f.p - 1) (f.g - 1)) _).mono ?_)
    rintro e w2 ⟨rfl, o2⟩
    have T' := Lib.hid T.out
    generalize (Fl.mk f.n f.a (f.p - 1) (f.g - 1)).held 9223372036854775807 = k at *
    have S0' := Lib.hid (o2.only.still ((S0.out.put 2 (.int .i64 (f.p - 1))).put 3 (.int .i64 (f.g - 1))))
    have S1' := Lib.hid (o2.only.still ((S1.out.far (p := ⟨q0, 2, none⟩) n10 (.int .i64 (f.p - 1))).far (p := ⟨q0, 3, none⟩) n10 (.int .i64 (f.g - 1))))
    have A2 := Lib.hid (((A1.out.new L0.out 2 (.int .i64 (f.p - 1))).new L0.out 3 (.int .i64 (f.g - 1))).same o2.only)
    clear c0 c1 c2 c3 d0 d1 d2 d3 z0 z1 o2 S0 S1 A1
    have z1 := S1'.out.frozen
    obtain ⟨d0, d1, d2, d3⟩ := S1'.out.four
    go_wp2_with fail
    have e0 := Lib.hid ((((S1'.out.put 0 (.int .i64 k.n)).put 1 (.int .i64 k.a)).put 2 (.int .i64 k.p)).put 3 (.int .i64 k.g))
    have A3 := Lib.hid ((((A2.out.new L1.out 0 (.int .i64 k.n)).new L1.out 1 (.int .i64 k.a)).new L1.out 2 (.int .i64 k.p)).new L1.out 3 (.int .i64 k.g))
    clear d0 d1 d2 d3 z1
    generalize (((w2.setCell ⟨q1, 0, none⟩ (.int .i64 k.n)).setCell ⟨q1, 1, none⟩ (.int .i64 k.a)).setCell ⟨q1, 2, none⟩ (.int .i64 k.p)).setCell ⟨q1, 3, none⟩ (.int .i64 k.g) = w3 at *
    obtain ⟨d0, d1, d2, d3⟩ := (show Row w3 q1 57 #[.int .i64 k.n, .int .i64 k.a, .int .i64 k.p, .int .i64 k.g] from e0.out).four
    rw [T.out]
    exact bodyPost_ret (v := .agg #[.int .i64 k.n, .int .i64 k.a, .int .i64 k.p, .int .i64 k.g]) (by simp [results, Try.results37, go_sem, d0, d1, d2, d3]) rfl ⟨rfl, A3.out⟩
  · have EQ := fun w => eq_fl f (f.held 9223372036854775807) w
    rw [decide_eq_false (fun e => hk (HI.out.1 e))] at EQ
    have T := Lib.hid (show f.waste = f from by
      unfold Fl.waste
      rw [if_neg]
      rintro ⟨x1, x2, x3⟩
      exact hk ⟨x1, x2, x3⟩)
    clear HI HW hk
    go_region_held3 (fun w' => w'.cell? ⟨q0, 0, none⟩ = some (.int .i64 f.n) ∧ w'.cell? ⟨q0, 1, none⟩ = some (.int .i64 f.a) ∧ w'.cell? ⟨q0, 2, none⟩ = some (.int .i64 f.p) ∧ w'.cell? ⟨q0, 3, none⟩ = some (.int .i64 f.g))
      (first
        | (with_reducible exact RF.out _ O1.out)
        | (with_reducible exact RF.out _ OD.out)
        | fail)
      (first
        | (go_at_call 52; (with_reducible refine (H.out f _).mono ?_); rintro e w1 ⟨rfl, o1⟩; have O1 := Lib.hid (OD.out.same o1.only))
        | fail)
    rename_i hHeld
    clear hHeld o1 EQ c0 c1 c2 c3 RF OD
    have A1 := Lib.hid (OA.out.same O1.out)
    have S0 := Lib.hid (O1.out.still R0.out)
    have S1 := Lib.hid (O1.out.still R1.out)
    obtain ⟨c0, c1, c2, c3⟩ := S0.out.four
    obtain ⟨d0, d1, d2, d3⟩ := S1.out.four
    have z1 := S1.out.frozen
    clear O1 OA R0 R1
    generalize f.held 9223372036854775807 = hh at *
    go_wp2_with fail
    have e0 := Lib.hid ((((S1.out.put 0 (.int .i64 f.n)).put 1 (.int .i64 f.a)).put 2 (.int .i64 f.p)).put 3 (.int .i64 f.g))
    have A2 := Lib.hid ((((A1.out.new L1.out 0 (.int .i64 f.n)).new L1.out 1 (.int .i64 f.a)).new L1.out 2 (.int .i64 f.p)).new L1.out 3 (.int .i64 f.g))
    clear c0 c1 c2 c3 d0 d1 d2 d3 z1
    generalize (((w1.setCell ⟨q1, 0, none⟩ (.int .i64 f.n)).setCell ⟨q1, 1, none⟩ (.int .i64 f.a)).setCell ⟨q1, 2, none⟩ (.int .i64 f.p)).setCell ⟨q1, 3, none⟩ (.int .i64 f.g) = w3 at *
    obtain ⟨d0, d1, d2, d3⟩ := (show Row w3 q1 57 #[.int .i64 f.n, .int .i64 f.a, .int .i64 f.p, .int .i64 f.g] from e0.out).four
    rw [T.out]
    exact bodyPost_ret (v := .agg #[.int .i64 f.n, .int .i64 f.a, .int .i64 f.p, .int .i64 f.g]) (by simp [results, Try.results37, go_sem, d0, d1, d2, d3]) rfl ⟨rfl, A2.out⟩
end Go.Proofs.Ytfmmmiiohaaegaa

/- What the document's own answer for package amp says: the same, of any pace, any count, any degree and any disk. -/
import Derived.Test.YtfmmmiiohaaegaaAmpTune
namespace Go.Proofs.Ytfmmmiiohaaegaa
open Go.RowKit
set_option linter.unusedVariables false

theorem may_dec (f : Fl) (d b : Int) : f.May d b ↔ ((1 ≤ d ∧ d ≤ 16 ∧ 1 ≤ b ∧ b ≤ 256) ∧ (0 ≤ f.n ∧ f.n ≤ f.a ∧ f.a ≤ b) ∧ (1 ≤ f.p ∧ f.p ≤ d ∧ 0 ≤ f.g ∧ f.g < f.p)) :=
  ⟨fun h => ⟨⟨h.d0, h.d1, h.b0, h.b1⟩, ⟨h.n0, h.na, h.ab⟩, ⟨h.p0, h.pd, h.g0, by have := h.gp; omega⟩⟩, fun ⟨⟨a, b, c, d⟩, ⟨e, f, g⟩, ⟨h, i, j, k⟩⟩ => ⟨a, b, c, d, e, f, g, h, i, j, by omega⟩⟩

/-- one new block -/
def One (w w' : World) : Prop := ∃ o, w' = w.alloc o
theorem One.only {w w' : World} (h : One w w') : Only none_ w w' := by
  obtain ⟨o, rfl⟩ := h
  exact (Only.refl none_ w).alloc _

set_option maxHeartbeats 1000000 in
theorem rmay_any (f : Fl) (d b : Int) (w : World) : Calls Try.prog 21 #[f.val, .int .i64 d, .int .i64 b] w fun e w' => e = .returned (.bool (decide (f.May d b))) ∧ One w w' := by
  unfold Fl.val
  have u0 : decide (d < 1) = true ∨ decide (d < 1) = false := by cases decide (d < 1) <;> simp
  rcases u0 with t0 | t0
  · have hm : decide (f.May d b) = false := by
      rw [decide_eq_false_iff_not, may_dec]
      simp only [decide_eq_true_eq] at t0
      omega
    rw [hm]
    clear hm
    go_enter Try.func21, Try.ntmps21
    go_wp2_with fail
    go_ret
    exact ⟨rfl, _, rfl⟩
  have u1 : decide (16 < d) = true ∨ decide (16 < d) = false := by cases decide (16 < d) <;> simp
  rcases u1 with t1 | t1
  · have hm : decide (f.May d b) = false := by
      rw [decide_eq_false_iff_not, may_dec]
      simp only [decide_eq_true_eq] at t1
      omega
    rw [hm]
    clear hm
    go_enter Try.func21, Try.ntmps21
    go_wp2_with fail
    go_ret
    exact ⟨rfl, _, rfl⟩
  have u2 : decide (b < 1) = true ∨ decide (b < 1) = false := by cases decide (b < 1) <;> simp
  rcases u2 with t2 | t2
  · have hm : decide (f.May d b) = false := by
      rw [decide_eq_false_iff_not, may_dec]
      simp only [decide_eq_true_eq] at t2
      omega
    rw [hm]
    clear hm
    go_enter Try.func21, Try.ntmps21
    go_wp2_with fail
    go_ret
    exact ⟨rfl, _, rfl⟩
  have u3 : decide (256 < b) = true ∨ decide (256 < b) = false := by cases decide (256 < b) <;> simp
  rcases u3 with t3 | t3
  · have hm : decide (f.May d b) = false := by
      rw [decide_eq_false_iff_not, may_dec]
      simp only [decide_eq_true_eq] at t3
      omega
    rw [hm]
    clear hm
    go_enter Try.func21, Try.ntmps21
    go_wp2_with fail
    go_ret
    exact ⟨rfl, _, rfl⟩
  have u4 : decide (0 ≤ f.n) = false ∨ decide (0 ≤ f.n) = true := by cases decide (0 ≤ f.n) <;> simp
  rcases u4 with t4 | t4
  · have hm : decide (f.May d b) = false := by
      rw [decide_eq_false_iff_not, may_dec]
      simp only [decide_eq_false_iff_not] at t4
      omega
    rw [hm]
    clear hm
    go_enter Try.func21, Try.ntmps21
    go_wp2_with fail
    go_ret
    exact ⟨rfl, _, rfl⟩
  have u5 : decide (f.n ≤ f.a) = false ∨ decide (f.n ≤ f.a) = true := by cases decide (f.n ≤ f.a) <;> simp
  rcases u5 with t5 | t5
  · have hm : decide (f.May d b) = false := by
      rw [decide_eq_false_iff_not, may_dec]
      simp only [decide_eq_false_iff_not] at t5
      omega
    rw [hm]
    clear hm
    go_enter Try.func21, Try.ntmps21
    go_wp2_with fail
    go_ret
    exact ⟨rfl, _, rfl⟩
  have u6 : decide (f.a ≤ b) = false ∨ decide (f.a ≤ b) = true := by cases decide (f.a ≤ b) <;> simp
  rcases u6 with t6 | t6
  · have hm : decide (f.May d b) = false := by
      rw [decide_eq_false_iff_not, may_dec]
      simp only [decide_eq_false_iff_not] at t6
      omega
    rw [hm]
    clear hm
    go_enter Try.func21, Try.ntmps21
    go_wp2_with fail
    go_ret
    exact ⟨rfl, _, rfl⟩
  have u7 : decide (1 ≤ f.p) = false ∨ decide (1 ≤ f.p) = true := by cases decide (1 ≤ f.p) <;> simp
  rcases u7 with t7 | t7
  · have hm : decide (f.May d b) = false := by
      rw [decide_eq_false_iff_not, may_dec]
      simp only [decide_eq_false_iff_not] at t7
      omega
    rw [hm]
    clear hm
    go_enter Try.func21, Try.ntmps21
    go_wp2_with fail
    go_ret
    exact ⟨rfl, _, rfl⟩
  have u8 : decide (f.p ≤ d) = false ∨ decide (f.p ≤ d) = true := by cases decide (f.p ≤ d) <;> simp
  rcases u8 with t8 | t8
  · have hm : decide (f.May d b) = false := by
      rw [decide_eq_false_iff_not, may_dec]
      simp only [decide_eq_false_iff_not] at t8
      omega
    rw [hm]
    clear hm
    go_enter Try.func21, Try.ntmps21
    go_wp2_with fail
    go_ret
    exact ⟨rfl, _, rfl⟩
  have u9 : decide (0 ≤ f.g) = false ∨ decide (0 ≤ f.g) = true := by cases decide (0 ≤ f.g) <;> simp
  rcases u9 with t9 | t9
  · have hm : decide (f.May d b) = false := by
      rw [decide_eq_false_iff_not, may_dec]
      simp only [decide_eq_false_iff_not] at t9
      omega
    rw [hm]
    clear hm
    go_enter Try.func21, Try.ntmps21
    go_wp2_with fail
    go_ret
    exact ⟨rfl, _, rfl⟩
  have u10 : decide (f.g < f.p) = false ∨ decide (f.g < f.p) = true := by cases decide (f.g < f.p) <;> simp
  rcases u10 with t10 | t10
  · have hm : decide (f.May d b) = false := by
      rw [decide_eq_false_iff_not, may_dec]
      simp only [decide_eq_false_iff_not] at t10
      omega
    rw [hm]
    clear hm
    go_enter Try.func21, Try.ntmps21
    go_wp2_with fail
    go_ret
    exact ⟨rfl, _, rfl⟩
  have hm : decide (f.May d b) = true := by
    rw [decide_eq_true_eq, may_dec]
    simp only [decide_eq_true_eq, decide_eq_false_iff_not] at t0 t1 t2 t3 t4 t5 t6 t7 t8 t9 t10
    omega
  rw [hm]
  clear hm
  go_enter Try.func21, Try.ntmps21
  go_wp2_with fail
  go_ret
  exact ⟨rfl, _, rfl⟩

set_option maxHeartbeats 1000000 in
theorem rlate_any (f : Fl) (w : World) (h : f.Wf) : Calls Try.prog 35 #[f.val] w fun e w' => e = .returned f.late.val ∧ Only none_ w w' := by
  obtain ⟨_, _, _, _, h1, h2, h3, h4⟩ := h
  by_cases hc : 1 ≤ f.p ∧ 0 ≤ f.g ∧ f.g < f.p - 1
  · have T := Lib.hid (show f.late = ⟨f.n, f.a, f.p, f.g + 1⟩ from by unfold Fl.late; rw [if_pos hc])
    have v1 : IntKind.i64.wrap (f.p - 1) = f.p - 1 := by rw [IntKind.wrap_i64]; omega
    have v2 : IntKind.i64.wrap (f.g + 1) = f.g + 1 := by rw [IntKind.wrap_i64]; omega
    have t1 : decide (1 ≤ f.p) = true := by simp only [decide_eq_true_eq]; omega
    have t2 : decide (0 ≤ f.g) = true := by simp only [decide_eq_true_eq]; omega
    have t3 : decide (f.g < f.p - 1) = true := by simp only [decide_eq_true_eq]; omega
    clear hc h1 h2 h3 h4
    rw [T.out]
    unfold Fl.val
    go_enter Try.func35, Try.ntmps35
    go_wp2_with fail
    exact bodyPost_ret (v := .agg #[.int .i64 f.n, .int .i64 f.a, .int .i64 f.p, .int .i64 (f.g + 1)]) (by simp [results, Try.results35, go_sem]) rfl ⟨rfl, ((Only.refl none_ w).alloc _).alloc _⟩
  · have T := Lib.hid (show f.late = f from by unfold Fl.late; rw [if_neg hc])
    have t : decide (1 ≤ f.p) = false ∨ (decide (1 ≤ f.p) = true ∧ decide (0 ≤ f.g) = false) ∨ (decide (1 ≤ f.p) = true ∧ decide (0 ≤ f.g) = true ∧ decide (f.g < f.p - 1) = false ∧ IntKind.i64.wrap (f.p - 1) = f.p - 1) := by
      simp only [decide_eq_true_eq, decide_eq_false_iff_not, IntKind.wrap_i64]; omega
    clear hc h1 h2 h3 h4
    rw [T.out]
    unfold Fl.val
    rcases t with t1 | ⟨t1, t2⟩ | ⟨t1, t2, t3, v1⟩
    all_goals
      go_enter Try.func35, Try.ntmps35
      go_wp2_with fail
      exact bodyPost_ret (v := .agg #[.int .i64 f.n, .int .i64 f.a, .int .i64 f.p, .int .i64 f.g]) (by simp [results, Try.results35, go_sem]) rfl ⟨rfl, ((Only.refl none_ w).alloc _).alloc _⟩

set_option maxHeartbeats 1000000 in
theorem rwaste_any (f : Fl) (w : World) (h : f.Wf) : Calls Try.prog 36 #[f.val] w fun e w' => e = .returned f.waste.val ∧ Only none_ w w' := by
  obtain ⟨_, _, _, _, h1, h2, h3, h4⟩ := h
  by_cases hc : 1 ≤ f.p ∧ 0 ≤ f.g ∧ f.g < f.p
  · have t0 : decide (f.p < 1) = false ∧ decide (f.g < 0) = false ∧ decide (f.p ≤ f.g) = false := by simp only [decide_eq_false_iff_not]; omega
    obtain ⟨t0, t1, t2⟩ := t0
    have v1 : IntKind.i64.wrap (f.p - 1) = f.p - 1 := by rw [IntKind.wrap_i64]; omega
    have v2 : IntKind.i64.wrap (f.g - 1) = f.g - 1 := by rw [IntKind.wrap_i64]; omega
    have WW := Lib.hid (show f.waste = ⟨f.n, f.a, max (f.p - 1) 1, min (max (f.g - 1) 0) (max (f.p - 1) 1 - 1)⟩ from by unfold Fl.waste; rw [if_pos hc])
    have cs : (∃ p g, decide (1 < f.p) = false ∧ decide (0 < f.g) = false ∧ decide (f.p ≤ f.g) = false ∧ f.p = p ∧ f.g = g ∧ f.waste = ⟨f.n, f.a, p, g⟩)
        ∨ (∃ p g, decide (1 < f.p) = true ∧ decide (0 < f.g) = true ∧ decide (f.p - 1 ≤ f.g - 1) = false ∧ f.p - 1 = p ∧ f.g - 1 = g ∧ f.waste = ⟨f.n, f.a, p, g⟩)
        ∨ (∃ p g, decide (1 < f.p) = true ∧ decide (0 < f.g) = false ∧ decide (f.p - 1 ≤ f.g) = false ∧ f.p - 1 = p ∧ f.g = g ∧ f.waste = ⟨f.n, f.a, p, g⟩) := by
      simp only [decide_eq_true_eq, decide_eq_false_iff_not, WW.out, Fl.mk.injEq, true_and]
      have : (f.p = 1 ∧ f.g = 0) ∨ (1 < f.p ∧ 0 < f.g) ∨ (1 < f.p ∧ f.g = 0) := by omega
      rcases this with q | q | q
      · refine Or.inl ⟨_, _, ?_, ?_, ?_, rfl, rfl, ?_, ?_⟩ <;> omega
      · refine Or.inr (Or.inl ⟨_, _, ?_, ?_, ?_, rfl, rfl, ?_, ?_⟩) <;> omega
      · refine Or.inr (Or.inr ⟨_, _, ?_, ?_, ?_, rfl, rfl, ?_, ?_⟩) <;> omega
    clear hc h1 h2 h3 h4 WW
    rcases cs with ⟨p, g, s1, s2, s3, s4, s5, s6⟩ | ⟨p, g, s1, s2, s3, s4, s5, s6⟩ | ⟨p, g, s1, s2, s3, s4, s5, s6⟩
    all_goals
      have T := Lib.hid s6
      have S4 := Lib.hid s4
      have S5 := Lib.hid s5
      clear s4 s5 s6
      rw [T.out]
      rw [← S4.out, ← S5.out]
      clear T S4 S5
      unfold Fl.val
      go_enter Try.func36, Try.ntmps36
      go_wp2_with fail
      first
        | exact bodyPost_ret (v := .agg #[.int .i64 f.n, .int .i64 f.a, .int .i64 f.p, .int .i64 f.g]) (by simp [results, Try.results36, go_sem]) rfl ⟨rfl, ((Only.refl none_ w).alloc _).alloc _⟩
        | exact bodyPost_ret (v := .agg #[.int .i64 f.n, .int .i64 f.a, .int .i64 (f.p - 1), .int .i64 (f.g - 1)]) (by simp [results, Try.results36, go_sem]) rfl ⟨rfl, ((Only.refl none_ w).alloc _).alloc _⟩
        | exact bodyPost_ret (v := .agg #[.int .i64 f.n, .int .i64 f.a, .int .i64 (f.p - 1), .int .i64 f.g]) (by simp [results, Try.results36, go_sem]) rfl ⟨rfl, ((Only.refl none_ w).alloc _).alloc _⟩
  · have T := Lib.hid (show f.waste = f from by unfold Fl.waste; rw [if_neg hc])
    have t : decide (f.p < 1) = true ∨ (decide (f.p < 1) = false ∧ decide (f.g < 0) = true) ∨ (decide (f.p < 1) = false ∧ decide (f.g < 0) = false ∧ decide (f.p ≤ f.g) = true) := by
      simp only [decide_eq_true_eq, decide_eq_false_iff_not]; omega
    clear hc h1 h2 h3 h4
    rw [T.out]
    unfold Fl.val
    rcases t with t1 | ⟨t1, t2⟩ | ⟨t1, t2, t3⟩
    all_goals
      go_enter Try.func36, Try.ntmps36
      go_wp2_with fail
      exact bodyPost_ret (v := .agg #[.int .i64 f.n, .int .i64 f.a, .int .i64 f.p, .int .i64 f.g]) (by simp [results, Try.results36, go_sem]) rfl ⟨rfl, ((Only.refl none_ w).alloc _).alloc _⟩
end Go.Proofs.Ytfmmmiiohaaegaa

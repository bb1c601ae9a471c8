/- Texts of the layers below, one behind the other. -/
import Derived.Test.YtlfnncahhbbmpaaGreatDoorQE
import Derived.Deep.Cut
import Derived.Test.YtlfnncahhbbmpaaGreatDoorQA
import Derived.OpenShut
import Derived.Lib.SmallJoins
import Derived.Test.YtlfnncahhbbmpaaGreatDoorQR
import Derived.BigRegion
namespace Go.Proofs.YtlfnncahhbbmpaaGreatDoor
open Go.RowKit
set_option linter.unusedVariables false
set_option maxRecDepth 100000

theorem may_dec (f : Fl) (d b : Int) : f.May d b ↔ ((1 ≤ d ∧ d ≤ 16 ∧ 1 ≤ b ∧ b ≤ 256) ∧ (0 ≤ f.n ∧ f.n ≤ f.a ∧ f.a ≤ b) ∧ (1 ≤ f.p ∧ f.p ≤ d ∧ 0 ≤ f.g ∧ f.g < f.p)) :=
  ⟨fun h => ⟨⟨h.d0, h.d1, h.b0, h.b1⟩, ⟨h.n0, h.na, h.ab⟩, ⟨h.p0, h.pd, h.g0, by have := h.gp; omega⟩⟩, fun ⟨⟨a, b, c, d⟩, ⟨e, f, g⟩, ⟨h, i, j, k⟩⟩ => ⟨a, b, c, d, e, f, g, h, i, j, by omega⟩⟩

/-- one new block -/
def One (w w' : World) : Prop := ∃ o, w' = w.alloc o
theorem One.only {w w' : World} (h : One w w') : Only none_ w w' := by
  obtain ⟨o, rfl⟩ := h
  exact (Only.refl none_ w).alloc _

set_option maxHeartbeats 1000000 in
theorem rmay_any (f : Fl) (d b : Int) (w : World) : Calls Tryz.prog 129 #[f.val, .int .i64 d, .int .i64 b] w fun e w' => e = .returned (.bool (decide (f.May d b))) ∧ One w w' := by
  unfold Fl.val
  have u0 : decide (d < 1) = true ∨ decide (d < 1) = false := by cases decide (d < 1) <;> simp
  rcases u0 with t0 | t0
  · have hm : decide (f.May d b) = false := by
      rw [decide_eq_false_iff_not, may_dec]
      simp only [decide_eq_true_eq] at t0
      omega
    rw [hm]
    clear hm
    go_enter Tryz.func129, Tryz.ntmps129
    go_wp2_with fail
    go_ret
    exact ⟨rfl, _, rfl⟩
  have u1 : decide (16 < d) = true ∨ decide (16 < d) = false := by cases decide (16 < d) <;> simp
  rcases u1 with t1 | t1
  · have hm : decide (f.May d b) = false := by
      rw [decide_eq_false_iff_not, may_dec]
      simp only [decide_eq_true_eq] at t1
      omega
    rw [hm]
    clear hm
    go_enter Tryz.func129, Tryz.ntmps129
    go_wp2_with fail
    go_ret
    exact ⟨rfl, _, rfl⟩
  have u2 : decide (b < 1) = true ∨ decide (b < 1) = false := by cases decide (b < 1) <;> simp
  rcases u2 with t2 | t2
  · have hm : decide (f.May d b) = false := by
      rw [decide_eq_false_iff_not, may_dec]
      simp only [decide_eq_true_eq] at t2
      omega
    rw [hm]
    clear hm
    go_enter Tryz.func129, Tryz.ntmps129
    go_wp2_with fail
    go_ret
    exact ⟨rfl, _, rfl⟩
  have u3 : decide (256 < b) = true ∨ decide (256 < b) = false := by cases decide (256 < b) <;> simp
  rcases u3 with t3 | t3
  · have hm : decide (f.May d b) = false := by
      rw [decide_eq_false_iff_not, may_dec]
      simp only [decide_eq_true_eq] at t3
      omega
    rw [hm]
    clear hm
    go_enter Tryz.func129, Tryz.ntmps129
    go_wp2_with fail
    go_ret
    exact ⟨rfl, _, rfl⟩
  have u4 : decide (0 ≤ f.n) = false ∨ decide (0 ≤ f.n) = true := by cases decide (0 ≤ f.n) <;> simp
  rcases u4 with t4 | t4
  · have hm : decide (f.May d b) = false := by
      rw [decide_eq_false_iff_not, may_dec]
      simp only [decide_eq_false_iff_not] at t4
      omega
    rw [hm]
    clear hm
    go_enter Tryz.func129, Tryz.ntmps129
    go_wp2_with fail
    go_ret
    exact ⟨rfl, _, rfl⟩
  have u5 : decide (f.n ≤ f.a) = false ∨ decide (f.n ≤ f.a) = true := by cases decide (f.n ≤ f.a) <;> simp
  rcases u5 with t5 | t5
  · have hm : decide (f.May d b) = false := by
      rw [decide_eq_false_iff_not, may_dec]
      simp only [decide_eq_false_iff_not] at t5
      omega
    rw [hm]
    clear hm
    go_enter Tryz.func129, Tryz.ntmps129
    go_wp2_with fail
    go_ret
    exact ⟨rfl, _, rfl⟩
  have u6 : decide (f.a ≤ b) = false ∨ decide (f.a ≤ b) = true := by cases decide (f.a ≤ b) <;> simp
  rcases u6 with t6 | t6
  · have hm : decide (f.May d b) = false := by
      rw [decide_eq_false_iff_not, may_dec]
      simp only [decide_eq_false_iff_not] at t6
      omega
    rw [hm]
    clear hm
    go_enter Tryz.func129, Tryz.ntmps129
    go_wp2_with fail
    go_ret
    exact ⟨rfl, _, rfl⟩
  have u7 : decide (1 ≤ f.p) = false ∨ decide (1 ≤ f.p) = true := by cases decide (1 ≤ f.p) <;> simp
  rcases u7 with t7 | t7
  · have hm : decide (f.May d b) = false := by
      rw [decide_eq_false_iff_not, may_dec]
      simp only [decide_eq_false_iff_not] at t7
      omega
    rw [hm]
    clear hm
    go_enter Tryz.func129, Tryz.ntmps129
    go_wp2_with fail
    go_ret
    exact ⟨rfl, _, rfl⟩
  have u8 : decide (f.p ≤ d) = false ∨ decide (f.p ≤ d) = true := by cases decide (f.p ≤ d) <;> simp
  rcases u8 with t8 | t8
  · have hm : decide (f.May d b) = false := by
      rw [decide_eq_false_iff_not, may_dec]
      simp only [decide_eq_false_iff_not] at t8
      omega
    rw [hm]
    clear hm
    go_enter Tryz.func129, Tryz.ntmps129
    go_wp2_with fail
    go_ret
    exact ⟨rfl, _, rfl⟩
  have u9 : decide (0 ≤ f.g) = false ∨ decide (0 ≤ f.g) = true := by cases decide (0 ≤ f.g) <;> simp
  rcases u9 with t9 | t9
  · have hm : decide (f.May d b) = false := by
      rw [decide_eq_false_iff_not, may_dec]
      simp only [decide_eq_false_iff_not] at t9
      omega
    rw [hm]
    clear hm
    go_enter Tryz.func129, Tryz.ntmps129
    go_wp2_with fail
    go_ret
    exact ⟨rfl, _, rfl⟩
  have u10 : decide (f.g < f.p) = false ∨ decide (f.g < f.p) = true := by cases decide (f.g < f.p) <;> simp
  rcases u10 with t10 | t10
  · have hm : decide (f.May d b) = false := by
      rw [decide_eq_false_iff_not, may_dec]
      simp only [decide_eq_false_iff_not] at t10
      omega
    rw [hm]
    clear hm
    go_enter Tryz.func129, Tryz.ntmps129
    go_wp2_with fail
    go_ret
    exact ⟨rfl, _, rfl⟩
  have hm : decide (f.May d b) = true := by
    rw [decide_eq_true_eq, may_dec]
    simp only [decide_eq_true_eq, decide_eq_false_iff_not] at t0 t1 t2 t3 t4 t5 t6 t7 t8 t9 t10
    omega
  rw [hm]
  clear hm
  go_enter Tryz.func129, Tryz.ntmps129
  go_wp2_with fail
  go_ret
  exact ⟨rfl, _, rfl⟩

set_option maxHeartbeats 1000000 in
theorem rlate_any (f : Fl) (w : World) (h : f.Wf) : Calls Tryz.prog 93 #[f.val] w fun e w' => e = .returned f.late.val ∧ Only none_ w w' := by
  obtain ⟨_, _, _, _, h1, h2, h3, h4⟩ := h
  by_cases hc : 1 ≤ f.p ∧ 0 ≤ f.g ∧ f.g < f.p - 1
  · have T := Lib.hid (show f.late = ⟨f.n, f.a, f.p, f.g + 1⟩ from by unfold Fl.late; rw [if_pos hc])
    have v1 : IntKind.i64.wrap (f.p - 1) = f.p - 1 := by rw [IntKind.wrap_i64]; omega
    have v2 : IntKind.i64.wrap (f.g + 1) = f.g + 1 := by rw [IntKind.wrap_i64]; omega
    have t1 : decide (1 ≤ f.p) = true := by simp only [decide_eq_true_eq]; omega
    have t2 : decide (0 ≤ f.g) = true := by simp only [decide_eq_true_eq]; omega
    have t3 : decide (f.g < f.p - 1) = true := by simp only [decide_eq_true_eq]; omega
    clear hc h1 h2 h3 h4
    rw [T.out]
    unfold Fl.val
    go_enter Tryz.func93, Tryz.ntmps93
    go_wp2_with fail
    exact bodyPost_ret (v := .agg #[.int .i64 f.n, .int .i64 f.a, .int .i64 f.p, .int .i64 (f.g + 1)]) (by simp [results, Tryz.results93, go_sem]) rfl ⟨rfl, ((Only.refl none_ w).alloc _).alloc _⟩
  · have T := Lib.hid (show f.late = f from by unfold Fl.late; rw [if_neg hc])
    have t : decide (1 ≤ f.p) = false ∨ (decide (1 ≤ f.p) = true ∧ decide (0 ≤ f.g) = false) ∨ (decide (1 ≤ f.p) = true ∧ decide (0 ≤ f.g) = true ∧ decide (f.g < f.p - 1) = false ∧ IntKind.i64.wrap (f.p - 1) = f.p - 1) := by
      simp only [decide_eq_true_eq, decide_eq_false_iff_not, IntKind.wrap_i64]; omega
    clear hc h1 h2 h3 h4
    rw [T.out]
    unfold Fl.val
    rcases t with t1 | ⟨t1, t2⟩ | ⟨t1, t2, t3, v1⟩
    all_goals
      go_enter Tryz.func93, Tryz.ntmps93
      go_wp2_with fail
      exact bodyPost_ret (v := .agg #[.int .i64 f.n, .int .i64 f.a, .int .i64 f.p, .int .i64 f.g]) (by simp [results, Tryz.results93, go_sem]) rfl ⟨rfl, ((Only.refl none_ w).alloc _).alloc _⟩

set_option maxHeartbeats 1000000 in
theorem rwaste_any (f : Fl) (w : World) (h : f.Wf) : Calls Tryz.prog 94 #[f.val] w fun e w' => e = .returned f.waste.val ∧ Only none_ w w' := by
  obtain ⟨_, _, _, _, h1, h2, h3, h4⟩ := h
  by_cases hc : 1 ≤ f.p ∧ 0 ≤ f.g ∧ f.g < f.p
  · have t0 : decide (f.p < 1) = false ∧ decide (f.g < 0) = false ∧ decide (f.p ≤ f.g) = false := by simp only [decide_eq_false_iff_not]; omega
    obtain ⟨t0, t1, t2⟩ := t0
    have v1 : IntKind.i64.wrap (f.p - 1) = f.p - 1 := by rw [IntKind.wrap_i64]; omega
    have v2 : IntKind.i64.wrap (f.g - 1) = f.g - 1 := by rw [IntKind.wrap_i64]; omega
    have WW := Lib.hid (show f.waste = ⟨f.n, f.a, max (f.p - 1) 1, min (max (f.g - 1) 0) (max (f.p - 1) 1 - 1)⟩ from by unfold Fl.waste; rw [if_pos hc])
    have cs : (∃ p g, decide (1 < f.p) = false ∧ decide (0 < f.g) = false ∧ decide (f.p ≤ f.g) = false ∧ f.p = p ∧ f.g = g ∧ f.waste = ⟨f.n, f.a, p, g⟩)
        ∨ (∃ p g, decide (1 < f.p) = true ∧ decide (0 < f.g) = true ∧ decide (f.p - 1 ≤ f.g - 1) = false ∧ f.p - 1 = p ∧ f.g - 1 = g ∧ f.waste = ⟨f.n, f.a, p, g⟩)
        ∨ (∃ p g, decide (1 < f.p) = true ∧ decide (0 < f.g) = false ∧ decide (f.p - 1 ≤ f.g) = false ∧ f.p - 1 = p ∧ f.g = g ∧ f.waste = ⟨f.n, f.a, p, g⟩) := by
      simp only [decide_eq_true_eq, decide_eq_false_iff_not, WW.out, Fl.mk.injEq, true_and]
      have : (f.p = 1 ∧ f.g = 0) ∨ (1 < f.p ∧ 0 < f.g) ∨ (1 < f.p ∧ f.g = 0) := by omega
      rcases this with q | q | q
      · refine Or.inl ⟨_, _, ?_, ?_, ?_, rfl, rfl, ?_, ?_⟩ <;> omega
      · refine Or.inr (Or.inl ⟨_, _, ?_, ?_, ?_, rfl, rfl, ?_, ?_⟩) <;> omega
      · refine Or.inr (Or.inr ⟨_, _, ?_, ?_, ?_, rfl, rfl, ?_, ?_⟩) <;> omega
    clear hc h1 h2 h3 h4 WW
    rcases cs with ⟨p, g, s1, s2, s3, s4, s5, s6⟩ | ⟨p, g, s1, s2, s3, s4, s5, s6⟩ | ⟨p, g, s1, s2, s3, s4, s5, s6⟩
    all_goals
      have T := Lib.hid s6
      have S4 := Lib.hid s4
      have S5 := Lib.hid s5
      clear s4 s5 s6
      rw [T.out]
      rw [← S4.out, ← S5.out]
      clear T S4 S5
      unfold Fl.val
      go_enter Tryz.func94, Tryz.ntmps94
      go_wp2_with fail
      first
        | exact bodyPost_ret (v := .agg #[.int .i64 f.n, .int .i64 f.a, .int .i64 f.p, .int .i64 f.g]) (by simp [results, Tryz.results94, go_sem]) rfl ⟨rfl, ((Only.refl none_ w).alloc _).alloc _⟩
        | exact bodyPost_ret (v := .agg #[.int .i64 f.n, .int .i64 f.a, .int .i64 (f.p - 1), .int .i64 (f.g - 1)]) (by simp [results, Tryz.results94, go_sem]) rfl ⟨rfl, ((Only.refl none_ w).alloc _).alloc _⟩
        | exact bodyPost_ret (v := .agg #[.int .i64 f.n, .int .i64 f.a, .int .i64 (f.p - 1), .int .i64 f.g]) (by simp [results, Tryz.results94, go_sem]) rfl ⟨rfl, ((Only.refl none_ w).alloc _).alloc _⟩
  · have T := Lib.hid (show f.waste = f from by unfold Fl.waste; rw [if_neg hc])
    have t : decide (f.p < 1) = true ∨ (decide (f.p < 1) = false ∧ decide (f.g < 0) = true) ∨ (decide (f.p < 1) = false ∧ decide (f.g < 0) = false ∧ decide (f.p ≤ f.g) = true) := by
      simp only [decide_eq_true_eq, decide_eq_false_iff_not]; omega
    clear hc h1 h2 h3 h4
    rw [T.out]
    unfold Fl.val
    rcases t with t1 | ⟨t1, t2⟩ | ⟨t1, t2, t3⟩
    all_goals
      go_enter Tryz.func94, Tryz.ntmps94
      go_wp2_with fail
      exact bodyPost_ret (v := .agg #[.int .i64 f.n, .int .i64 f.a, .int .i64 f.p, .int .i64 f.g]) (by simp [results, Tryz.results94, go_sem]) rfl ⟨rfl, ((Only.refl none_ w).alloc _).alloc _⟩
end Go.Proofs.YtlfnncahhbbmpaaGreatDoor

namespace Go.Proofs.YtlfnncahhbbmpaaGreatDoor
open Go.RowKit
set_option linter.unusedVariables false
set_option maxRecDepth 100000

set_option maxHeartbeats 1000000 in
theorem rread_no (f : Fl) (c d b : Int) (w : World) (hr : f.readC c d b ≠ 0) :
    Calls Tryz.prog 86 #[f.val, .int .i64 c, .int .i64 d, .int .i64 b] w fun e w' => e = .returned (.tuple #[(Fl.mk 0 0 0 0).val, (Rn.mk 0 0).val, .int .i64 (f.readC c d b)]) ∧ Only none_ w w' := by
  have A := Lib.hid (fun w => rmay_any f d b w)
  unfold Fl.val at A ⊢
  unfold Rn.val
  have arg : f.readC c d b = 1 ∨ f.readC c d b = 6 := by
    unfold Fl.readC at hr ⊢
    by_cases k : f.May d b ∧ 1 ≤ c ∧ c ≤ 8
    · simp only [if_pos k] at hr ⊢
      by_cases q : f.n + c ≤ b
      · rw [if_pos q] at hr; exact absurd rfl hr
      · rw [if_neg q]; exact Or.inr rfl
    · rw [if_neg k]; exact Or.inl rfl
  rcases arg with k | k
  · rw [k]
    have t : decide (f.May d b) = false ∨ (decide (f.May d b) = true ∧ decide (c < 1) = true) ∨ (decide (f.May d b) = true ∧ decide (c < 1) = false ∧ decide (8 < c) = true) := by
      unfold Fl.readC at k
      by_cases q : f.May d b ∧ 1 ≤ c ∧ c ≤ 8
      · rw [if_pos q] at k
        split at k <;> cases k
      · simp only [decide_eq_true_eq, decide_eq_false_iff_not]
        by_cases hm : f.May d b
        · have : ¬ (1 ≤ c ∧ c ≤ 8) := fun h => q ⟨hm, h⟩
          by_cases h1 : c < 1
          · exact Or.inr (Or.inl ⟨hm, h1⟩)
          · exact Or.inr (Or.inr ⟨hm, h1, by omega⟩)
        · exact Or.inl hm
    clear hr k
    rcases t with t1 | ⟨t1, t2⟩ | ⟨t1, t2, t3⟩
    all_goals
      rw [t1] at A
      clear t1
      go_enter Tryz.func86, Tryz.ntmps86
      go_wp2_with fail
      (with_reducible refine (A.out _).mono ?_)
      rintro e w1 ⟨rfl, o, rfl⟩
      go_wp2_with fail
      exact bodyPost_ret (v := .tuple #[.agg #[.int .i64 0, .int .i64 0, .int .i64 0, .int .i64 0], .agg #[.int .i64 0, .int .i64 0], .int .i64 1]) (by simp [results, Tryz.results86, go_sem]) rfl ⟨rfl, ((((Only.refl none_ w).alloc _).alloc _).alloc _).alloc _⟩
  · rw [k]
    have q : (f.May d b ∧ 1 ≤ c ∧ c ≤ 8) ∧ ¬ (f.n + c ≤ b) := by
      unfold Fl.readC at k
      by_cases q : f.May d b ∧ 1 ≤ c ∧ c ≤ 8
      · refine ⟨q, fun h => ?_⟩
        rw [if_pos q, if_pos h] at k
        cases k
      · rw [if_neg q] at k; cases k
    obtain ⟨⟨hm, h1, h8⟩, hb⟩ := q
    have t1 : decide (f.May d b) = true := decide_eq_true hm
    have t2 : decide (c < 1) = false := by simp only [decide_eq_false_iff_not]; omega
    have t3 : decide (8 < c) = false := by simp only [decide_eq_false_iff_not]; omega
    have t4 : decide (b < f.n + c) = true := by simp only [decide_eq_true_eq]; omega
    have v1 : IntKind.i64.wrap (f.n + c) = f.n + c := by have := hm.n0; have := hm.na; have := hm.ab; have := hm.b1; rw [IntKind.wrap_i64]; omega
    clear hr k hm h1 h8 hb
    rw [t1] at A
    clear t1
    go_enter Tryz.func86, Tryz.ntmps86
    go_wp2_with fail
    (with_reducible refine (A.out _).mono ?_)
    rintro e w1 ⟨rfl, o, rfl⟩
    go_wp2_with fail
    exact bodyPost_ret (v := .tuple #[.agg #[.int .i64 0, .int .i64 0, .int .i64 0, .int .i64 0], .agg #[.int .i64 0, .int .i64 0], .int .i64 6]) (by simp [results, Tryz.results86, go_sem]) rfl ⟨rfl, ((((Only.refl none_ w).alloc _).alloc _).alloc _).alloc _⟩

set_option maxRecDepth 100000 in
set_option maxHeartbeats 1000000 in
theorem rread_yes (f : Fl) (c d b : Int) (w : World) (hm : f.May d b) (h1 : 1 ≤ c) (h8 : c ≤ 8) (hb : f.n + c ≤ b) :
    Calls Tryz.prog 86 #[f.val, .int .i64 c, .int .i64 d, .int .i64 b] w fun e w' => e = .returned (.tuple #[((f.moved c d).askF b).val, ((f.moved c d).askR b).val, .int .i64 0]) ∧ Only none_ w w' := by
  have A := Lib.hid (fun w => rmay_any f d b w)
  rw [decide_eq_true hm] at A
  have x0 := hm.n0; have x1 := hm.na; have x2 := hm.ab; have x3 := hm.b1; have x4 := hm.p0; have x5 := hm.pd; have x6 := hm.d1; have x7 := hm.g0; have x8 := hm.gp
  have t2 : decide (c < 1) = false := by simp only [decide_eq_false_iff_not]; omega
  have t3 : decide (8 < c) = false := by simp only [decide_eq_false_iff_not]; omega
  have t4 : decide (b < f.n + c) = false := by simp only [decide_eq_false_iff_not]; omega
  have v1 : IntKind.i64.wrap (f.n + c) = f.n + c := by rw [IntKind.wrap_i64]; omega
  have v2 : IntKind.i64.wrap (f.p + 1) = f.p + 1 := by rw [IntKind.wrap_i64]; omega
  have MM := Lib.hid (moved_may hm h1 h8 hb)
  obtain ⟨n, a, p, hn, MV⟩ : ∃ n a p, f.n + c = n ∧ f.moved c d = ⟨n, a, p, f.g⟩ := ⟨_, _, _, rfl, rfl⟩
  have HN := Lib.hid hn
  have cs : (decide (f.a ≤ f.n + c) = false ∧ f.a = a ∧ f.p = p)
      ∨ (decide (f.a ≤ f.n + c) = true ∧ decide (f.n < f.a) = true ∧ decide (f.p < d) = true ∧ f.n + c = a ∧ f.p + 1 = p)
      ∨ (decide (f.a ≤ f.n + c) = true ∧ decide (f.n < f.a) = true ∧ decide (f.p < d) = false ∧ f.n + c = a ∧ f.p = p)
      ∨ (decide (f.a ≤ f.n + c) = true ∧ decide (f.n < f.a) = false ∧ f.n + c = a ∧ f.p = p) := by
    unfold Fl.moved at MV
    subst hn
    simp only [decide_eq_true_eq, decide_eq_false_iff_not, Fl.mk.injEq, true_and, and_true] at MV ⊢
    by_cases k1 : f.a ≤ f.n + c
    · by_cases k2 : f.n < f.a
      · rw [if_pos ⟨k2, k1⟩] at MV; omega
      · rw [if_neg (fun h => k2 h.1)] at MV; omega
    · rw [if_neg (fun h => k1 h.2)] at MV; omega
  rw [MV] at MM ⊢
  have CS := Lib.hid cs
  have LT : decide (f.n < f.a) = true ∨ decide (f.n < f.a) = false := by cases decide (f.n < f.a) <;> simp
  clear hm h1 h8 hb x0 x1 x2 x3 x4 x5 x6 x7 x8 cs MV hn
  unfold Fl.val at A ⊢
  unfold Rn.val
  go_enter Tryz.func86, Tryz.ntmps86
  go_wp2_with fail
  (with_reducible refine (A.out _).mono ?_)
  rintro e w1 ⟨rfl, o, rfl⟩
  go_upto_if 51 with fail
  go_cut [11] from 14 (fun s11 wx => (∃ x : Bool, s11 = .bool x) ∧ Row wx w.heap.size 102 #[.int .i64 n, .int .i64 a, .int .i64 p, .int .i64 f.g] ∧ Row wx (w.heap.size + 1) 102 #[.int .i64 0, .int .i64 0, .int .i64 0, .int .i64 0] ∧ Row wx (w.heap.size + 1 + 1) 39 #[.int .i64 0, .int .i64 0] ∧ Only none_ w wx)
  case first =>
    obtain rfl := HN.out
    clear HN
    have OA := Lib.hid ((((Only.refl none_ w).alloc (.cells #[.int .i64 (f.n + c), .int .i64 a, .int .i64 p, .int .i64 f.g] 102)).alloc (.cells #[.int .i64 0, .int .i64 0, .int .i64 0, .int .i64 0] 102)).alloc (.cells #[.int .i64 0, .int .i64 0] 39) |>.alloc o)
    have R0 := Lib.hid ((((Row.fresh w 102 #[.int .i64 (f.n + c), .int .i64 a, .int .i64 p, .int .i64 f.g]).alloc (.cells #[.int .i64 0, .int .i64 0, .int .i64 0, .int .i64 0] 102)).alloc (.cells #[.int .i64 0, .int .i64 0] 39)).alloc o)
    have r1 := (((Row.fresh (w.alloc (.cells #[.int .i64 (f.n + c), .int .i64 a, .int .i64 p, .int .i64 f.g] 102)) 102 #[.int .i64 0, .int .i64 0, .int .i64 0, .int .i64 0]).alloc (.cells #[.int .i64 0, .int .i64 0] 39)).alloc o)
    have r2 := ((Row.fresh ((w.alloc (.cells #[.int .i64 (f.n + c), .int .i64 a, .int .i64 p, .int .i64 f.g] 102)).alloc (.cells #[.int .i64 0, .int .i64 0, .int .i64 0, .int .i64 0] 102)) 39 #[.int .i64 0, .int .i64 0]).alloc o)
    rw [World.size_alloc] at r1
    rw [World.size_alloc, World.size_alloc] at r2
    have R1 := Lib.hid r1
    have R2 := Lib.hid r2
    clear r1 r2
    rcases CS.out with ⟨s1, rfl, rfl⟩ | ⟨s1, s2, s3, rfl, rfl⟩ | ⟨s1, s2, s3, rfl, rfl⟩ | ⟨s1, s2, rfl, rfl⟩
    · rcases LT with s2 | s2
      all_goals
        simp only [s1]
        go_wp2_with fail
        go_meet
        case rel => exact ⟨⟨_, rfl⟩, R0.out, R1.out, R2.out, OA.out⟩
    all_goals
      simp only [s1]
      go_wp2_with fail
      go_meet
      case rel => exact ⟨⟨_, rfl⟩, R0.out, R1.out, R2.out, OA.out⟩
  case rest =>
    obtain ⟨⟨x, rfl⟩, r0, r1, r2, oa⟩ := hcut
    have R0 := Lib.hid r0
    have R1 := Lib.hid r1
    have R2 := Lib.hid r2
    have OA := Lib.hid oa
    have z0 := r0.frozen
    have z1 := r1.frozen
    have z2 := r2.frozen
    obtain ⟨c0, c1, c2, c3⟩ := r0.four
    obtain ⟨d0, d1, d2, d3⟩ := r1.four
    obtain ⟨e0, e1⟩ := r2.two
    have n01 : w.heap.size ≠ w.heap.size + 1 := by omega
    have n10 : w.heap.size + 1 ≠ w.heap.size := by omega
    have n02 : w.heap.size ≠ w.heap.size + 1 + 1 := by omega
    have n20 : w.heap.size + 1 + 1 ≠ w.heap.size := by omega
    have n12 : w.heap.size + 1 ≠ w.heap.size + 1 + 1 := by omega
    have n21 : w.heap.size + 1 + 1 ≠ w.heap.size + 1 := by omega
    have L0 := Lib.hid (Nat.le_refl w.heap.size)
    have L1 := Lib.hid (show w.heap.size ≤ w.heap.size + 1 by omega)
    have L2 := Lib.hid (show w.heap.size ≤ w.heap.size + 1 + 1 by omega)
    clear r0 r1 r2 oa CS LT A t2 t3 t4 v1 v2
    clear HN
    have x1 := MM.out.na; have x2 := MM.out.ab; have x3 := MM.out.b1; have x4 := MM.out.p0; have x5 := MM.out.pd; have x6 := MM.out.d1; have x7 := MM.out.n0
    dsimp only at x1 x2 x4 x5 x7
    have v1 : IntKind.i64.wrap (a - n) = a - n := by rw [IntKind.wrap_i64]; omega
    by_cases hg : f.g < a - n
    · have t1 : decide (f.g < a - n) = true := by simpa using hg
      have A := Lib.hid (show (Fl.mk n a p f.g).askF b = ⟨n, a, p, f.g⟩ from by unfold Fl.askF Fl.room; rw [if_neg]; dsimp only; omega)
      have B := Lib.hid (show (Fl.mk n a p f.g).askR b = ⟨0, 0⟩ from by unfold Fl.askR Fl.room; rw [if_neg]; dsimp only; omega)
      clear hg x1 x2 x3 x4 x5 x6 x7
      go_wp2_with fail
      have W1 := Lib.hid (show Row ((((((wc.setCell ⟨w.heap.size + 1, 0, none⟩ (.int .i64 (n))).setCell ⟨w.heap.size + 1, 1, none⟩ (.int .i64 (a))).setCell ⟨w.heap.size + 1, 2, none⟩ (.int .i64 (p))).setCell ⟨w.heap.size + 1, 3, none⟩ (.int .i64 (f.g))).setCell ⟨w.heap.size + 1 + 1, 0, none⟩ (.int .i64 (0))).setCell ⟨w.heap.size + 1 + 1, 1, none⟩ (.int .i64 (0))) (w.heap.size + 1) 102 #[.int .i64 n, .int .i64 (a), .int .i64 (p), .int .i64 f.g] from ((((((R1.out.put 0 (.int .i64 (n))).put 1 (.int .i64 (a))).put 2 (.int .i64 (p))).put 3 (.int .i64 (f.g))).far (p := ⟨w.heap.size + 1 + 1, 0, none⟩) n12 (.int .i64 (0))).far (p := ⟨w.heap.size + 1 + 1, 1, none⟩) n12 (.int .i64 (0))))
      have W2 := Lib.hid (show Row ((((((wc.setCell ⟨w.heap.size + 1, 0, none⟩ (.int .i64 (n))).setCell ⟨w.heap.size + 1, 1, none⟩ (.int .i64 (a))).setCell ⟨w.heap.size + 1, 2, none⟩ (.int .i64 (p))).setCell ⟨w.heap.size + 1, 3, none⟩ (.int .i64 (f.g))).setCell ⟨w.heap.size + 1 + 1, 0, none⟩ (.int .i64 (0))).setCell ⟨w.heap.size + 1 + 1, 1, none⟩ (.int .i64 (0))) (w.heap.size + 1 + 1) 39 #[.int .i64 (0), .int .i64 (0)] from ((((((R2.out.far (p := ⟨w.heap.size + 1, 0, none⟩) n21 (.int .i64 (n))).far (p := ⟨w.heap.size + 1, 1, none⟩) n21 (.int .i64 (a))).far (p := ⟨w.heap.size + 1, 2, none⟩) n21 (.int .i64 (p))).far (p := ⟨w.heap.size + 1, 3, none⟩) n21 (.int .i64 (f.g))).put 0 (.int .i64 (0))).put 1 (.int .i64 (0))))
      have WA := Lib.hid ((((((OA.out.new L1.out 0 (.int .i64 (n))).new L1.out 1 (.int .i64 (a))).new L1.out 2 (.int .i64 (p))).new L1.out 3 (.int .i64 (f.g))).new L2.out 0 (.int .i64 (0))).new L2.out 1 (.int .i64 (0)))
      clear c0 c1 c2 c3 d0 d1 d2 d3 e0 e1 z0 z1 z2 R1 R2 R0 OA
      generalize ((((((wc.setCell ⟨w.heap.size + 1, 0, none⟩ (.int .i64 (n))).setCell ⟨w.heap.size + 1, 1, none⟩ (.int .i64 (a))).setCell ⟨w.heap.size + 1, 2, none⟩ (.int .i64 (p))).setCell ⟨w.heap.size + 1, 3, none⟩ (.int .i64 (f.g))).setCell ⟨w.heap.size + 1 + 1, 0, none⟩ (.int .i64 (0))).setCell ⟨w.heap.size + 1 + 1, 1, none⟩ (.int .i64 (0))) = wz at *
      obtain ⟨y0, y1, y2, y3⟩ := W1.out.four
      obtain ⟨y4, y5⟩ := W2.out.two
      rw [A.out, B.out]
      exact bodyPost_ret (v := .tuple #[.agg #[.int .i64 n, .int .i64 (a), .int .i64 (p), .int .i64 f.g], .agg #[.int .i64 (0), .int .i64 (0)], .int .i64 0]) (by simp [results, Tryz.results86, go_sem, y0, y1, y2, y3, y4, y5]) rfl ⟨rfl, WA.out⟩
    · have t1 : decide (f.g < a - n) = false := by simpa using hg
      obtain ⟨P, rfl⟩ : ∃ P : Nat, p = P := ⟨p.toNat, by omega⟩
      obtain ⟨K, hK⟩ : ∃ K : Nat, min (P : Int) (b - a) = K := ⟨(min (P : Int) (b - a)).toNat, by omega⟩
      have A := Lib.hid (show (Fl.mk n a P f.g).askF b = ⟨n, a + K, P, f.g⟩ from by
        unfold Fl.askF Fl.room
        dsimp only
        by_cases k : a - n ≤ f.g ∧ min (P : Int) (b - a) ≠ 0
        · rw [if_pos k, hK]
        · rw [if_neg k, Fl.mk.injEq]; omega)
      have B := Lib.hid (show (Fl.mk n a P f.g).askR b = if (K : Int) = 0 then ⟨0, 0⟩ else ⟨a, K⟩ from by
        unfold Fl.askR Fl.room
        dsimp only
        by_cases k : a - n ≤ f.g ∧ min (P : Int) (b - a) ≠ 0
        · rw [if_pos k, hK, if_neg (by omega)]
        · rw [if_neg k, if_pos (by omega)])
      have KP : K ≤ P := by omega
      have KB : a + K ≤ b := by omega
      have KD : K = P ∨ a + K = b := by omega
      have a0 : 0 ≤ a := by omega
      have P16 : P ≤ 16 := by omega
      clear hg x1 x2 x4 x5 x6 x7 hK
      go_wp2_with fail
      go_loopw [13] (fun i wr => ∃ k : Nat, k ≤ K ∧ i = .int .i64 k ∧ wr = wc) (fun i _ => K - (intOf i).toNat)
      case atStart => exact ⟨0, Nat.zero_le _, rfl, rfl⟩
      case round =>
        obtain ⟨k, hk, rfl, rfl⟩ := hrel
        by_cases q : k < K
        · have t5 : k < P := by omega
          have t6 : decide (a + (k : Int) < b) = true := by simp only [decide_eq_true_eq]; omega
          have v3 : IntKind.i64.wrap (a + (k : Int)) = a + (k : Int) := by rw [IntKind.wrap_i64]; omega
          go_wp2_with fail
          go_roundw
          case rel => exact ⟨k + 1, by omega, by go_num, trivial⟩
          case measure => simp [intOf]; omega
        · have hkk : k = K := by omega
          have t5 : (k < P ∧ decide (a + (k : Int) < b) = false) ∨ P ≤ k := by simp only [decide_eq_false_iff_not]; omega
          have v3 : IntKind.i64.wrap (a + (k : Int)) = a + (k : Int) := by rw [IntKind.wrap_i64]; omega
          clear z0 z1 z2 x3 a0 P16 KP KB KD hk q
          obtain rfl := hkk
          by_cases K0 : k = 0
          · have hne : ((k : Int) == 0) = true := by simp [K0]
            replace B := Lib.hid (show (Fl.mk n a P f.g).askR b = ⟨0, (k : Int)⟩ from by rw [B.out, K0]; rfl)
            clear K0
            have z0 := R0.out.frozen
            have z1 := R1.out.frozen
            have z2 := R2.out.frozen
            rcases t5 with ⟨t5, t6⟩ | t5
            all_goals
              go_wp2_with fail
              have W1 := Lib.hid (show Row (((((((wr.setCell ⟨w.heap.size, 1, none⟩ (.int .i64 (a + (k : Int)))).setCell ⟨w.heap.size + 1, 0, none⟩ (.int .i64 (n))).setCell ⟨w.heap.size + 1, 1, none⟩ (.int .i64 (a + (k : Int)))).setCell ⟨w.heap.size + 1, 2, none⟩ (.int .i64 ((P : Int)))).setCell ⟨w.heap.size + 1, 3, none⟩ (.int .i64 (f.g))).setCell ⟨w.heap.size + 1 + 1, 0, none⟩ (.int .i64 (0))).setCell ⟨w.heap.size + 1 + 1, 1, none⟩ (.int .i64 ((k : Int)))) (w.heap.size + 1) 102 #[.int .i64 n, .int .i64 (a + (k : Int)), .int .i64 ((P : Int)), .int .i64 f.g] from (((((((R1.out.far (p := ⟨w.heap.size, 1, none⟩) n10 (.int .i64 (a + (k : Int)))).put 0 (.int .i64 (n))).put 1 (.int .i64 (a + (k : Int)))).put 2 (.int .i64 ((P : Int)))).put 3 (.int .i64 (f.g))).far (p := ⟨w.heap.size + 1 + 1, 0, none⟩) n12 (.int .i64 (0))).far (p := ⟨w.heap.size + 1 + 1, 1, none⟩) n12 (.int .i64 ((k : Int)))))
              have W2 := Lib.hid (show Row (((((((wr.setCell ⟨w.heap.size, 1, none⟩ (.int .i64 (a + (k : Int)))).setCell ⟨w.heap.size + 1, 0, none⟩ (.int .i64 (n))).setCell ⟨w.heap.size + 1, 1, none⟩ (.int .i64 (a + (k : Int)))).setCell ⟨w.heap.size + 1, 2, none⟩ (.int .i64 ((P : Int)))).setCell ⟨w.heap.size + 1, 3, none⟩ (.int .i64 (f.g))).setCell ⟨w.heap.size + 1 + 1, 0, none⟩ (.int .i64 (0))).setCell ⟨w.heap.size + 1 + 1, 1, none⟩ (.int .i64 ((k : Int)))) (w.heap.size + 1 + 1) 39 #[.int .i64 (0), .int .i64 ((k : Int))] from (((((((R2.out.far (p := ⟨w.heap.size, 1, none⟩) n20 (.int .i64 (a + (k : Int)))).far (p := ⟨w.heap.size + 1, 0, none⟩) n21 (.int .i64 (n))).far (p := ⟨w.heap.size + 1, 1, none⟩) n21 (.int .i64 (a + (k : Int)))).far (p := ⟨w.heap.size + 1, 2, none⟩) n21 (.int .i64 ((P : Int)))).far (p := ⟨w.heap.size + 1, 3, none⟩) n21 (.int .i64 (f.g))).put 0 (.int .i64 (0))).put 1 (.int .i64 ((k : Int)))))
              have WA := Lib.hid (((((((OA.out.new L0.out 1 (.int .i64 (a + (k : Int)))).new L1.out 0 (.int .i64 (n))).new L1.out 1 (.int .i64 (a + (k : Int)))).new L1.out 2 (.int .i64 ((P : Int)))).new L1.out 3 (.int .i64 (f.g))).new L2.out 0 (.int .i64 (0))).new L2.out 1 (.int .i64 ((k : Int))))
              clear c0 c1 c2 c3 d0 d1 d2 d3 e0 e1 z0 z1 z2 R1 R2 R0 OA
              generalize (((((((wr.setCell ⟨w.heap.size, 1, none⟩ (.int .i64 (a + (k : Int)))).setCell ⟨w.heap.size + 1, 0, none⟩ (.int .i64 (n))).setCell ⟨w.heap.size + 1, 1, none⟩ (.int .i64 (a + (k : Int)))).setCell ⟨w.heap.size + 1, 2, none⟩ (.int .i64 ((P : Int)))).setCell ⟨w.heap.size + 1, 3, none⟩ (.int .i64 (f.g))).setCell ⟨w.heap.size + 1 + 1, 0, none⟩ (.int .i64 (0))).setCell ⟨w.heap.size + 1 + 1, 1, none⟩ (.int .i64 ((k : Int)))) = wz at *
              obtain ⟨y0, y1, y2, y3⟩ := W1.out.four
              obtain ⟨y4, y5⟩ := W2.out.two
              rw [A.out, B.out]
              exact bodyPost_ret (v := .tuple #[.agg #[.int .i64 n, .int .i64 (a + (k : Int)), .int .i64 ((P : Int)), .int .i64 f.g], .agg #[.int .i64 (0), .int .i64 ((k : Int))], .int .i64 0]) (by simp [results, Tryz.results86, go_sem, y0, y1, y2, y3, y4, y5]) rfl ⟨rfl, WA.out⟩
          · have hne : ((k : Int) == 0) = false := by simpa using K0
            replace B := Lib.hid (show (Fl.mk n a P f.g).askR b = ⟨a, (k : Int)⟩ from by rw [B.out, if_neg (by omega)])
            clear K0
            have z0 := R0.out.frozen
            have z1 := R1.out.frozen
            have z2 := R2.out.frozen
            rcases t5 with ⟨t5, t6⟩ | t5
            all_goals
              go_wp2_with fail
              have W1 := Lib.hid (show Row (((((((wr.setCell ⟨w.heap.size, 1, none⟩ (.int .i64 (a + (k : Int)))).setCell ⟨w.heap.size + 1, 0, none⟩ (.int .i64 (n))).setCell ⟨w.heap.size + 1, 1, none⟩ (.int .i64 (a + (k : Int)))).setCell ⟨w.heap.size + 1, 2, none⟩ (.int .i64 ((P : Int)))).setCell ⟨w.heap.size + 1, 3, none⟩ (.int .i64 (f.g))).setCell ⟨w.heap.size + 1 + 1, 0, none⟩ (.int .i64 (a))).setCell ⟨w.heap.size + 1 + 1, 1, none⟩ (.int .i64 ((k : Int)))) (w.heap.size + 1) 102 #[.int .i64 n, .int .i64 (a + (k : Int)), .int .i64 ((P : Int)), .int .i64 f.g] from (((((((R1.out.far (p := ⟨w.heap.size, 1, none⟩) n10 (.int .i64 (a + (k : Int)))).put 0 (.int .i64 (n))).put 1 (.int .i64 (a + (k : Int)))).put 2 (.int .i64 ((P : Int)))).put 3 (.int .i64 (f.g))).far (p := ⟨w.heap.size + 1 + 1, 0, none⟩) n12 (.int .i64 (a))).far (p := ⟨w.heap.size + 1 + 1, 1, none⟩) n12 (.int .i64 ((k : Int)))))
              have W2 := Lib.hid (show Row (((((((wr.setCell ⟨w.heap.size, 1, none⟩ (.int .i64 (a + (k : Int)))).setCell ⟨w.heap.size + 1, 0, none⟩ (.int .i64 (n))).setCell ⟨w.heap.size + 1, 1, none⟩ (.int .i64 (a + (k : Int)))).setCell ⟨w.heap.size + 1, 2, none⟩ (.int .i64 ((P : Int)))).setCell ⟨w.heap.size + 1, 3, none⟩ (.int .i64 (f.g))).setCell ⟨w.heap.size + 1 + 1, 0, none⟩ (.int .i64 (a))).setCell ⟨w.heap.size + 1 + 1, 1, none⟩ (.int .i64 ((k : Int)))) (w.heap.size + 1 + 1) 39 #[.int .i64 (a), .int .i64 ((k : Int))] from (((((((R2.out.far (p := ⟨w.heap.size, 1, none⟩) n20 (.int .i64 (a + (k : Int)))).far (p := ⟨w.heap.size + 1, 0, none⟩) n21 (.int .i64 (n))).far (p := ⟨w.heap.size + 1, 1, none⟩) n21 (.int .i64 (a + (k : Int)))).far (p := ⟨w.heap.size + 1, 2, none⟩) n21 (.int .i64 ((P : Int)))).far (p := ⟨w.heap.size + 1, 3, none⟩) n21 (.int .i64 (f.g))).put 0 (.int .i64 (a))).put 1 (.int .i64 ((k : Int)))))
              have WA := Lib.hid (((((((OA.out.new L0.out 1 (.int .i64 (a + (k : Int)))).new L1.out 0 (.int .i64 (n))).new L1.out 1 (.int .i64 (a + (k : Int)))).new L1.out 2 (.int .i64 ((P : Int)))).new L1.out 3 (.int .i64 (f.g))).new L2.out 0 (.int .i64 (a))).new L2.out 1 (.int .i64 ((k : Int))))
              clear c0 c1 c2 c3 d0 d1 d2 d3 e0 e1 z0 z1 z2 R1 R2 R0 OA
              generalize (((((((wr.setCell ⟨w.heap.size, 1, none⟩ (.int .i64 (a + (k : Int)))).setCell ⟨w.heap.size + 1, 0, none⟩ (.int .i64 (n))).setCell ⟨w.heap.size + 1, 1, none⟩ (.int .i64 (a + (k : Int)))).setCell ⟨w.heap.size + 1, 2, none⟩ (.int .i64 ((P : Int)))).setCell ⟨w.heap.size + 1, 3, none⟩ (.int .i64 (f.g))).setCell ⟨w.heap.size + 1 + 1, 0, none⟩ (.int .i64 (a))).setCell ⟨w.heap.size + 1 + 1, 1, none⟩ (.int .i64 ((k : Int)))) = wz at *
              obtain ⟨y0, y1, y2, y3⟩ := W1.out.four
              obtain ⟨y4, y5⟩ := W2.out.two
              rw [A.out, B.out]
              exact bodyPost_ret (v := .tuple #[.agg #[.int .i64 n, .int .i64 (a + (k : Int)), .int .i64 ((P : Int)), .int .i64 f.g], .agg #[.int .i64 (a), .int .i64 ((k : Int))], .int .i64 0]) (by simp [results, Tryz.results86, go_sem, y0, y1, y2, y3, y4, y5]) rfl ⟨rfl, WA.out⟩
end Go.Proofs.YtlfnncahhbbmpaaGreatDoor

namespace Go.Proofs.YtlfnncahhbbmpaaGreatDoor
open Go.RowKit Go.ChangeShapes Go.WideShapes Go.Deep
set_option linter.unusedVariables false
set_option maxRecDepth 100000

theorem rread_any (f : Fl) (c d b : Int) (w : World) :
    Calls Tryz.prog 86 #[f.val, .int .i64 c, .int .i64 d, .int .i64 b] w fun e w' => e = .returned (.tuple #[(f.readF c d b).val, (f.readR c d b).val, .int .i64 (f.readC c d b)]) ∧ Only none_ w w' := by
  by_cases h : f.readC c d b = 0
  · have q : (f.May d b ∧ 1 ≤ c ∧ c ≤ 8) ∧ f.n + c ≤ b := by
      unfold Fl.readC at h
      by_cases q : f.May d b ∧ 1 ≤ c ∧ c ≤ 8
      · rw [if_pos q] at h
        by_cases k : f.n + c ≤ b
        · exact ⟨q, k⟩
        · rw [if_neg k] at h; cases h
      · rw [if_neg q] at h; cases h
    rw [show f.readF c d b = (f.moved c d).askF b from by unfold Fl.readF; rw [if_pos h], show f.readR c d b = (f.moved c d).askR b from by unfold Fl.readR; rw [if_pos h], h]
    exact rread_yes f c d b w q.1.1 q.1.2.1 q.1.2.2 q.2
  · rw [show f.readF c d b = ⟨0, 0, 0, 0⟩ from by unfold Fl.readF; rw [if_neg h], show f.readR c d b = ⟨0, 0⟩ from by unfold Fl.readR; rw [if_neg h]]
    exact rread_no f c d b w h

theorem Only.to_below9 {a b : World} (h : Only none_ a b) : Below a.heap.size a b := h.below (Nat.le_refl _) (fun _ _ s => s)
theorem below_on9 {w w1 w2 : World} (h : Below w.heap.size w w1) (o : Only none_ w1 w2) : Below w.heap.size w w2 := Only.below_to h o (Nat.le_refl _) (fun _ _ s => s)
theorem bd_u8 {a : Int} (h : (Lit.int .u8 a).wf = true) : 0 ≤ a ∧ a ≤ 255 := by
  simp only [Lit.wf, Bool.and_eq_true, decide_eq_true_eq] at h
  exact h
theorem bd_i64 {a : Int} (h : (Lit.int .i64 a).wf = true) : -9223372036854775808 ≤ a ∧ a ≤ 9223372036854775807 := by
  simp only [Lit.wf, Bool.and_eq_true, decide_eq_true_eq] at h
  exact h

theorem eq_rn (r s : Rn) (w : World) : (Op.equalIn 10000 39 (.agg #[.int .i64 r.f, .int .i64 r.c]) (.agg #[.int .i64 s.f, .int .i64 s.c])).run Tryz.prog w = .ok (decide (r = s)) w := by
  have h : decide (r = s) = (r.f == s.f && r.c == s.c) := by
    obtain ⟨a, b⟩ := r
    obtain ⟨a', b'⟩ := s
    rw [Bool.eq_iff_iff]
    simp
  rw [h]
  simp [go_sem]
  by_cases h1 : r.f = s.f <;> by_cases h2 : r.c = s.c <;> simp [h1, h2]

theorem cellsFlow : Tryz.prog.cellsOf 102 = 4 := by kernel_rfl
set_option maxRecDepth 100000 in
theorem open_flow (W : World) (base : Nat) (H : Type) (enc : TypeId × Value → H) (v : Value) (d : DataW H) (p : List MemPlace) (o : Value.okWide Tryz.prog W .any base 102 v) (h : DataW.Trod enc Tryz.prog W 0 (fun _ => true) true 102 v d p) :
    ∃ f : Fl, v = f.val ∧ f.Wf := by
  simp only [Value.okWide, Tryz.underlying102] at o
  obtain ⟨cs, rfl, hsz, _⟩ := o
  rw [cellsFlow] at hsz
  obtain ⟨fuel, hf⟩ := h
  simp only [Value.cells] at hf
  obtain ⟨hl, m, hx⟩ := open_fields Tryz.underlying102 (by kernel_rfl) cellsFlow hf
  obtain ⟨v0, y0, e0, t0⟩ := hx 0 _ rfl
  obtain ⟨v1, y1, e1, t1⟩ := hx 1 _ rfl
  obtain ⟨v2, y2, e2, t2⟩ := hx 2 _ rfl
  obtain ⟨v3, y3, e3, t3⟩ := hx 3 _ rfl
  obtain ⟨a0, q0, _, w0⟩ := DataW.trod_int Tryz.underlying3 t0
  obtain ⟨a1, q1, _, w1⟩ := DataW.trod_int Tryz.underlying3 t1
  obtain ⟨a2, q2, _, w2⟩ := DataW.trod_int Tryz.underlying3 t2
  obtain ⟨a3, q3, _, w3⟩ := DataW.trod_int Tryz.underlying3 t3
  simp only [List.cons.injEq, and_true] at q0 q1 q2 q3
  subst q0 q1 q2 q3
  have hcs : cs = #[.int .i64 a0, .int .i64 a1, .int .i64 a2, .int .i64 a3] := by
    apply Array.toList_inj.1
    apply List.ext_getElem?
    intro j
    match j with
    | 0 => exact e0
    | 1 => exact e1
    | 2 => exact e2
    | 3 => exact e3
    | j + 4 => rw [List.getElem?_eq_none (by rw [hl]; show 4 ≤ j + 4; omega), List.getElem?_eq_none (by show 4 ≤ j + 4; omega)]
  subst hcs
  have b0 := bd_i64 w0
  have b1 := bd_i64 w1
  have b2 := bd_i64 w2
  have b3 := bd_i64 w3
  exact ⟨⟨a0, a1, a2, a3⟩, rfl, b0.1, b0.2, b1.1, b1.2, b2.1, b2.2, b3.1, b3.2⟩

theorem cellsI : Tryz.prog.cellsOf 3 = 1 := by kernel_rfl
theorem cellsB8 : Tryz.prog.cellsOf 5 = 1 := by kernel_rfl
structure Beat1 where
  kind : Int
  count : Int
def Beat1.cells (a : Beat1) : List Value := [.int .i64 a.kind, .int .i64 a.count]
instance : Inhabited Beat1 := ⟨⟨0, 0⟩⟩
theorem beat_at {w w' : World} {A : Option Addr} {xs : List Beat1} (h : Holds w A 2 Beat1.cells xs) (hb : Below w.heap.size w w') {i : Nat} {a : Beat1} (hi : xs[i]? = some a) :
    ∃ b o, A = some ⟨b, o, none⟩ ∧ b < w.heap.size ∧ w'.cell? ⟨b, o + i * 2, none⟩ = some (.int .i64 a.kind) ∧ w'.cell? ⟨b, o + i * 2 + 1, none⟩ = some (.int .i64 a.count) := by
  obtain ⟨b, o, e, hlt, hc⟩ := h.at_ hb hi
  exact ⟨b, o, e, hlt, by rw [show o + i * 2 = o + (i * 2 + 0) from rfl]; exact hc 0 _ rfl, by rw [Nat.add_assoc]; exact hc 1 _ rfl⟩

end Go.Proofs.YtlfnncahhbbmpaaGreatDoor

namespace Go.Proofs.YtlfnncahhbbmpaaGreatDoor
open Go.RowKit Go.Maps
set_option linter.unusedVariables false
set_option maxRecDepth 100000

/-- a slice of streams of the call's own, at a block that is among some -/
def OwnsSm (w : World) (M : Nat → Prop) (v : Value) (ss : List Sm) : Prop := Owns w 0 118 6 Sm.cells v ss ∧ ∀ g, v.ownBlock = some g → M g
theorem OwnsSm.keep {w w' : World} {M : Nat → Prop} {v : Value} {ss : List Sm} (h : OwnsSm w M v ss) {S : Nat → Prop} (o : Only S w w') (hn : ∀ g, M g → ¬ S g) : OwnsSm w' M v ss := ⟨h.1.keep o (fun g hg => hn g (h.2 g hg)), h.2⟩
theorem OwnsSm.still {w w' : World} {M : Nat → Prop} {v : Value} {ss : List Sm} (h : OwnsSm w M v ss) (o : Only none_ w w') : OwnsSm w' M v ss := h.keep o (fun _ _ s => s)
theorem Owns.row10 {α : Type} {w : World} {base : Nat} {e : TypeId} {k : Nat} {c : α → List Value} {n g cap : Nat} {xs : List α} (h : Owns w base e k c (.slice (some ⟨g, 0, none⟩) n cap) xs) :
    ∃ cur : Array Value, Row w g e cur ∧ base ≤ g ∧ n = xs.length ∧ n ≤ cap ∧ cap ≤ maxLen ∧ cur.size = cap * k ∧ cur.toList.take (n * k) = xs.flatMap c := by
  obtain ⟨h1, h2⟩ := h
  rcases h2 with ⟨h', _⟩ | ⟨g', cap', cur, h', hb, hg, h3, h4, h5, h6⟩
  · simp at h'
  · simp only [Value.slice.injEq, Option.some.injEq, Addr.mk.injEq, and_true] at h'
    obtain ⟨rfl, rfl, rfl⟩ := h'
    exact ⟨cur, hg, hb, rfl, h3, h4, h5, h6⟩
/-- an element's cell is written -/
theorem Owns.put10 {α : Type} {w : World} {base : Nat} {e : TypeId} {k : Nat} {c : α → List Value} (hk : ∀ a, (c a).length = k) {n g cap : Nat} {xs : List α} (h : Owns w base e k c (.slice (some ⟨g, 0, none⟩) n cap) xs) {i j : Nat} {a a' : α} {u : Value} (hi : xs[i]? = some a) (hj : j < k) (hc : c a' = (c a).set j u) :
    Owns (w.setCell ⟨g, i * k + j, none⟩ u) base e k c (.slice (some ⟨g, 0, none⟩) n cap) (xs.set i a') := by
  obtain ⟨cur, r, hb, hn, h3, h4, h5, h6⟩ := h.row10
  have hl := lt_of_get hi
  have hbd : i * k + j < n * k := by
    have : (i + 1) * k ≤ n * k := Nat.mul_le_mul_right k (by omega)
    rw [Nat.succ_mul] at this
    omega
  have e1 : (cur.setIfInBounds (i * k + j) u).toList.take (n * k) = (xs.set i a').flatMap c := by
    rw [Array.toList_setIfInBounds, List.take_set, h6, flat_set hk xs i a a' j u hi hj hc]
  refine ⟨?_, .inr ⟨g, cap, _, by rw [List.length_set, hn], hb, r.put (i * k + j) u, by rw [List.length_set]; omega, h4, by rw [Array.size_setIfInBounds]; exact h5, ?_⟩⟩
  · have := h.1
    rw [List.length_set, ← flat_set hk xs i a a' j u hi hj hc, List.length_set]
    exact this
  · rw [List.length_set, ← hn]; exact e1
theorem OwnsSm.form {w : World} {M : Nat → Prop} {v : Value} {ss : List Sm} (h : OwnsSm w M v ss) : ∃ A cap, v = .slice A ss.length cap ∧ Holds w A 6 Sm.cells ss ∧ (ss ≠ [] → ∃ g, A = some ⟨g, 0, none⟩ ∧ g < w.heap.size ∧ ss.length ≤ cap ∧ cap ≤ maxLen ∧ M g) := by
  rcases h.1.2 with ⟨hv, h2⟩ | ⟨g, cap, cur, hv, hg, hh, h3, h4, _⟩
  · have : ss = [] := List.eq_nil_of_length_eq_zero h2
    subst this
    exact ⟨none, 0, hv, fun i a hi => by simp at hi, fun q => absurd rfl q⟩
  · have lt := (Array.getElem?_eq_some_iff.1 hh).1
    have h1 := h.1
    rw [hv] at h1
    refine ⟨_, _, hv, fun i a hi => ⟨g, 0, rfl, lt, fun j v hj => ?_⟩, fun _ => ⟨g, rfl, lt, h3, h4, h.2 g (by rw [hv]; rfl)⟩⟩
    rw [Nat.zero_add]
    have hj2 : j < 6 := by have := lt_of_get hj; rw [sm6] at this; exact this
    rw [Owns.cell h1 sm6 hi hj2]
    exact hj
/-- its block is none of a table's -/
theorem OwnsSm.not_row {w : World} {M : Nat → Prop} {v : Value} {ss : List Sm} (h : OwnsSm w M v ss) {g : Nat} (hg : v.ownBlock = some g) {t : TypeId} {cs : Array Value} (r : Row w g t cs) : t = 118 := by
  rcases h.1.2 with ⟨hv, _⟩ | ⟨g', cap, cur, hv, _, hh, _⟩
  · rw [hv] at hg; cases hg
  · rw [hv] at hg
    have hg : some g' = some g := hg
    injection hg with hg
    subst hg
    exact (Row.one (show Row w g' 118 cur from hh) r).1.symm
theorem RT.not_row {w : World} {q size life : Nat} {ok : Nat → Prop} {es : List En} (h : RT w q ok size life es) {g : Nat} {cs : Array Value} (r : Row w g 118 cs) (hq : q ≠ g) : RT w q (fun x => ok x ∧ x ≠ g) size life es := by
  obtain ⟨⟨v, r1, o⟩, l1, l2⟩ := h
  refine ⟨⟨v, r1, o.1, fun x hx => ⟨o.2 x hx, ?_⟩⟩, fun e => l1 e.1, fun x hx => ⟨l2 x hx, by have := r.lt; omega⟩⟩
  rintro rfl
  rcases o.1.2 with ⟨hv, _⟩ | ⟨g', cap, cur, hv, _, hh, _⟩
  · rw [hv] at hx; cases hx
  · rw [hv] at hx
    have hx : some g' = some x := hx
    injection hx with hx
    subst hx
    have := (Row.one (show Row w g' 173 cur from hh) r).1
    revert this
    decide
/-- on to a later world, under another bound -/
theorem RT.to {w w' : World} {q size life : Nat} {ok ok' : Nat → Prop} {es : List En} (h : RT w q ok size life es) {S : Nat → Prop} (k : Only S w w') (hq : ¬ S q) (hb : ∀ g, ok g → ¬ S g) (hm : ∀ g, g < w.heap.size → ok g → ok' g) (hq' : ¬ ok' q) (hn : ∀ g, w'.heap.size ≤ g → ok' g) : RT w' q ok' size life es := by
  obtain ⟨⟨v, r, o⟩, l1, l2⟩ := h
  have o' := o.keep k hb
  exact ⟨⟨v, k.row r hq, o'.1, fun g hg => hm g (o.lt hg) (o.2 g hg)⟩, hq', hn⟩

/-- the document's own tracker at block q; all its blocks are among M -/
structure RSat (w : World) (q qt : Nat) (v : Value) (M : Nat → Prop) (c : Cf) (t : Tr) : Prop where
  row : Row w q 85 #[v, .pointer (some ⟨qt, 0, none⟩), .int .i64 t.uses, .int .i64 t.begun, .int .i64 c.most, .int .i64 c.deg, .int .i64 c.blk]
  own : OwnsSm w M v t.ss
  tab : RT w qt (fun g => (M g ∧ g ≠ q ∧ g ≠ qt) ∨ w.heap.size ≤ g) c.size c.life t.es
  mt : M qt
  mq : M q
  ne : q ≠ qt
  lt : ∀ g, M g → g < w.heap.size
def RS (w : World) (q : Nat) (M : Nat → Prop) (c : Cf) (t : Tr) : Prop := ∃ qt v, RSat w q qt v M c t
theorem RSat.keep {w w' : World} {q qt : Nat} {v : Value} {M : Nat → Prop} {c : Cf} {t : Tr} (h : RSat w q qt v M c t) {S : Nat → Prop} (o : Only S w w') (hn : ∀ g, M g → ¬ S g) : RSat w' q qt v M c t :=
  ⟨o.row h.row (hn q h.mq), h.own.keep o hn,
    (h.tab.mono (ok' := fun g => (M g ∧ g ≠ q ∧ g ≠ qt) ∨ w.heap.size ≤ g ∧ True) (fun g _ k => k.imp id (fun k => ⟨k, trivial⟩)) (fun k => by rcases k with k | k; exact k.2.2 rfl; have := h.tab.lt; omega) (fun g hg => .inr ⟨hg, trivial⟩)).to
      (S := fun g => S g ∧ g < w.heap.size) ⟨o.os, o.tape, o.output, o.size, fun k hk hs => o.block k hk (fun s => hs ⟨s, hk⟩)⟩ (fun s => hn qt h.mt s.1)
      (fun g k s => by rcases k with k | k; exact hn g k.1 s.1; omega) (fun g hg k => by rcases k with k | k; exact .inl k; omega) (fun k => by rcases k with k | k; exact k.2.2 rfl; have := h.lt _ h.mt; have := o.size; omega) (fun g hg => .inr hg),
    h.mt, h.mq, h.ne, fun g hg => Nat.lt_of_lt_of_le (h.lt g hg) o.size⟩
theorem RS.keep {w w' : World} {q : Nat} {M : Nat → Prop} {c : Cf} {t : Tr} (h : RS w q M c t) {S : Nat → Prop} (o : Only S w w') (hn : ∀ g, M g → ¬ S g) : RS w' q M c t := by
  obtain ⟨qt, v, h⟩ := h
  exact ⟨qt, v, h.keep o hn⟩
theorem RS.still {w w' : World} {q : Nat} {M : Nat → Prop} {c : Cf} {t : Tr} (h : RS w q M c t) (o : Only none_ w w') : RS w' q M c t := h.keep o (fun _ _ s => s)
theorem RS.lt {w : World} {q : Nat} {M : Nat → Prop} {c : Cf} {t : Tr} (h : RS w q M c t) : ∀ g, M g → g < w.heap.size := by
  obtain ⟨qt, v, h⟩ := h
  exact h.lt
/-- behind a call: its blocks are those that it had, and new ones -/
def RSto (w : World) (q : Nat) (M : Nat → Prop) (c : Cf) (t : Tr) (w' : World) : Prop := (∃ M' : Nat → Prop, RS w' q M' c t ∧ ∀ g, M' g → M g ∨ w.heap.size ≤ g) ∧ Only M w w'

def mayCf (m s l d b : Int) : Bool := decide (1 ≤ m ∧ m ≤ 16 ∧ (1 ≤ s ∧ s ≤ 32 ∧ 1 ≤ l ∧ l ≤ 64) ∧ 1 ≤ d ∧ d ≤ 16 ∧ 1 ≤ b ∧ b ≤ 256)
theorem mayCf_iff {m s l d b : Int} : mayCf m s l d b = true ↔ 1 ≤ m ∧ m ≤ 16 ∧ (1 ≤ s ∧ s ≤ 32 ∧ 1 ≤ l ∧ l ≤ 64) ∧ 1 ≤ d ∧ d ≤ 16 ∧ 1 ≤ b ∧ b ≤ 256 := by unfold mayCf; simp
set_option maxHeartbeats 1000000 in
theorem rnew10_any (c : Cf) (w : World) :
    Calls Tryz.prog 25 #[.int .i64 c.most, .int .i64 c.size, .int .i64 c.life, .int .i64 c.deg, .int .i64 c.blk] w fun e w' => ∃ q, e = .returned (.pointer (some ⟨q, 0, none⟩)) ∧ (∃ M : Nat → Prop, RS w' q M c ⟨[], [], 0, 0⟩ ∧ ∀ g, M g → w.heap.size ≤ g) ∧ Only none_ w w' := by
  have N := Lib.hid (fun w => rnew8_any c.size c.life w)
  go_enter Tryz.func25, Tryz.ntmps25
  go_wp2_with fail
  (with_reducible refine (N.out _).mono ?_)
  rintro e w1 ⟨qt, rfl, hr, lq, o⟩
  have HR := Lib.hid hr
  have LQ := Lib.hid lq
  have OO := Lib.hid o
  have lt := hr.lt
  clear hr lq o N
  go_wp2_with fail
  go_ret
  have r1 := Row.fresh w1 85 #[.slice none 0 0, .pointer (some ⟨qt, 0, none⟩), .int .i64 0, .int .i64 0, .int .i64 c.most, .int .i64 c.deg, .int .i64 c.blk]
  have oa := (Only.refl none_ w1).alloc (.cells #[.slice none 0 0, .pointer (some ⟨qt, 0, none⟩), .int .i64 0, .int .i64 0, .int .i64 c.most, .int .i64 c.deg, .int .i64 c.blk] 85)
  have z := oa.size
  simp only [World.size_alloc] at z
  have lqq := LQ.out
  have zo := OO.out.size
  refine ⟨w1.heap.size, rfl, ⟨fun g => qt ≤ g ∧ g ≤ w1.heap.size, ⟨qt, _, r1, ⟨Owns.start _ _ _ _ _, fun g hg => by cases hg⟩, ?_, ⟨Nat.le_refl _, by omega⟩, ⟨by omega, Nat.le_refl _⟩, by omega, fun g hg => ?_⟩, fun g hg => ?_⟩, OO.out.idle oa⟩
  · exact HR.out.to oa (fun s => s) (fun _ _ s => s) (fun g hl hg => .inl ⟨⟨by omega, by omega⟩, by omega, by omega⟩) (fun k => by simp only [World.size_alloc] at k; omega) (fun g hg => .inr hg)
  · simp only [World.size_alloc]; omega
  · omega

end Go.Proofs.YtlfnncahhbbmpaaGreatDoor

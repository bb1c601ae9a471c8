/- Proved: the statement SatCross of layer 1, for every four counts, on no condition. -/
import Derived.Test.YtkjjahkldahahaaRows
import Derived.WalkKit
import Derived.ProofKit
import Derived.OpenShut
import Derived.Below
import Derived.Lib.SmallJoins
import Derived.Deep.RegionHeld3
import Derived.Test.YtkjjahkldahahaaAwake
import Derived.Test.YtkjjahkldahahaaCross
import Derived.Test.YtkjjahkldahahaaScaleR
namespace Go.Proofs.Ytkjjahkldahahaa.satCross
open Go.ChangeShapes Go.WideShapes Go.ChangeAt Go.RowKit Nums
set_option linter.unusedVariables false

theorem own : ownKnob Try.prog.godebug = none := by kernel_rfl
theorem laidOut : laidOutB Try.prog = true := by kernel_rfl
theorem cellsA : Try.prog.cellsOf 26 = 2 := by kernel_rfl
theorem cellsU : Try.prog.cellsOf 22 = 1 := by kernel_rfl

theorem openA (W : World) (base : Nat) (H : Type) (enc : TypeId × Value → H) (v : Value) (d : DataW H) (p : List MemPlace) (o : Value.okWide Try.prog W .any base 26 v) (h : DataW.Trod enc Try.prog W 0 (fun _ => true) true 26 v d p) :
    ∃ a b : Int, v = .agg #[.int .u64 a, .int .u64 b] ∧ (Lit.int .u64 a).wf = true ∧ (Lit.int .u64 b).wf = true := by
  simp only [Value.okWide, Try.underlying26] at o
  obtain ⟨cs, rfl, hsz, _⟩ := o
  rw [cellsA] at hsz
  obtain ⟨c0, c1, rfl⟩ := Joins.array2 hsz
  obtain ⟨fuel, hf⟩ := h
  simp only [Value.cells] at hf
  obtain ⟨xs, m, _, _, _, hl, hx⟩ := DataW.trod_array Try.underlying26 hf
  match xs, hl with
  | [y0, y1], _ =>
    have k0 := hx 0 (by omega)
    have k1 := hx 1 (by omega)
    simp [cellsU] at k0 k1
    obtain ⟨a, ea, _, wa⟩ := DataW.trod_int Try.underlying22 k0
    obtain ⟨b, eb, _, wb⟩ := DataW.trod_int Try.underlying22 k1
    simp only [List.cons.injEq, and_true] at ea eb
    subst ea; subst eb
    exact ⟨a, b, rfl, wa, wb⟩

theorem kept4 {w w' : World} {a b c d : Value} {t u : TypeId} (h : Below ((w.alloc (.cells #[a, b] t)).alloc (.cells #[c, d] u)).heap.size ((w.alloc (.cells #[a, b] t)).alloc (.cells #[c, d] u)) w') :
    w'.cell? ⟨w.heap.size, 0, none⟩ = some a ∧ w'.cell? ⟨w.heap.size, 1, none⟩ = some b ∧ w'.cell? ⟨w.heap.size + 1, 0, none⟩ = some c ∧ w'.cell? ⟨w.heap.size + 1, 1, none⟩ = some d := by
  refine ⟨?_, ?_, ?_, ?_⟩
  · rw [h.cell (by first | (simp; done) | (simp; omega))]; simp [go_sem]
  · rw [h.cell (by first | (simp; done) | (simp; omega))]; simp [go_sem]
  · rw [h.cell (by first | (simp; done) | (simp; omega))]; simp [go_sem]
  · rw [h.cell (by first | (simp; done) | (simp; omega))]; simp [go_sem]

theorem below_of {w w' : World} {a b c d : Value} {t u : TypeId} (h : Below ((w.alloc (.cells #[a, b] t)).alloc (.cells #[c, d] u)).heap.size ((w.alloc (.cells #[a, b] t)).alloc (.cells #[c, d] u)) w') : Below w.heap.size w w' :=
  (((Below.refl _ _).alloc (Nat.le_refl _) _).alloc (by simp) _).trans (h.mono (by simp; omega))

theorem plain (a b c d : Nat) (ha : a < 18446744073709551616) (hb : b < 18446744073709551616) (hc : c < 18446744073709551616) (hd : d < 18446744073709551616) (w : World) :
    Calls Try.prog 4 #[.agg #[.int .u64 a, .int .u64 b], .agg #[.int .u64 c, .int .u64 d]] w fun e w' => e = .returned (.bool true) ∧ Below w.heap.size w w' := by
  have A := Lib.hid (scale_any a b c ha hb hc)
  have B := Lib.hid (scale_refs a b c ha hb hc)
  have C := Lib.hid (cross_any a b c d ha hb hc hd)
  have D := Lib.hid (cross_ref a b c d ha hb hc hd)
  generalize scaled a b c = q at *
  generalize side ((a * b : Nat) : Int) ((c * d : Nat) : Int) = s at *
  generalize decide (0 < c) = k at *
  go_enter Try.func4, Try.ntmps4
  go_wp2_with fail
  (with_reducible refine (awake_any _).mono ?_)
  rintro e w1 ⟨rfl, hb1⟩
  obtain ⟨c1, c2, c3, c4⟩ := kept4 hb1
  have H1 := Lib.hid hb1
  clear hb1
  go_wp2_with fail
  (with_reducible refine (A.out _).mono ?_)
  rintro e w2 ⟨rfl, hb2⟩
  have H2 := Lib.hid (H1.out.trans (hb2.mono H1.out.size))
  obtain ⟨e1, e2, e3, e4⟩ := kept4 H2.out
  clear hb2 c1 c2 c3 c4 H1
  go_wp2_with fail
  (with_reducible refine (B.out _).mono ?_)
  rintro e w3 ⟨rfl, hb3⟩
  have H3 := Lib.hid (H2.out.trans (hb3.mono H2.out.size))
  obtain ⟨f1, f2, f3, f4⟩ := kept4 H3.out
  clear hb3 e1 e2 e3 e4 H2
  go_wp2_with fail
  have hb := H3.out
  clear H3
  go_region_held3 (fun w' => w'.cell? ⟨w.heap.size, 0, none⟩ = some (.int .u64 a) ∧ w'.cell? ⟨w.heap.size, 1, none⟩ = some (.int .u64 b) ∧ w'.cell? ⟨w.heap.size + 1, 0, none⟩ = some (.int .u64 c) ∧ w'.cell? ⟨w.heap.size + 1, 1, none⟩ = some (.int .u64 d) ∧
      Below ((w.alloc (.cells #[.int .u64 a, .int .u64 b] 26)).alloc (.cells #[.int .u64 c, .int .u64 d] 26)).heap.size ((w.alloc (.cells #[.int .u64 a, .int .u64 b] 26)).alloc (.cells #[.int .u64 c, .int .u64 d] 26)) w')
    (first
      | (go_keep; done)
      | (refine ⟨?_, ?_, ?_, ?_, ?_⟩ <;> first | (simp [*]; done) | exact hb.drew | assumption | exact Below.drew (by assumption))
      | (go_split_ands
         have hB := Below.trans (by assumption) (hb4.mono (Below.size (by assumption)))
         obtain ⟨m1, m2, m3, m4⟩ := kept4 hB
         exact ⟨m1, m2, m3, m4, hB⟩))
    (first
      | (go_at_call 19; (with_reducible refine (C.out _).mono ?_); rintro e w' ⟨rfl, rfl⟩)
      | (go_at_call 20; (with_reducible refine (D.out _).mono ?_); rintro e w4 ⟨rfl, hb4⟩))
  all_goals (go_wp2_with fail; go_ret; go_split_ands; exact ⟨by simp, below_of (by assumption)⟩)


theorem walk (a b c d : Int) (wa : (Lit.int .u64 a).wf = true) (wb : (Lit.int .u64 b).wf = true) (wc : (Lit.int .u64 c).wf = true) (wd : (Lit.int .u64 d).wf = true) (w : World) :
    Calls Try.prog 4 #[.agg #[.int .u64 a, .int .u64 b], .agg #[.int .u64 c, .int .u64 d]] w fun e w' => e = .returned (.bool true) ∧ Below w.heap.size w w' := by
  obtain ⟨la, ua⟩ := bounds_u64 wa
  obtain ⟨lb, ub⟩ := bounds_u64 wb
  obtain ⟨lc, uc⟩ := bounds_u64 wc
  obtain ⟨ld, ud⟩ := bounds_u64 wd
  obtain ⟨a, rfl⟩ := Int.eq_ofNat_of_zero_le la
  obtain ⟨b, rfl⟩ := Int.eq_ofNat_of_zero_le lb
  obtain ⟨c, rfl⟩ := Int.eq_ofNat_of_zero_le lc
  obtain ⟨d, rfl⟩ := Int.eq_ofNat_of_zero_le ld
  exact plain a b c d (by omega) (by omega) (by omega) (by omega) w

set_option maxRecDepth 100000 in
theorem lifted (os : Os) (started : os.Started) (H : Type) (enc : TypeId × Value → H) :
    ReturnsInHanded {} Try.checked os 4 .any (Rows.satCrossSpec.pre6 enc Try.prog Try.f4 Rows.satCrossRow.domain false) (Rows.satCrossSpec.post enc Try.prog Try.f4 false true false false) := by
  refine returnsInHanded_of_change (C := Try.checked) own started (by kernel_rfl) Try.func4
    (ChangeSpec.witness6 (enc := enc) (C := Try.checked) false ⟨#[], #[.agg #[.int .u64 0, .int .u64 0], .agg #[.int .u64 0, .int .u64 0]], []⟩ 8 (by kernel_rfl) (by kernel_rfl) (by kernel_rfl) (by kernel_rfl)) ?_
  intro W base args ds gs before hval0 hW hcnd _
  have hval : ∀ (j : Nat) t v, Try.f4.params[j]? = some t → args[j]? = some v → Value.okWide Try.prog W .any base t v := hval0
  have hW' := hW
  obtain ⟨p, q, hA0, hV, rfl, hfz, hnd⟩ := hW
  have hA : DataW.TrodAll enc Try.prog W 0 (fun _ => true) true Try.f4.params.toList args.toList ds p := hA0
  rw [Try.params4] at hA hval
  obtain ⟨v0, v1, d0, d1, p0, p1, rfl, rfl, rfl, h0, h1⟩ := trodAll_two hA
  obtain ⟨rfl, rfl⟩ := trodVars_none hV
  have o0 := hval 0 26 v0 rfl rfl
  have o1 := hval 1 26 v1 rfl rfl
  have k0 := h0
  have k1 := h1
  have lt0 : ∀ x ∈ p0, x.block < W.heap.size := by obtain ⟨m, hm⟩ := k0; exact DataW.trod_lt m _ _ _ hm
  have lt1 : ∀ x ∈ p1, x.block < W.heap.size := by obtain ⟨m, hm⟩ := k1; exact DataW.trod_lt m _ _ _ hm
  obtain ⟨a, b, rfl, wa, wb⟩ := openA W base H enc v0 d0 p0 o0 h0
  obtain ⟨c, d, rfl, wc, wd⟩ := openA W base H enc v1 d1 p1 o1 h1
  clear hA0 hval0
  refine (walk a b c d wa wb wc wd W).mono fun e W' ⟨he, bel⟩ => ?_
  subst he
  exact ⟨_, rfl, _, _, _, [], _, [], hW', trodAll_mk1 (shut_bool Try.underlying4 _), (trodAll_cons_mk (Below.trod laidOut (by kernel_rfl) (of_decide_eq_true (by kernel_rfl)) k0 bel lt0) (trodAll_cons_mk (Below.trod laidOut (by kernel_rfl) (of_decide_eq_true (by kernel_rfl)) k1 bel lt1) trodAll_mk0)), rfl, bel.frame _, fun h => by cases h⟩

theorem over : Rows.satCrossRow.holds Try.pinned (OpenSpec.ofChange Rows.satCrossSpec) :=
  OpenClaim.holds_of_wide 4 Try.f4 rfl rfl rfl rfl rfl rfl rfl ⟨rfl, rfl, rfl, rfl, rfl⟩ rfl rfl rfl rfl rfl (by kernel_rfl) Try.func4 (by kernel_rfl)
    (of_decide_eq_true (by kernel_rfl)) (by unfold Func.isWrapper; first | (rw [if_pos (by decide +kernel)]; kernel_rfl) | (rw [if_neg (by decide +kernel)]; exact ⟨rfl, rfl⟩))
    (fun os started H enc _ => lifted os started H enc)

theorem satCross_holds : Rows.SatCrossSaid := over
#print axioms satCross_holds
end Go.Proofs.Ytkjjahkldahahaa.satCross

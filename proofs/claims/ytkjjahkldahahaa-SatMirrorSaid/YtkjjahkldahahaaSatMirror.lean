/- Proved: the statement SatMirror of layer 1, for every four counts, on no condition. -/
import Derived.Test.YtkjjahkldahahaaRows
import Derived.WalkKit
import Derived.ProofKit
import Derived.OpenShut
import Derived.Below
import Derived.Lib.SmallJoins
import Derived.Test.YtkjjahkldahahaaAwake
namespace Go.Proofs.Ytkjjahkldahahaa.satMirror
open Go.ChangeShapes Go.WideShapes Go.ChangeAt Go.RowKit Nums
set_option linter.unusedVariables false

theorem own : ownKnob Try.prog.godebug = none := by kernel_rfl
theorem laidOut : laidOutB Try.prog = true := by kernel_rfl
theorem cellsA : Try.prog.cellsOf 26 = 2 := by kernel_rfl
theorem cellsU : Try.prog.cellsOf 22 = 1 := by kernel_rfl

theorem openA (W : World) (base : Nat) (H : Type) (enc : TypeId × Value → H) (v : Value) (d : DataW H) (p : List MemPlace) (o : Value.okWide Try.prog W .any base 26 v) (h : DataW.Trod enc Try.prog W 0 (fun _ => true) true 26 v d p) :
    ∃ a b : Int, v = .agg #[.int .u64 a, .int .u64 b] ∧ (Lit.int .u64 a).wf = true ∧ (Lit.int .u64 b).wf = true := by
  simp only [Value.okWide, Try.underlying26] at o
  obtain ⟨cs, rfl, hsz, _⟩ := o
  rw [cellsA] at hsz
  obtain ⟨c0, c1, rfl⟩ := Joins.array2 hsz
  obtain ⟨fuel, hf⟩ := h
  simp only [Value.cells] at hf
  obtain ⟨xs, m, _, _, _, hl, hx⟩ := DataW.trod_array Try.underlying26 hf
  match xs, hl with
  | [y0, y1], _ =>
    have k0 := hx 0 (by omega)
    have k1 := hx 1 (by omega)
    simp [cellsU] at k0 k1
    obtain ⟨a, ea, _, wa⟩ := DataW.trod_int Try.underlying22 k0
    obtain ⟨b, eb, _, wb⟩ := DataW.trod_int Try.underlying22 k1
    simp only [List.cons.injEq, and_true] at ea eb
    subst ea; subst eb
    exact ⟨a, b, rfl, wa, wb⟩

theorem kept4 {w w' : World} {a b c d : Value} {t u : TypeId} (h : Below ((w.alloc (.cells #[a, b] t)).alloc (.cells #[c, d] u)).heap.size ((w.alloc (.cells #[a, b] t)).alloc (.cells #[c, d] u)) w') :
    w'.cell? ⟨w.heap.size, 0, none⟩ = some a ∧ w'.cell? ⟨w.heap.size, 1, none⟩ = some b ∧ w'.cell? ⟨w.heap.size + 1, 0, none⟩ = some c ∧ w'.cell? ⟨w.heap.size + 1, 1, none⟩ = some d := by
  refine ⟨?_, ?_, ?_, ?_⟩
  · rw [h.cell (by first | (simp; done) | (simp; omega))]; simp [go_sem]
  · rw [h.cell (by first | (simp; done) | (simp; omega))]; simp [go_sem]
  · rw [h.cell (by first | (simp; done) | (simp; omega))]; simp [go_sem]
  · rw [h.cell (by first | (simp; done) | (simp; omega))]; simp [go_sem]

theorem below_of {w w' : World} {a b c d : Value} {t u : TypeId} (h : Below ((w.alloc (.cells #[a, b] t)).alloc (.cells #[c, d] u)).heap.size ((w.alloc (.cells #[a, b] t)).alloc (.cells #[c, d] u)) w') : Below w.heap.size w w' :=
  (((Below.refl _ _).alloc (Nat.le_refl _) _).alloc (by simp) _).trans (h.mono (by simp; omega))

theorem side_flip (x y : Int) : side y x = - side x y := by unfold side; split <;> split <;> (try split) <;> omega
theorem side_self (x : Int) : side x x = 0 := by unfold side; simp
theorem side_in (x y : Int) : -1 ≤ side x y ∧ side x y ≤ 1 := by unfold side; split <;> (try split) <;> omega

theorem plain (a b c d : Nat) (ha : a < 18446744073709551616) (hb : b < 18446744073709551616) (hc : c < 18446744073709551616) (hd : d < 18446744073709551616) (w : World) :
    Calls Try.prog 9 #[.agg #[.int .u64 a, .int .u64 b], .agg #[.int .u64 c, .int .u64 d]] w fun e w' => e = .returned (.bool true) ∧ Below w.heap.size w w' := by
  have C1 := cross_any a b c d ha hb hc hd
  have C2 := cross_any c d a b hc hd ha hb
  have C3 := cross_any b a c d hb ha hc hd
  have C4 := cross_any a b d c ha hb hd hc
  have C5 := cross_any a b a b ha hb ha hb
  rw [side_flip] at C2
  rw [Nat.mul_comm b a] at C3
  rw [Nat.mul_comm d c] at C4
  rw [side_self] at C5
  obtain ⟨l, u⟩ := side_in ((a * b : Nat) : Int) ((c * d : Nat) : Int)
  have C1 := Lib.hid C1; have C2 := Lib.hid C2; have C3 := Lib.hid C3; have C4 := Lib.hid C4; have C5 := Lib.hid C5
  generalize side ((a * b : Nat) : Int) ((c * d : Nat) : Int) = s at *
  go_enter Try.func9, Try.ntmps9
  go_wp2_with fail
  (with_reducible refine (awake_any _).mono ?_)
  rintro e w1 ⟨rfl, hb1⟩
  obtain ⟨c1, c2, c3, c4⟩ := kept4 hb1
  have H1 := Lib.hid hb1
  clear hb1
  go_wp2_with (first | (go_at_call 19; (with_reducible refine (C1.out _).mono ?_); rintro e w' ⟨rfl, rfl⟩) | (go_at_call 19; (with_reducible refine (C2.out _).mono ?_); rintro e w' ⟨rfl, rfl⟩) | (go_at_call 19; (with_reducible refine (C3.out _).mono ?_); rintro e w' ⟨rfl, rfl⟩) | (go_at_call 19; (with_reducible refine (C4.out _).mono ?_); rintro e w' ⟨rfl, rfl⟩) | (go_at_call 19; (with_reducible refine (C5.out _).mono ?_); rintro e w' ⟨rfl, rfl⟩))
  go_ret
  exact ⟨by simp, below_of H1.out⟩


theorem walk (a b c d : Int) (wa : (Lit.int .u64 a).wf = true) (wb : (Lit.int .u64 b).wf = true) (wc : (Lit.int .u64 c).wf = true) (wd : (Lit.int .u64 d).wf = true) (w : World) :
    Calls Try.prog 9 #[.agg #[.int .u64 a, .int .u64 b], .agg #[.int .u64 c, .int .u64 d]] w fun e w' => e = .returned (.bool true) ∧ Below w.heap.size w w' := by
  obtain ⟨la, ua⟩ := bounds_u64 wa
  obtain ⟨lb, ub⟩ := bounds_u64 wb
  obtain ⟨lc, uc⟩ := bounds_u64 wc
  obtain ⟨ld, ud⟩ := bounds_u64 wd
  obtain ⟨a, rfl⟩ := Int.eq_ofNat_of_zero_le la
  obtain ⟨b, rfl⟩ := Int.eq_ofNat_of_zero_le lb
  obtain ⟨c, rfl⟩ := Int.eq_ofNat_of_zero_le lc
  obtain ⟨d, rfl⟩ := Int.eq_ofNat_of_zero_le ld
  exact plain a b c d (by omega) (by omega) (by omega) (by omega) w

set_option maxRecDepth 100000 in
theorem lifted (os : Os) (started : os.Started) (H : Type) (enc : TypeId × Value → H) :
    ReturnsInHanded {} Try.checked os 9 .any (Rows.satMirrorSpec.pre6 enc Try.prog Try.f9 Rows.satMirrorRow.domain false) (Rows.satMirrorSpec.post enc Try.prog Try.f9 false true false false) := by
  refine returnsInHanded_of_change (C := Try.checked) own started (by kernel_rfl) Try.func9
    (ChangeSpec.witness6 (enc := enc) (C := Try.checked) false ⟨#[], #[.agg #[.int .u64 0, .int .u64 0], .agg #[.int .u64 0, .int .u64 0]], []⟩ 8 (by kernel_rfl) (by kernel_rfl) (by kernel_rfl) (by kernel_rfl)) ?_
  intro W base args ds gs before hval0 hW hcnd _
  have hval : ∀ (j : Nat) t v, Try.f9.params[j]? = some t → args[j]? = some v → Value.okWide Try.prog W .any base t v := hval0
  have hW' := hW
  obtain ⟨p, q, hA0, hV, rfl, hfz, hnd⟩ := hW
  have hA : DataW.TrodAll enc Try.prog W 0 (fun _ => true) true Try.f9.params.toList args.toList ds p := hA0
  rw [Try.params9] at hA hval
  obtain ⟨v0, v1, d0, d1, p0, p1, rfl, rfl, rfl, h0, h1⟩ := trodAll_two hA
  obtain ⟨rfl, rfl⟩ := trodVars_none hV
  have o0 := hval 0 26 v0 rfl rfl
  have o1 := hval 1 26 v1 rfl rfl
  have k0 := h0
  have k1 := h1
  have lt0 : ∀ x ∈ p0, x.block < W.heap.size := by obtain ⟨m, hm⟩ := k0; exact DataW.trod_lt m _ _ _ hm
  have lt1 : ∀ x ∈ p1, x.block < W.heap.size := by obtain ⟨m, hm⟩ := k1; exact DataW.trod_lt m _ _ _ hm
  obtain ⟨a, b, rfl, wa, wb⟩ := openA W base H enc v0 d0 p0 o0 h0
  obtain ⟨c, d, rfl, wc, wd⟩ := openA W base H enc v1 d1 p1 o1 h1
  clear hA0 hval0
  refine (walk a b c d wa wb wc wd W).mono fun e W' ⟨he, bel⟩ => ?_
  subst he
  exact ⟨_, rfl, _, _, _, [], _, [], hW', trodAll_mk1 (shut_bool Try.underlying4 _), (trodAll_cons_mk (Below.trod laidOut (by kernel_rfl) (of_decide_eq_true (by kernel_rfl)) k0 bel lt0) (trodAll_cons_mk (Below.trod laidOut (by kernel_rfl) (of_decide_eq_true (by kernel_rfl)) k1 bel lt1) trodAll_mk0)), rfl, bel.frame _, fun h => by cases h⟩

theorem over : Rows.satMirrorRow.holds Try.pinned (OpenSpec.ofChange Rows.satMirrorSpec) :=
  OpenClaim.holds_of_wide 9 Try.f9 rfl rfl rfl rfl rfl rfl rfl ⟨rfl, rfl, rfl, rfl, rfl⟩ rfl rfl rfl rfl rfl (by kernel_rfl) Try.func9 (by kernel_rfl)
    (of_decide_eq_true (by kernel_rfl)) (by unfold Func.isWrapper; first | (rw [if_pos (by decide +kernel)]; kernel_rfl) | (rw [if_neg (by decide +kernel)]; exact ⟨rfl, rfl⟩))
    (fun os started H enc _ => lifted os started H enc)

theorem satMirror_holds : Rows.SatMirrorSaid := over
#print axioms satMirror_holds
end Go.Proofs.Ytkjjahkldahahaa.satMirror

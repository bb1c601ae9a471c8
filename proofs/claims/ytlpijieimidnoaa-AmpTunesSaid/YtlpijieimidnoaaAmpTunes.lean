/- Proved: the statement AmpTunes of layer 9, for every pace, on no condition. -/
import Derived.Test.YtlpijieimidnoaaRows
import Derived.WalkKit
import Derived.ProofKit
import Derived.OpenShut
import Derived.Below
import Derived.Test.YtlpijieimidnoaaArgs
import Derived.Test.YtlpijieimidnoaaAmpAwake
import Derived.Deep.RegionHeld3
namespace Go.Proofs.Ytlpijieimidnoaa.ampTunes
open Go.ChangeShapes Go.WideShapes Go.ChangeAt Go.RowKit
set_option linter.unusedVariables false

theorem own : ownKnob Try.prog.godebug = none := by kernel_rfl
theorem laidOut : laidOutB Try.prog = true := by kernel_rfl

set_option maxHeartbeats 1000000 in
set_option maxRecDepth 100000 in
theorem walk (w : World) (f : Fl) (hf : f.Wf) :
    Calls Try.prog 4 #[f.val] w fun e w' => e = .returned (.bool true) ∧ Below w.heap.size w w' := by
  have LA := Lib.hid (fun w => late_any f w hf)
  have RL := Lib.hid (fun w => rlate_any f w hf)
  have WA := Lib.hid (fun w => waste_any f w hf)
  have RW := Lib.hid (fun w => rwaste_any f w hf)
  have TR := Lib.hid (fun w => trigger_any f w hf)
  have ST := Lib.hid (fun w => start_any f.n w)
  have a0 := hf.a0; have a1 := hf.a1; have g0 := hf.g0; have g1 := hf.g1
  have cs : (decide (0 ≤ f.a) = true ∧ decide (0 ≤ f.g) = true ∧ f.trigger = f.a - 1 - f.g ∧ IntKind.i64.wrap (f.a - 1) = f.a - 1 ∧ IntKind.i64.wrap (f.a - 1 - f.g) = f.a - 1 - f.g)
      ∨ (decide (0 ≤ f.a) = true ∧ decide (0 ≤ f.g) = false ∧ f.trigger = 0) ∨ (decide (0 ≤ f.a) = false ∧ f.trigger = 0) := by
    unfold Fl.trigger
    by_cases h1 : 0 ≤ f.a
    · by_cases h2 : 0 ≤ f.g
      · refine Or.inl ⟨decide_eq_true h1, decide_eq_true h2, if_pos ⟨h1, h2⟩, ?_, ?_⟩ <;> (rw [IntKind.wrap_i64]; omega)
      · exact Or.inr (Or.inl ⟨decide_eq_true h1, decide_eq_false h2, if_neg (fun h => h2 h.2)⟩)
    · exact Or.inr (Or.inr ⟨decide_eq_false h1, if_neg (fun h => h1 h.1)⟩)
  generalize f.late = l at *
  generalize f.waste = s at *
  generalize f.trigger = t at *
  have el := fun w => eq_fl l l w
  have es := fun w => eq_fl s s w
  have eb := fun w => eq_fl (Fl.start f.n) (Fl.start f.n) w
  simp only [decide_true] at el es eb
  unfold Fl.val at LA RL WA RW TR ST ⊢
  unfold Fl.start at ST eb
  clear a0 a1 g0 g1 hf
  rcases cs with ⟨t1, t2, t3, v1, v2⟩ | ⟨t1, t2, t3⟩ | ⟨t1, t3⟩
  all_goals
    rw [t3] at TR
    have tt : ((t : Int) == t) = true := by simp
    rw [t3] at tt
    clear t3
    go_enter Try.func4, Try.ntmps4
    go_wp2_with fail
    have R0 := Lib.hid (Row.fresh w 23 #[.int .i64 f.n, .int .i64 f.a, .int .i64 f.p, .int .i64 f.g])
    have OA := Lib.hid ((Only.refl none_ w).alloc (.cells #[.int .i64 f.n, .int .i64 f.a, .int .i64 f.p, .int .i64 f.g] 23))
    generalize w.alloc (.cells #[.int .i64 f.n, .int .i64 f.a, .int .i64 f.p, .int .i64 f.g] 23) = W1 at *
    generalize w.heap.size = b0 at R0 ⊢
    (with_reducible refine (awake_any _).mono ?_)
    rintro e w1 ⟨rfl, o⟩
    have OB := Lib.hid (OA.out.same o)
    have S0 := Lib.hid (o.still R0.out)
    obtain ⟨c0, c1, c2, c3⟩ := S0.out.four
    clear R0 OA o
    go_wp2_with fail
    clear c0 c1 c2 c3
    have ND := Lib.hid (Only.refl none_ w1).drew
    have KK := Lib.hid (fun (w' : World) (o : Only none_ w1 w') => (o.still S0.out).four)
    obtain ⟨c0, c1, c2, c3⟩ := KK.out _ ND.out
    go_region_held3 (fun w' => w'.cell? ⟨b0, 0, none⟩ = some (.int .i64 f.n) ∧ w'.cell? ⟨b0, 1, none⟩ = some (.int .i64 f.a) ∧ w'.cell? ⟨b0, 2, none⟩ = some (.int .i64 f.p) ∧ w'.cell? ⟨b0, 3, none⟩ = some (.int .i64 f.g))
      (first
        | (with_reducible exact KK.out _ Q6.out)
        | (with_reducible exact KK.out _ Q5.out)
        | (with_reducible exact KK.out _ Q4.out)
        | (with_reducible exact KK.out _ Q3.out)
        | (with_reducible exact KK.out _ Q2.out)
        | (with_reducible exact KK.out _ Q1.out)
        | (with_reducible exact KK.out _ ND.out)
        | fail)
      (first
        | (go_at_call 14; (with_reducible refine (LA.out _).mono ?_); rintro e u1 ⟨rfl, o1⟩; have Q1 := Lib.hid (ND.out.same o1))
        | (go_at_call 15; (with_reducible refine (RL.out _).mono ?_); rintro e u2 ⟨rfl, o2⟩; have Q2 := Lib.hid (Q1.out.same o2))
        | (go_at_call 16; (with_reducible refine (WA.out _).mono ?_); rintro e u3 ⟨rfl, o3⟩; have Q3 := Lib.hid (Q2.out.same o3))
        | (go_at_call 17; (with_reducible refine (RW.out _).mono ?_); rintro e u4 ⟨rfl, o4⟩; have Q4 := Lib.hid (Q3.out.same o4))
        | (go_at_call 18; (with_reducible refine (TR.out _).mono ?_); rintro e u5 ⟨rfl, o5⟩; have Q5 := Lib.hid (Q4.out.same o5))
        | (go_at_call 19; (with_reducible refine (ST.out _).mono ?_); rintro e u6 ⟨rfl, o6⟩; have Q6 := Lib.hid (Q5.out.same o6))
        | fail)
    go_wp2_with fail
    go_ret
    exact ⟨rfl, (OB.out.same Q6.out).to_below9⟩


set_option maxRecDepth 100000 in
theorem lifted (os : Os) (started : os.Started) (H : Type) (enc : TypeId × Value → H) :
    ReturnsInHanded {} Try.checked os 4 .any (Rows.ampTunesSpec.pre6 enc Try.prog Try.f4 Rows.ampTunesRow.domain false) (Rows.ampTunesSpec.post enc Try.prog Try.f4 false true false false) := by
  refine returnsInHanded_of_change (C := Try.checked) own started (by kernel_rfl) Try.func4
    (ChangeSpec.witness6 (enc := enc) (C := Try.checked) false ⟨#[], #[.agg #[.int .i64 0, .int .i64 0, .int .i64 0, .int .i64 0]], []⟩ 8 (by kernel_rfl) (by kernel_rfl) (by kernel_rfl) (by kernel_rfl)) ?_
  intro W base args ds gs before hval0 hW hcnd _
  have hval : ∀ (j : Nat) t v, Try.f4.params[j]? = some t → args[j]? = some v → Value.okWide Try.prog W .any base t v := hval0
  have hW' := hW
  obtain ⟨p, q, hA0, hV, rfl, hfz, hnd⟩ := hW
  have hA : DataW.TrodAll enc Try.prog W 0 (fun _ => true) true Try.f4.params.toList args.toList ds p := hA0
  rw [Try.params4] at hA hval
  obtain ⟨v0, vs0, d0, ds0, p0, q0, hargs, rfl, rfl, h0, r0⟩ := trodAll_cons hA
  obtain ⟨rfl, rfl, rfl⟩ := trodAll_nil r0
  obtain rfl : args = #[v0] := by cases args; simp_all
  obtain ⟨rfl, rfl⟩ := trodVars_none hV
  have o0 := hval 0 23 v0 rfl rfl
  have k0 := h0
  have lt0 : ∀ x ∈ p0, x.block < W.heap.size := by obtain ⟨m, hm⟩ := k0; exact DataW.trod_lt m _ _ _ hm
  obtain ⟨a0, rfl, wa0⟩ := open_flow W base H enc v0 d0 p0 o0 h0
  have shut : ∀ W', Below W.heap.size W W' → DataW.TrodAll enc Try.prog W' 0 (fun b => decide (b < W.heap.size)) true [23] [a0.val] [d0] (p0 ++ []) := fun W' bel =>
    (trodAll_cons_mk (Below.trod laidOut (by kernel_rfl) (of_decide_eq_true (by kernel_rfl)) k0 bel lt0) trodAll_mk0)
  clear hA0 hval0
  refine (walk W a0 wa0).mono fun e W' ⟨he, bel⟩ => ?_
  subst he
  exact ⟨_, rfl, _, _, _, [], _, [], hW', trodAll_mk1 (shut_bool Try.underlying4 _), shut W' bel, rfl, bel.frame _, fun h => by cases h⟩

theorem over : Rows.ampTunesRow.holds Try.pinned (OpenSpec.ofChange Rows.ampTunesSpec) :=
  OpenClaim.holds_of_wide 4 Try.f4 rfl rfl rfl rfl rfl rfl rfl ⟨rfl, rfl, rfl, rfl, rfl⟩ rfl rfl rfl rfl rfl (by kernel_rfl) Try.func4 (by kernel_rfl)
    (of_decide_eq_true (by kernel_rfl)) (by unfold Func.isWrapper; first | (rw [if_pos (by decide +kernel)]; kernel_rfl) | (rw [if_neg (by decide +kernel)]; exact ⟨rfl, rfl⟩))
    (fun os started H enc _ => lifted os started H enc)

theorem ampTunes_holds : Rows.AmpTunesSaid := over
#print axioms ampTunes_holds
end Go.Proofs.Ytlpijieimidnoaa.ampTunes

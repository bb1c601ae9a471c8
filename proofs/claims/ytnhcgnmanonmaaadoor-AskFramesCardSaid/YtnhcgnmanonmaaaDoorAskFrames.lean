/- Usual options, with other frames and another bottom, may be just if the frames are 1 to 64, and the bottom is 1 to them: the tied card, for every input. -/
import Derived.Test.YtnhcgnmanonmaaaDoorRows
import Derived.WalkKit
import Derived.ProofKit
import Derived.OpenShut
import Derived.Below
import Derived.Test.YtnhcgnmanonmaaaDoorArgs
import Derived.Test.YtnhcgnmanonmaaaDoorLw15
import Derived.Test.YtnhcgnmanonmaaaDoorBd
import Derived.Test.YtnhcgnmanonmaaaDoorTie
import Derived.Test.YtnhcgnmanonmaaaDoorCards

namespace Go.Proofs.YtnhcgnmanonmaaaDoor.askFrames
open Go.ChangeShapes Go.WideShapes Go.ChangeAt Go.RowKit
set_option linter.unusedVariables false

theorem own : ownKnob Tryd.prog.godebug = none := by kernel_rfl
theorem laidOut : laidOutB Tryd.prog = true := by kernel_rfl

theorem walk (w : World) (hb : Bd w) (fr : Int) (hf : (Lit.int .i64 fr).wf = true) (bo : Int) (hbo : (Lit.int .i64 bo).wf = true) :
    Calls Tryd.prog 7 #[.int .i64 fr, .int .i64 bo] w fun e w' => e = .returned (.bool true) ∧ Below w.heap.size w w' := by
  have HB := Lib.hid hb
  clear hb hf hbo
  go_enter Tryd.func7, Tryd.ntmps7
  go_wp2_with fail
  (with_reducible refine (awake_any _ HB.out).mono ?_)
  rintro e w1 ⟨rfl, o⟩
  have O1 := Lib.hid o
  have UY := Lib.hid (usual_yes 100 w1 (HB.out.still o) (by decide) (by decide))
  simp only [Opt.val, usual] at UY
  clear o
  go_wp2_with fail
  (with_reducible refine UY.out.mono ?_)
  rintro e w2 ⟨rfl, o⟩
  have O2 := Lib.hid (O1.out.same o)
  clear o UY O1
  go_wp2_with fail
  have O3 := Lib.hid (O2.out.alloc (.cells (Opt.cells ⟨100, fr, bo, 16, 8, 4, 4, 3, 8, 32, 4, 8, 16, 4⟩) 23))
  have OM := Lib.hid (opt_may ⟨100, fr, bo, 16, 8, 4, 4, 3, 8, 32, 4, 8, 16, 4⟩ _ (HB.out.still O3.out))
  have HM := Lib.hid (show Opt.mayB ⟨100, fr, bo, 16, 8, 4, 4, 3, 8, 32, 4, 8, 16, 4⟩ = decide (1 ≤ fr ∧ fr ≤ 64 ∧ 1 ≤ bo ∧ bo ≤ fr) from by simp [Opt.mayB, Opt.MayC])
  by_cases h : 1 ≤ fr ∧ fr ≤ 64 ∧ 1 ≤ bo ∧ bo ≤ fr
  · have HM2 := Lib.hid (HM.out.trans (decide_eq_true h))
    rw [HM2.out] at OM
    simp only [Opt.val, Opt.cells] at OM
    obtain ⟨h1, h2, h3, h4⟩ := h
    (with_reducible refine OM.out.mono ?_)
    rintro e w3 ⟨rfl, o⟩
    have O4 := Lib.hid (O3.out.same o)
    clear o OM HM HM2
    go_wp2_with fail
    go_ret
    exact ⟨rfl, O4.out.to_below⟩
  · have HM2 := Lib.hid (HM.out.trans (decide_eq_false h))
    rw [HM2.out] at OM
    have WAY : fr < 1 ∨ (1 ≤ fr ∧ 64 < fr) ∨ (1 ≤ fr ∧ fr ≤ 64 ∧ bo < 1) ∨ (1 ≤ fr ∧ fr ≤ 64 ∧ 1 ≤ bo ∧ fr < bo) := by omega
    simp only [Opt.val, Opt.cells] at OM
    clear h
    (with_reducible refine OM.out.mono ?_)
    rintro e w3 ⟨rfl, o⟩
    have O4 := Lib.hid (O3.out.same o)
    clear o OM HM HM2
    rcases WAY with h | ⟨h, h2⟩ | ⟨h, h2, h3⟩ | ⟨h, h2, h3, h4⟩
    case inr.inr.inr => have d : decide (bo ≤ fr) = false := decide_eq_false (by omega)
                        go_wp2_with fail
                        go_ret
                        exact ⟨rfl, O4.out.to_below⟩
    all_goals
      go_wp2_with fail
      go_ret
      exact ⟨rfl, O4.out.to_below⟩


set_option maxRecDepth 100000 in
theorem lifted (os : Os) (started : os.Started) (H : Type) (enc : TypeId × Value → H) :
    ReturnsInHanded {} Tryd.checked os 7 .any (fun w args => (Rows.askFramesSpec.pre enc Tryd.prog Tryd.f7 Rows.askFramesRow.domain false w args ∧ laidMetH Tryd.prog laidB w) ∧ sizedMet enc Tryd.prog Tryd.f7 (OpenSpec.ofChange Rows.askFramesSpec) false w args) (Rows.askFramesSpec.post enc Tryd.prog Tryd.f7 false true false false) := by
  refine returnsInHanded_of_change_and (C := Tryd.checked) (X := fun w _ => laidMetH Tryd.prog laidB w) (fun _ _ _ hh h => h.of_heap hh) own started (by kernel_rfl) Tryd.func7
    (ChangeSpec.witness_shaped (enc := enc) (C := Tryd.checked) (os := os) (X := fun w _ => laidMetH Tryd.prog laidB w) false (World.laidAll Tryd.prog os laidB) #[.int .i64 0, .int .i64 0] 8 (World.laidAll_os _ _ _)
      (laid_shaped os) (by kernel_rfl) (by kernel_rfl) (by kernel_rfl) (laid_met os _)) ?_
  intro W base args ds gs before hval0 hW _ _ hL _
  have HBD := Lib.hid (bd_of hL)
  have hval : ∀ (j : Nat) t v, Tryd.f7.params[j]? = some t → args[j]? = some v → Value.okWide Tryd.prog W .any base t v := hval0
  have hW' := hW
  obtain ⟨p, q, hA0, hV, rfl, hfz, hnd⟩ := hW
  have hA : DataW.TrodAll enc Tryd.prog W 0 (fun _ => true) true Tryd.f7.params.toList args.toList ds p := hA0
  rw [Tryd.params7] at hA hval
  obtain ⟨v0, vs0, d0, ds0, p0, q0, hargs, rfl, rfl, h0, r0⟩ := trodAll_cons hA
  obtain ⟨v1, vs1, d1, ds1, p1, q1, rfl, rfl, rfl, h1, r1⟩ := trodAll_cons r0
  obtain ⟨rfl, rfl, rfl⟩ := trodAll_nil r1
  obtain rfl : args = #[v0, v1] := by cases args; simp_all
  obtain ⟨rfl, rfl⟩ := trodVars_none hV
  obtain ⟨a0, rfl, rfl, rfl, w0⟩ := open_int Tryd.underlying3 (hval 0 3 v0 rfl rfl) h0
  obtain ⟨a1, rfl, rfl, rfl, w1⟩ := open_int Tryd.underlying3 (hval 1 3 v1 rfl rfl) h1
  have shut : ∀ W', Below W.heap.size W W' → DataW.TrodAll enc Tryd.prog W' 0 (fun b => decide (b < W.heap.size)) true [3, 3] [.int .i64 a0, .int .i64 a1] [.lit (.int .i64 a0), .lit (.int .i64 a1)] ([] ++ ([] ++ [])) := fun W' bel =>
    (trodAll_cons_mk (shut_int Tryd.underlying3 w0) (trodAll_cons_mk (shut_int Tryd.underlying3 w1) trodAll_mk0))
  clear hA0 hval0
  refine (walk W HBD.out a0 w0 a1 w1).mono fun e W' ⟨he, bel⟩ => ?_
  subst he
  simp only [List.append_nil] at hW' shut
  exact ⟨_, rfl, _, _, _, [], [], [], hW', trodAll_mk1 (shut_bool Tryd.underlying4 _), shut W' bel, rfl, bel.frame _, fun h => by cases h⟩

theorem over : Rows.askFramesRow.holds Tryd.pinned (OpenSpec.ofChange Rows.askFramesSpec) :=
  OpenClaim.holds_of_wide 7 Tryd.f7 rfl rfl rfl rfl rfl rfl rfl ⟨rfl, rfl, rfl, rfl, rfl⟩ rfl rfl rfl rfl rfl (by kernel_rfl) Tryd.func7 (by kernel_rfl)
    (of_decide_eq_true (by kernel_rfl)) (by unfold Func.isWrapper; first | (rw [if_pos (by decide +kernel)]; kernel_rfl) | (rw [if_neg (by decide +kernel)]; exact ⟨rfl, rfl⟩))
    (fun os started H enc _ => lifted os started H enc)

theorem askFrames_card : Rows.AskFramesCardSaid :=
  Claim7.holds_tied_plain_at .later [] [.wider] true (true, "ffaf86822ef19d5ae19bd89969a39f6907919f4d08cef1e4c25f54df3748d345") false over (fun _ h => by cases h) (by kernel_rfl) (fun _ h => by cases h) askFrames_row_tie rfl ⟨rfl, rfl⟩ (by kernel_rfl) rfl
    (fun f fn hf hfn => by
      obtain rfl : f = 7 := Option.some.inj ((show Tryd.prog.funcNamed "forerunner/forerunnerlaw15.AskFrames" = some 7 by kernel_rfl).symm.trans hf) |>.symm
      obtain rfl : fn = Tryd.f7 := (Option.some.inj (Tryd.func7.symm.trans hfn)).symm
      exact ⟨by kernel_rfl, fun j t ht => by
        rw [Tryd.params7] at ht
        have hm : t ∈ [3, 3] := by simpa using Array.mem_of_getElem? ht
        have hall : ([3, 3].all fun u => !Tryd.prog.wantsStandIn u) = true := by kernel_rfl
        exact (show Tryd.prog.wantsStandIn t = false by simpa using List.all_eq_true.1 hall t hm)⟩)
    (by kernel_rfl)
#print axioms askFrames_card
end Go.Proofs.YtnhcgnmanonmaaaDoor.askFrames

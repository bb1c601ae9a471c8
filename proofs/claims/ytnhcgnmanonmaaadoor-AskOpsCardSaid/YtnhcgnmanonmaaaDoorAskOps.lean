/- Of any operation, and any disk, whether it may be, and which blocks it is for, is what the document says: the tied card, for every input. -/
import Derived.Test.YtnhcgnmanonmaaaDoorRows
import Derived.WalkKit
import Derived.ProofKit
import Derived.OpenShut
import Derived.Below
import Derived.Test.YtnhcgnmanonmaaaDoorArgs
import Derived.Test.YtnhcgnmanonmaaaDoorLw15
import Derived.Test.YtnhcgnmanonmaaaDoorBd
import Derived.Test.YtnhcgnmanonmaaaDoorTie
import Derived.Test.YtnhcgnmanonmaaaDoorCards
import Derived.Deep.DeepCutAuto
namespace Go.Proofs.YtnhcgnmanonmaaaDoor.askOps
open Go.ChangeShapes Go.WideShapes Go.ChangeAt Go.RowKit
set_option linter.unusedVariables false

theorem own : ownKnob Tryd.prog.godebug = none := by kernel_rfl
theorem laidOut : laidOutB Tryd.prog = true := by kernel_rfl

theorem lexOps : Region.lexB .any (opsAt Tryd.f4 5).toArray = true := by kernel_rfl
set_option maxHeartbeats 1000000 in
theorem walk (w : World) (hb : Bd w) (b : Int) (hwb : (Lit.int .i64 b).wf = true) (o : Opn) (wo : o.Wf) :
    Calls Tryd.prog 4 #[.int .i64 b, o.val] w fun e w' => e = .returned (.bool true) ∧ Below w.heap.size w w' := by
  have HB := Lib.hid hb
  have HO := Lib.hid wo
  have CA := Lib.hid (fun (w0 : World) (i : After w0) => Calls.after i (op_any b o i.val wo.1))
  have CB := Lib.hid (fun (w0 : World) (i : After w0) => Calls.after i (rop_any b o i.val wo.1))
  have CC := Lib.hid (fun (w0 : World) (i : After w0) => Calls.after i (run_any o i.val wo.1))
  have CD := Lib.hid (fun (w0 : World) (i : After w0) => Calls.after i (rrun_any o i.val wo.1))
  clear hb hwb wo
  revert CA CB CC CD
  generalize opC b o = z
  generalize runV o = r
  intro CA CB CC CD
  obtain ⟨k, i, f, c, A, l, p, bl⟩ := o
  unfold Opn.val Rn.val at *
  dsimp only at *
  have OB := Lib.hid ((Only.refl none_ w).alloc (.cells #[.int .i64 k, .int .i64 i, .int .i64 f, .int .i64 c, .slice A l p, .bool bl] 34))
  have RB := Lib.hid (Row.fresh w 34 #[.int .i64 k, .int .i64 i, .int .i64 f, .int .i64 c, .slice A l p, .bool bl])
  go_enter Tryd.func4, Tryd.ntmps4
  go_wp2_with fail
  (with_reducible refine (awake_any _ (HB.out.still OB.out)).mono ?_)
  rintro e w1 ⟨rfl, o⟩
  have O1 := Lib.hid (OB.out.same o)
  have R1 := Lib.hid (o.still RB.out)
  clear o OB RB HB
  obtain ⟨c0, c1, c2, c3, c4, c5⟩ := R1.out.six
  by_cases h : l ≤ 1000
  · clear c0 c1 c2 c3 c4 c5
    have c4 := R1.out.six.2.2.2.2.1
    go_upto_region 5 with fail
    clear c4
    have d0 : ∀ j : After w1, j.val.cell? ⟨w.heap.size, 0, none⟩ = some (.int .i64 k) := fun j => (j.only.still R1.out).six.1
    have d1 : ∀ j : After w1, j.val.cell? ⟨w.heap.size, 1, none⟩ = some (.int .i64 i) := fun j => (j.only.still R1.out).six.2.1
    have d2 : ∀ j : After w1, j.val.cell? ⟨w.heap.size, 2, none⟩ = some (.int .i64 f) := fun j => (j.only.still R1.out).six.2.2.1
    have d3 : ∀ j : After w1, j.val.cell? ⟨w.heap.size, 3, none⟩ = some (.int .i64 c) := fun j => (j.only.still R1.out).six.2.2.2.1
    have d4 : ∀ j : After w1, j.val.cell? ⟨w.heap.size, 4, none⟩ = some (.slice A l p) := fun j => (j.only.still R1.out).six.2.2.2.2.1
    have d5 : ∀ j : After w1, j.val.cell? ⟨w.heap.size, 5, none⟩ = some (.bool bl) := fun j => (j.only.still R1.out).six.2.2.2.2.2
    have er : ∀ w : World, (Op.equalIn 10000 37 (.agg #[.int .i64 r.f, .int .i64 r.c]) (.agg #[.int .i64 r.f, .int .i64 r.c])).run Tryd.prog w = .ok true w := fun w => by rw [eq_rn, decide_eq_true rfl]
    have C1 := Lib.hid (CA.out w1)
    have C2 := Lib.hid (CB.out w1)
    have C3 := Lib.hid (CC.out w1)
    have C4 := Lib.hid (CD.out w1)
    refine wp_region_after (w0 := w1) (by kernel_rfl) (lex_from lexOps (by kernel_rfl)) (Only.refl _ _) ?_
    repeat (go_big_quiet_step (first | (with_reducible exact C1.out _) | (with_reducible exact C2.out _) | (with_reducible exact C3.out _) | (with_reducible exact C4.out _)))
    refine wpQuiet_nil ?_
    intro _ hw'
    obtain ⟨⟨wn, hn⟩, rfl⟩ := hw'
    go_wp2_with fail
    go_ret
    exact ⟨rfl, (O1.out.same hn).to_below⟩
  · go_wp2_with fail
    go_ret
    exact ⟨rfl, O1.out.to_below⟩


set_option maxRecDepth 100000 in
theorem lifted (os : Os) (started : os.Started) (H : Type) (enc : TypeId × Value → H) :
    ReturnsInHanded {} Tryd.checked os 4 .any (fun w args => (Rows.askOpsSpec.pre enc Tryd.prog Tryd.f4 Rows.askOpsRow.domain false w args ∧ laidMetH Tryd.prog laidB w) ∧ sizedMet enc Tryd.prog Tryd.f4 (OpenSpec.ofChange Rows.askOpsSpec) false w args) (Rows.askOpsSpec.post enc Tryd.prog Tryd.f4 false true false false) := by
  refine returnsInHanded_of_change_and (C := Tryd.checked) (X := fun w _ => laidMetH Tryd.prog laidB w) (fun _ _ _ hh h => h.of_heap hh) own started (by kernel_rfl) Tryd.func4
    (ChangeSpec.witness_shaped (enc := enc) (C := Tryd.checked) (os := os) (X := fun w _ => laidMetH Tryd.prog laidB w) false (World.laidAll Tryd.prog os laidB) #[.int .i64 0, .agg #[.int .i64 0, .int .i64 0, .int .i64 0, .int .i64 0, .slice none 0 0, .bool false]] 8 (World.laidAll_os _ _ _)
      (laid_shaped os) (by kernel_rfl) (by kernel_rfl) (by kernel_rfl) (laid_met os _)) ?_
  intro W base args ds gs before hval0 hW _ _ hL _
  have HBD := Lib.hid (bd_of hL)
  have hval : ∀ (j : Nat) t v, Tryd.f4.params[j]? = some t → args[j]? = some v → Value.okWide Tryd.prog W .any base t v := hval0
  have hW' := hW
  obtain ⟨p, q, hA0, hV, rfl, hfz, hnd⟩ := hW
  have hA : DataW.TrodAll enc Tryd.prog W 0 (fun _ => true) true Tryd.f4.params.toList args.toList ds p := hA0
  rw [Tryd.params4] at hA hval
  obtain ⟨v0, vs0, d0, ds0, p0, q0, hargs, rfl, rfl, h0, r0⟩ := trodAll_cons hA
  obtain ⟨v1, vs1, d1, ds1, p1, q1, rfl, rfl, rfl, h1, r1⟩ := trodAll_cons r0
  obtain ⟨rfl, rfl, rfl⟩ := trodAll_nil r1
  obtain rfl : args = #[v0, v1] := by cases args; simp_all
  obtain ⟨rfl, rfl⟩ := trodVars_none hV
  obtain ⟨a0, rfl, rfl, rfl, w0⟩ := open_int Tryd.underlying3 (hval 0 3 v0 rfl rfl) h0
  have o1 := hval 1 34 v1 rfl rfl
  have k1 := h1
  have lt1 : ∀ x ∈ p1, x.block < W.heap.size := by obtain ⟨m, hm⟩ := k1; exact DataW.trod_lt m _ _ _ hm
  obtain ⟨a1, rfl, wa1⟩ := open_opn W base H enc v1 d1 p1 o1 h1
  have shut : ∀ W', Below W.heap.size W W' → DataW.TrodAll enc Tryd.prog W' 0 (fun b => decide (b < W.heap.size)) true [3, 34] [.int .i64 a0, a1.val] [.lit (.int .i64 a0), d1] ([] ++ (p1 ++ [])) := fun W' bel =>
    (trodAll_cons_mk (shut_int Tryd.underlying3 w0) (trodAll_cons_mk (Below.trod laidOut (by kernel_rfl) (of_decide_eq_true (by kernel_rfl)) k1 bel lt1) trodAll_mk0))
  clear hA0 hval0
  refine (walk W HBD.out a0 w0 a1 wa1).mono fun e W' ⟨he, bel⟩ => ?_
  subst he
  exact ⟨_, rfl, _, _, _, [], _, [], hW', trodAll_mk1 (shut_bool Tryd.underlying4 _), shut W' bel, rfl, bel.frame _, fun h => by cases h⟩

theorem over : Rows.askOpsRow.holds Tryd.pinned (OpenSpec.ofChange Rows.askOpsSpec) :=
  OpenClaim.holds_of_wide 4 Tryd.f4 rfl rfl rfl rfl rfl rfl rfl ⟨rfl, rfl, rfl, rfl, rfl⟩ rfl rfl rfl rfl rfl (by kernel_rfl) Tryd.func4 (by kernel_rfl)
    (of_decide_eq_true (by kernel_rfl)) (by unfold Func.isWrapper; first | (rw [if_pos (by decide +kernel)]; kernel_rfl) | (rw [if_neg (by decide +kernel)]; exact ⟨rfl, rfl⟩))
    (fun os started H enc _ => lifted os started H enc)

theorem askOps_card : Rows.AskOpsCardSaid :=
  Claim7.holds_tied_plain_at .later [] [.wider] true (true, "ffaf86822ef19d5ae19bd89969a39f6907919f4d08cef1e4c25f54df3748d345") false over (fun _ h => by cases h) (by kernel_rfl) (fun _ h => by cases h) askOps_row_tie rfl ⟨rfl, rfl⟩ (by kernel_rfl) rfl
    (fun f fn hf hfn => by
      obtain rfl : f = 4 := Option.some.inj ((show Tryd.prog.funcNamed "forerunner/forerunnerlaw15.AskOps" = some 4 by kernel_rfl).symm.trans hf) |>.symm
      obtain rfl : fn = Tryd.f4 := (Option.some.inj (Tryd.func4.symm.trans hfn)).symm
      exact ⟨by kernel_rfl, fun j t ht => by
        rw [Tryd.params4] at ht
        have hm : t ∈ [3, 34] := by simpa using Array.mem_of_getElem? ht
        have hall : ([3, 34].all fun u => !Tryd.prog.wantsStandIn u) = true := by kernel_rfl
        exact (show Tryd.prog.wantsStandIn t = false by simpa using List.all_eq_true.1 hall t hm)⟩)
    (by kernel_rfl)
#print axioms askOps_card
end Go.Proofs.YtnhcgnmanonmaaaDoor.askOps

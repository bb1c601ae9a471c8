/- What may be of a disk may be of a greater one, and its blocks are there; what is beyond its end may be of one that is great enough: the tied card, for every input. -/
import Derived.Test.YtnhcgnmanonmaaaDoorRows
import Derived.WalkKit
import Derived.ProofKit
import Derived.OpenShut
import Derived.Below
import Derived.Test.YtnhcgnmanonmaaaDoorArgs
import Derived.Test.YtnhcgnmanonmaaaDoorLw15
import Derived.Test.YtnhcgnmanonmaaaDoorBd
import Derived.Test.YtnhcgnmanonmaaaDoorTie
import Derived.Test.YtnhcgnmanonmaaaDoorCards
import Derived.Deep.DeepCutAuto
import Derived.Lib.MinMax
namespace Go.Proofs.YtnhcgnmanonmaaaDoor.askGrows
open Go.ChangeShapes Go.WideShapes Go.ChangeAt Go.RowKit
set_option linter.unusedVariables false

theorem own : ownKnob Tryd.prog.godebug = none := by kernel_rfl
theorem laidOut : laidOutB Tryd.prog = true := by kernel_rfl

/-- what the three answers may be, together -/
def Told (k N M e f rf rc : Int) : Prop :=
  (e = 0 ∧ f = 0 ∧ 3 < k ∧ rc = 0 ∧ 0 ≤ rf ∧ rf + rc ≤ N) ∨ (e = 0 ∧ f = 0 ∧ k ≤ 3 ∧ 0 < rc ∧ 0 ≤ rf ∧ rf + rc ≤ N) ∨ (e = 6 ∧ f = 6) ∨
  (e = 6 ∧ f = 0 ∧ 0 < rc ∧ N < rf + rc ∧ rf + rc ≤ M) ∨ (e = 1 ∧ f = 1 ∧ rf = 0 ∧ rc = 0)
theorem told (N M : Int) (h1 : 1 ≤ N) (h2 : N ≤ M) (h3 : M ≤ 256) (o : Opn) : Told o.kind N M (opC N o) (opC M o) (runV o).f (runV o).c := by
  by_cases hm : o.M
  · have e1 : opC N o = if o.R N then 6 else 0 := by unfold opC; rw [if_pos ⟨h1, by omega, hm⟩]
    have e2 : opC M o = if o.R M then 6 else 0 := by unfold opC; rw [if_pos ⟨by omega, h3, hm⟩]
    have e3 : opC 256 o = if o.R 256 then 6 else 0 := by unfold opC; rw [if_pos ⟨by omega, by omega, hm⟩]
    have hb := m_bd hm
    have hk : (3 < o.kind ∧ o.count + (o.len : Int) = 0 ∧ o.first = 0) ∨ (o.kind ≤ 3 ∧ 0 < o.count + (o.len : Int)) := by
      unfold Opn.M at hm
      omega
    by_cases r1 : o.R N
    · by_cases r2 : o.R M
      · exact .inr (.inr (.inl ⟨by rw [e1, if_pos r1], by rw [e2, if_pos r2]⟩))
      · have r3 : ¬ o.R 256 := by unfold Opn.R at *; omega
        have hv : runV o = o.rn := if_pos (by rw [e3, if_neg r3])
        refine .inr (.inr (.inr (.inl ⟨by rw [e1, if_pos r1], by rw [e2, if_neg r2], ?_⟩)))
        rw [hv]
        show 0 < o.count + (o.len : Int) ∧ N < o.first + (o.count + (o.len : Int)) ∧ o.first + (o.count + (o.len : Int)) ≤ M
        unfold Opn.R at *
        omega
    · have r2 : ¬ o.R M := by unfold Opn.R at *; omega
      have r3 : ¬ o.R 256 := by unfold Opn.R at *; omega
      have hv : runV o = o.rn := if_pos (by rw [e3, if_neg r3])
      have q1 : opC N o = 0 := by rw [e1, if_neg r1]
      have q2 : opC M o = 0 := by rw [e2, if_neg r2]
      rw [hv, q1, q2]
      unfold Told
      show (_ ∧ _ ∧ 3 < o.kind ∧ o.count + (o.len : Int) = 0 ∧ 0 ≤ o.first ∧ o.first + (o.count + (o.len : Int)) ≤ N) ∨ (_ ∧ _ ∧ o.kind ≤ 3 ∧ 0 < o.count + (o.len : Int) ∧ 0 ≤ o.first ∧ o.first + (o.count + (o.len : Int)) ≤ N) ∨ _
      unfold Opn.R at *
      omega
  · have e1 : ∀ b, opC b o = 1 := fun b => if_neg (fun h => hm h.2.2)
    have hv : runV o = ⟨0, 0⟩ := if_neg (by rw [e1]; decide)
    rw [e1, e1, hv]
    exact .inr (.inr (.inr (.inr ⟨rfl, rfl, rfl, rfl⟩)))
set_option maxHeartbeats 2000000 in
theorem walk (w : World) (hb : Bd w) (b : Int) (h1 : (Lit.int .u8 b).wf = true) (m : Int) (h2 : (Lit.int .u8 m).wf = true) (o : Opn) (wo : o.Wf) :
    Calls Tryd.prog 5 #[.int .u8 b, .int .u8 m, o.val] w fun e w' => e = .returned (.bool true) ∧ Below w.heap.size w w' := by
  have hb8 := bd_u8 h1
  have hm8 := bd_u8 h2
  have TL := Lib.hid (told (1 + b) (min (1 + b + m) 256) (by omega) (by omega) (by omega) o)
  have CA := Lib.hid (fun w' => op_any (1 + b) o w' wo.1)
  have CB := Lib.hid (fun w' => op_any (min (1 + b + m) 256) o w' wo.1)
  have CC := Lib.hid (fun w' => run_any o w' wo.1)
  clear h1 h2 wo
  revert TL CA CB CC
  generalize opC (1 + b) o = z1
  generalize opC (min (1 + b + m) 256) o = z2
  generalize runV o = r
  obtain ⟨k, i, f, c, A, l, p, bl⟩ := o
  obtain ⟨rf, rc⟩ := r
  intro TL CA CB CC
  unfold Opn.val Rn.val at *
  dsimp only at *
  have OB := Lib.hid ((Only.refl none_ w).alloc (.cells #[.int .i64 k, .int .i64 i, .int .i64 f, .int .i64 c, .slice A l p, .bool bl] 34))
  have RB := Lib.hid (Row.fresh w 34 #[.int .i64 k, .int .i64 i, .int .i64 f, .int .i64 c, .slice A l p, .bool bl])
  go_enter Tryd.func5, Tryd.ntmps5
  go_wp2_with fail
  (with_reducible refine (awake_any _ (hb.still OB.out)).mono ?_)
  rintro e w1 ⟨rfl, o⟩
  have O1 := Lib.hid (OB.out.same o)
  have R1 := Lib.hid (o.still RB.out)
  clear o OB RB hb
  obtain ⟨c0, c1, c2, c3, c4, c5⟩ := R1.out.six
  by_cases h : l ≤ 1000
  · go_wp2_with fail
    (with_reducible refine (CA.out _).mono ?_)
    rintro e w2 ⟨rfl, o⟩
    have O2 := Lib.hid (O1.out.same o)
    have R2 := Lib.hid (o.still R1.out)
    clear o O1 R1 c0 c1 c2 c3 c4 c5 CA h
    obtain ⟨c0, c1, c2, c3, c4, c5⟩ := R2.out.six
    go_wp2_with fail
    (with_reducible refine (CB.out _).mono ?_)
    rintro e w3 ⟨rfl, o⟩
    have O3 := Lib.hid (O2.out.same o)
    have R3 := Lib.hid (o.still R2.out)
    clear o O2 R2 c0 c1 c2 c3 c4 c5 CB
    obtain ⟨c0, c1, c2, c3, c4, c5⟩ := R3.out.six
    go_wp2_with fail
    (with_reducible refine (CC.out _).mono ?_)
    rintro e w4 ⟨rfl, o⟩
    have O4 := Lib.hid ((O3.out.same o).alloc (.cells #[.int .i64 rf, .int .i64 rc] 37))
    have k0 := ((o.still R3.out).alloc (.cells #[.int .i64 rf, .int .i64 rc] 37)).six.1
    clear o O3 R3 c0 c1 c2 c3 c4 c5 CC
    have er : ∀ w : World, _ := fun w => eq_rn ⟨0, 0⟩ ⟨0, 0⟩ w
    simp only [decide_true] at er
    rcases TL.out with ⟨rfl, rfl, q1, rfl, q2, q3⟩ | ⟨rfl, rfl, q1, q2, q3, q4⟩ | ⟨rfl, rfl⟩ | ⟨rfl, rfl, q1, q2, q3⟩ | ⟨rfl, rfl, rfl, rfl⟩
    · clear TL
      have t1 : decide (rf ≤ 1 + b) = true := decide_eq_true (by omega)
      go_wp2_with fail
      go_ret
      exact ⟨rfl, O4.out.to_below⟩
    · clear TL
      have t1 : decide (3 < k) = false := decide_eq_false (by omega)
      have t2 : decide (rf + rc ≤ 1 + b) = true := decide_eq_true (by omega)
      have n0 : (rc == 0) = false := by simp; omega
      go_wp2_with fail
      go_ret
      exact ⟨rfl, O4.out.to_below⟩
    · clear TL
      go_wp2_with fail
      go_ret
      exact ⟨rfl, O4.out.to_below⟩
    · clear TL
      have t1 : decide (0 < rc) = true := decide_eq_true (by omega)
      have t2 : decide (1 + b < rf + rc) = true := decide_eq_true (by omega)
      have t3 : decide (rf + rc ≤ min (1 + b + m) 256) = true := decide_eq_true q3
      go_wp2_with fail
      go_ret
      exact ⟨rfl, O4.out.to_below⟩
    · clear TL
      go_wp2_with fail
      go_ret
      exact ⟨rfl, O4.out.to_below⟩
  · go_wp2_with fail
    go_ret
    exact ⟨rfl, O1.out.to_below⟩


set_option maxRecDepth 100000 in
theorem lifted (os : Os) (started : os.Started) (H : Type) (enc : TypeId × Value → H) :
    ReturnsInHanded {} Tryd.checked os 5 .any (fun w args => (Rows.askGrowsSpec.pre enc Tryd.prog Tryd.f5 Rows.askGrowsRow.domain false w args ∧ laidMetH Tryd.prog laidB w) ∧ sizedMet enc Tryd.prog Tryd.f5 (OpenSpec.ofChange Rows.askGrowsSpec) false w args) (Rows.askGrowsSpec.post enc Tryd.prog Tryd.f5 false true false false) := by
  refine returnsInHanded_of_change_and (C := Tryd.checked) (X := fun w _ => laidMetH Tryd.prog laidB w) (fun _ _ _ hh h => h.of_heap hh) own started (by kernel_rfl) Tryd.func5
    (ChangeSpec.witness_shaped (enc := enc) (C := Tryd.checked) (os := os) (X := fun w _ => laidMetH Tryd.prog laidB w) false (World.laidAll Tryd.prog os laidB) #[.int .u8 0, .int .u8 0, .agg #[.int .i64 0, .int .i64 0, .int .i64 0, .int .i64 0, .slice none 0 0, .bool false]] 8 (World.laidAll_os _ _ _)
      (laid_shaped os) (by kernel_rfl) (by kernel_rfl) (by kernel_rfl) (laid_met os _)) ?_
  intro W base args ds gs before hval0 hW _ _ hL _
  have HBD := Lib.hid (bd_of hL)
  have hval : ∀ (j : Nat) t v, Tryd.f5.params[j]? = some t → args[j]? = some v → Value.okWide Tryd.prog W .any base t v := hval0
  have hW' := hW
  obtain ⟨p, q, hA0, hV, rfl, hfz, hnd⟩ := hW
  have hA : DataW.TrodAll enc Tryd.prog W 0 (fun _ => true) true Tryd.f5.params.toList args.toList ds p := hA0
  rw [Tryd.params5] at hA hval
  obtain ⟨v0, vs0, d0, ds0, p0, q0, hargs, rfl, rfl, h0, r0⟩ := trodAll_cons hA
  obtain ⟨v1, vs1, d1, ds1, p1, q1, rfl, rfl, rfl, h1, r1⟩ := trodAll_cons r0
  obtain ⟨v2, vs2, d2, ds2, p2, q2, rfl, rfl, rfl, h2, r2⟩ := trodAll_cons r1
  obtain ⟨rfl, rfl, rfl⟩ := trodAll_nil r2
  obtain rfl : args = #[v0, v1, v2] := by cases args; simp_all
  obtain ⟨rfl, rfl⟩ := trodVars_none hV
  obtain ⟨a0, rfl, rfl, rfl, w0⟩ := open_int Tryd.underlying5 (hval 0 5 v0 rfl rfl) h0
  obtain ⟨a1, rfl, rfl, rfl, w1⟩ := open_int Tryd.underlying5 (hval 1 5 v1 rfl rfl) h1
  have o2 := hval 2 34 v2 rfl rfl
  have k2 := h2
  have lt2 : ∀ x ∈ p2, x.block < W.heap.size := by obtain ⟨m, hm⟩ := k2; exact DataW.trod_lt m _ _ _ hm
  obtain ⟨a2, rfl, wa2⟩ := open_opn W base H enc v2 d2 p2 o2 h2
  have shut : ∀ W', Below W.heap.size W W' → DataW.TrodAll enc Tryd.prog W' 0 (fun b => decide (b < W.heap.size)) true [5, 5, 34] [.int .u8 a0, .int .u8 a1, a2.val] [.lit (.int .u8 a0), .lit (.int .u8 a1), d2] ([] ++ ([] ++ (p2 ++ []))) := fun W' bel =>
    (trodAll_cons_mk (shut_int Tryd.underlying5 w0) (trodAll_cons_mk (shut_int Tryd.underlying5 w1) (trodAll_cons_mk (Below.trod laidOut (by kernel_rfl) (of_decide_eq_true (by kernel_rfl)) k2 bel lt2) trodAll_mk0)))
  clear hA0 hval0
  refine (walk W HBD.out a0 w0 a1 w1 a2 wa2).mono fun e W' ⟨he, bel⟩ => ?_
  subst he
  exact ⟨_, rfl, _, _, _, [], _, [], hW', trodAll_mk1 (shut_bool Tryd.underlying4 _), shut W' bel, rfl, bel.frame _, fun h => by cases h⟩

theorem over : Rows.askGrowsRow.holds Tryd.pinned (OpenSpec.ofChange Rows.askGrowsSpec) :=
  OpenClaim.holds_of_wide 5 Tryd.f5 rfl rfl rfl rfl rfl rfl rfl ⟨rfl, rfl, rfl, rfl, rfl⟩ rfl rfl rfl rfl rfl (by kernel_rfl) Tryd.func5 (by kernel_rfl)
    (of_decide_eq_true (by kernel_rfl)) (by unfold Func.isWrapper; first | (rw [if_pos (by decide +kernel)]; kernel_rfl) | (rw [if_neg (by decide +kernel)]; exact ⟨rfl, rfl⟩))
    (fun os started H enc _ => lifted os started H enc)

theorem askGrows_card : Rows.AskGrowsCardSaid :=
  Claim7.holds_tied_plain_at .later [] [.wider] true (true, "ffaf86822ef19d5ae19bd89969a39f6907919f4d08cef1e4c25f54df3748d345") false over (fun _ h => by cases h) (by kernel_rfl) (fun _ h => by cases h) askGrows_row_tie rfl ⟨rfl, rfl⟩ (by kernel_rfl) rfl
    (fun f fn hf hfn => by
      obtain rfl : f = 5 := Option.some.inj ((show Tryd.prog.funcNamed "forerunner/forerunnerlaw15.AskGrows" = some 5 by kernel_rfl).symm.trans hf) |>.symm
      obtain rfl : fn = Tryd.f5 := (Option.some.inj (Tryd.func5.symm.trans hfn)).symm
      exact ⟨by kernel_rfl, fun j t ht => by
        rw [Tryd.params5] at ht
        have hm : t ∈ [5, 5, 34] := by simpa using Array.mem_of_getElem? ht
        have hall : ([5, 5, 34].all fun u => !Tryd.prog.wantsStandIn u) = true := by kernel_rfl
        exact (show Tryd.prog.wantsStandIn t = false by simpa using List.all_eq_true.1 hall t hm)⟩)
    (by kernel_rfl)
#print axioms askGrows_card
end Go.Proofs.YtnhcgnmanonmaaaDoor.askGrows

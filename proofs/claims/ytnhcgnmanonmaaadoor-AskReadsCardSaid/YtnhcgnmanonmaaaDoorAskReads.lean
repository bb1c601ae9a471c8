/- A read may be just if it has a number, a count from 1 to 8, and all its blocks are there; of what isn't so the count is told first; as many values may be written: the tied card, for every input. -/
import Derived.Test.YtnhcgnmanonmaaaDoorRows
import Derived.WalkKit
import Derived.ProofKit
import Derived.OpenShut
import Derived.Below
import Derived.Test.YtnhcgnmanonmaaaDoorArgs
import Derived.Test.YtnhcgnmanonmaaaDoorLw15
import Derived.Test.YtnhcgnmanonmaaaDoorBd
import Derived.Test.YtnhcgnmanonmaaaDoorTie
import Derived.Test.YtnhcgnmanonmaaaDoorCards
import Derived.Deep.DeepCutAuto
namespace Go.Proofs.YtnhcgnmanonmaaaDoor.askReads
open Go.ChangeShapes Go.WideShapes Go.ChangeAt Go.RowKit
set_option linter.unusedVariables false

theorem own : ownKnob Tryd.prog.godebug = none := by kernel_rfl
theorem laidOut : laidOutB Tryd.prog = true := by kernel_rfl

theorem c_read (b a c : Int) : opC b ⟨1, 7, a, c, none, 0, 0, false⟩ = if 1 ≤ b ∧ b ≤ 256 ∧ 1 ≤ c ∧ c ≤ 8 then if a < 0 ∨ b < a + c then 6 else 0 else 1 := by
  simp [opC, Opn.M, Opn.R]
theorem c_none (b a c : Int) : opC b ⟨1, 0, a, c, none, 0, 0, false⟩ = 1 := by
  simp [opC, Opn.M]
theorem c_drop (b a c : Int) : opC b ⟨3, 0, a, c, none, 0, 0, false⟩ = if 1 ≤ b ∧ b ≤ 256 ∧ 1 ≤ c ∧ c ≤ 8 then if a < 0 ∨ b < a + c then 6 else 0 else 1 := by
  simp [opC, Opn.M, Opn.R]
theorem c_write (b a : Int) (A : Option Addr) (n p : Nat) : opC b ⟨2, 7, a, 0, A, n, p, false⟩ = if 1 ≤ b ∧ b ≤ 256 ∧ 1 ≤ n ∧ n ≤ 8 then if a < 0 ∨ b < a + n then 6 else 0 else 1 := by
  simp [opC, Opn.M, Opn.R]
theorem k_op2 (b k i a c : Int) (A : Option Addr) (l p : Nat) (bl : Bool) (z : Int) (w : World) (h : opC b ⟨k, i, a, c, A, l, p, bl⟩ = z) (hf : -9223372036854775808 ≤ a ∧ a ≤ 9223372036854775807) :
    Calls Tryd.prog 13 #[.int .i64 b, .agg #[.int .i64 k, .int .i64 i, .int .i64 a, .int .i64 c, .slice A l p, .bool bl]] w fun e w' => e = .returned (.int .i64 z) ∧ Only none_ w w' := k_op b ⟨k, i, a, c, A, l, p, bl⟩ z w h hf
theorem k_run2 (k i a c : Int) (A : Option Addr) (l p : Nat) (bl : Bool) (f n : Int) (w : World) (h : runV ⟨k, i, a, c, A, l, p, bl⟩ = ⟨f, n⟩) (hf : -9223372036854775808 ≤ a ∧ a ≤ 9223372036854775807) :
    Calls Tryd.prog 15 #[.agg #[.int .i64 k, .int .i64 i, .int .i64 a, .int .i64 c, .slice A l p, .bool bl]] w fun e w' => e = .returned (.agg #[.int .i64 f, .int .i64 n]) ∧ Only none_ w w' := k_run ⟨k, i, a, c, A, l, p, bl⟩ ⟨f, n⟩ w h hf
theorem make_vals (n : Nat) (h : n ≤ 8) (w : World) : (Instr.makeSlice 32 (.int .i64 (n : Int)) (.int .i64 (n : Int))).run Tryd.prog w = .ok (.slice (some ⟨w.heap.size, 0, none⟩) n n) (w.alloc (.cells (flat (fun (_ : Unit) => [.int .u64 0]) (List.replicate n ())) 67)) := by
  obtain ⟨i, hi, hz, hs, hb⟩ : ∃ i, Tryd.prog.info? 67 = some i ∧ i.zero = some (.int .u64 0) ∧ i.size = 1 ∧ i.bytes = 8 := ⟨_, rfl, by kernel_rfl, by kernel_rfl, by kernel_rfl⟩
  exact run_make_flat (k := 1) () (fun _ => rfl) (by decide) 32 67 i (.int .u64 0) Tryd.underlying32 hi hz hs rfl .i64 .i64 n (by rw [hb]; omega) (by omega) w
set_option maxHeartbeats 1000000 in
theorem walk_bad (w : World) (hb : Bd w) (b : Int) (hb1 : 0 ≤ b) (hb2 : b ≤ 255) (a : Int) (ha : -9223372036854775808 ≤ a ∧ a ≤ 9223372036854775807) (c : Int) (hc : c < 1 ∨ 8 < c) :
    Calls Tryd.prog 6 #[.int .u8 b, .int .i64 a, .int .i64 c] w fun e w' => e = .returned (.bool true) ∧ Below w.heap.size w w' := by
  have CR := Lib.hid (fun w' => k_op2 (1 + b) 1 7 a c none 0 0 false 1 w' (by rw [c_read, if_neg (by omega)]) ha)
  have CS := Lib.hid (fun w' => k_run2 1 7 a c none 0 0 false 0 0 w' (by unfold runV; rw [c_read, if_neg (by omega)]) ha)
  have er : ∀ w : World, _ := fun w => eq_rn ⟨0, 0⟩ ⟨0, 0⟩ w
  simp only [decide_true] at er
  clear ha
  go_enter Tryd.func6, Tryd.ntmps6
  go_wp2_with fail
  (with_reducible refine (awake_any _ hb).mono ?_)
  rintro e w1 ⟨rfl, o⟩
  have O1 := Lib.hid (o.alloc (.cells #[.int .i64 1, .int .i64 7, .int .i64 a, .int .i64 c, .slice none 0 0, .bool false] 34))
  have R1 := Lib.hid (Row.fresh w1 34 #[.int .i64 1, .int .i64 7, .int .i64 a, .int .i64 c, .slice none 0 0, .bool false])
  clear o hb
  go_wp2_with fail
  (with_reducible refine (CR.out _).mono ?_)
  rintro e w2 ⟨rfl, o⟩
  have O2 := Lib.hid (O1.out.same o)
  have R2 := Lib.hid (o.still R1.out)
  clear o O1 R1 CR
  obtain ⟨c0, c1, c2, c3, c4, c5⟩ := R2.out.six
  rcases hc with hc | hc
  all_goals
    go_wp2_with fail
    (with_reducible refine (CS.out _).mono ?_)
    rintro e w3 ⟨rfl, o⟩
    have O3 := Lib.hid (O2.out.same o)
    clear o
    go_wp2_with fail
    go_ret
    exact ⟨rfl, O3.out.to_below⟩
set_option maxHeartbeats 2000000 in
theorem walk_good (w : World) (hb : Bd w) (b : Int) (hb1 : 0 ≤ b) (hb2 : b ≤ 255) (a : Int) (ha : -9223372036854775808 ≤ a ∧ a ≤ 9223372036854775807) (n : Nat) (hn1 : 1 ≤ n) (hn8 : n ≤ 8) (z : Int)
    (hz : (0 ≤ a ∧ a + n ≤ 1 + b ∧ z = 0) ∨ ((a < 0 ∨ 1 + b < a + n) ∧ z = 6)) :
    Calls Tryd.prog 6 #[.int .u8 b, .int .i64 a, .int .i64 (n : Int)] w fun e w' => e = .returned (.bool true) ∧ Below w.heap.size w w' := by
  have hcc : (if a < 0 ∨ 1 + b < a + (n : Int) then (6 : Int) else 0) = z := by
    rcases hz with ⟨h1, h2, rfl⟩ | ⟨h1, rfl⟩
    · rw [if_neg (by omega)]
    · rw [if_pos h1]
  have CR := Lib.hid (fun w' => k_op2 (1 + b) 1 7 a n none 0 0 false z w' (by rw [c_read, if_pos (by omega)]; exact hcc) ha)
  have CW := Lib.hid (fun (g : Nat) w' => k_op2 (1 + b) 2 7 a 0 (some ⟨g, 0, none⟩) n n false z w' (by rw [c_write, if_pos (by omega)]; exact hcc) ha)
  have CD := Lib.hid (fun w' => k_op2 (1 + b) 3 0 a n none 0 0 false z w' (by rw [c_drop, if_pos (by omega)]; exact hcc) ha)
  have CN := Lib.hid (fun w' => k_op2 (1 + b) 1 0 a n none 0 0 false 1 w' (c_none _ _ _) ha)
  have CS := Lib.hid (fun (h : z = 0) w' => k_run2 1 7 a n none 0 0 false a n w' (by
    have hv : opC 256 ⟨1, 7, a, n, none, 0, 0, false⟩ = 0 := by
      rw [c_read, if_pos (by omega), if_neg (by rcases hz with ⟨h1, h2, _⟩ | ⟨_, h2⟩ <;> omega)]
    unfold runV
    rw [if_pos hv]
    show Rn.mk a ((n : Int) + ((0 : Nat) : Int)) = ⟨a, n⟩
    simp) ha)
  have MV := Lib.hid (make_vals n hn8)
  have er : ∀ w : World, _ := fun w => eq_rn ⟨a, n⟩ ⟨a, n⟩ w
  simp only [decide_true] at er
  have HA := Lib.hid ha
  clear hcc
  go_enter Tryd.func6, Tryd.ntmps6
  go_wp2_with fail
  (with_reducible refine (awake_any _ hb).mono ?_)
  rintro e w1 ⟨rfl, o⟩
  have O1 := Lib.hid (o.alloc (.cells #[.int .i64 1, .int .i64 7, .int .i64 a, .int .i64 (n : Int), .slice none 0 0, .bool false] 34))
  have R1 := Lib.hid (Row.fresh w1 34 #[.int .i64 1, .int .i64 7, .int .i64 a, .int .i64 (n : Int), .slice none 0 0, .bool false])
  clear o hb ha
  go_wp2_with fail
  (with_reducible refine (CR.out _).mono ?_)
  rintro e w2 ⟨rfl, o⟩
  have O2 := Lib.hid (O1.out.same o)
  have R2 := Lib.hid (o.still R1.out)
  clear o O1 R1 CR
  have mv := MV.out
  have hc1 : decide ((n : Int) < 1) = false := decide_eq_false (by omega)
  have hc8 : decide ((8 : Int) < (n : Int)) = false := decide_eq_false (by omega)
  have hd1 : decide (n < 1) = false := decide_eq_false (by omega)
  have hd8 : decide (8 < n) = false := decide_eq_false (by omega)
  go_wp2_with fail
  clear mv
  have O3 := Lib.hid (O2.out.alloc (.cells (flat (fun (_ : Unit) => [.int .u64 0]) (List.replicate n ())) 67))
  have R3 := Lib.hid (R2.out.alloc (.cells (flat (fun (_ : Unit) => [.int .u64 0]) (List.replicate n ())) 67))
  (with_reducible refine (CW.out _ _).mono ?_)
  rintro e w4 ⟨rfl, o⟩
  have O4 := Lib.hid (O3.out.same o)
  have R4 := Lib.hid (o.still R3.out)
  clear o O2 R2 O3 R3 CW MV
  go_wp2_with fail
  (with_reducible refine (CD.out _).mono ?_)
  rintro e w5 ⟨rfl, o⟩
  have O5 := Lib.hid ((O4.out.same o).alloc (.cells #[.int .i64 1, .int .i64 0, .int .i64 a, .int .i64 (n : Int), .slice none 0 0, .bool false] 34))
  have R5 := Lib.hid ((o.still R4.out).alloc (.cells #[.int .i64 1, .int .i64 0, .int .i64 a, .int .i64 (n : Int), .slice none 0 0, .bool false] 34))
  clear o O4 R4 CD
  have ha1 := HA.out.1
  have ha2 := HA.out.2
  rcases hz with ⟨h1, h2, rfl⟩ | ⟨h1, rfl⟩
  · have C := Lib.hid (CS.out rfl)
    have t1 : decide (a ≤ 1 + b - (n : Int)) = true := decide_eq_true (by omega)
    clear CS
    go_wp2_with fail
    (with_reducible refine (CN.out _).mono ?_)
    rintro e w6 ⟨rfl, o⟩
    have O6 := Lib.hid (O5.out.same o)
    have R6 := Lib.hid (o.still R5.out)
    clear o O5 R5 CN
    obtain ⟨c0, c1, c2, c3, c4, c5⟩ := R6.out.six
    go_wp2_with fail
    (with_reducible refine (C.out _).mono ?_)
    rintro e w7 ⟨rfl, o⟩
    have O7 := Lib.hid (O6.out.same o)
    clear o c0 c1 c2 c3 c4 c5
    go_wp2_with fail
    go_ret
    exact ⟨rfl, O7.out.to_below⟩
  · clear CS
    rcases (show a < 0 ∨ (0 ≤ a ∧ 1 + b < a + (n : Int)) by omega) with h | ⟨h, h2⟩
    · clear h1
      go_wp2_with fail
      (with_reducible refine (CN.out _).mono ?_)
      rintro e w6 ⟨rfl, o⟩
      have O6 := Lib.hid (O5.out.same o)
      clear o O5 R5 CN
      go_wp2_with fail
      go_ret
      exact ⟨rfl, O6.out.to_below⟩
    · clear h1
      have t1 : decide (a ≤ 1 + b - (n : Int)) = false := decide_eq_false (by omega)
      go_wp2_with fail
      (with_reducible refine (CN.out _).mono ?_)
      rintro e w6 ⟨rfl, o⟩
      have O6 := Lib.hid (O5.out.same o)
      clear o O5 R5 CN
      go_wp2_with fail
      go_ret
      exact ⟨rfl, O6.out.to_below⟩
theorem walk (w : World) (hb : Bd w) (b : Int) (h1 : (Lit.int .u8 b).wf = true) (a : Int) (h2 : (Lit.int .i64 a).wf = true) (c : Int) (h3 : (Lit.int .i64 c).wf = true) :
    Calls Tryd.prog 6 #[.int .u8 b, .int .i64 a, .int .i64 c] w fun e w' => e = .returned (.bool true) ∧ Below w.heap.size w w' := by
  have hb8 := bd_u8 h1
  have ha := bd_i64 h2
  by_cases hc : c < 1 ∨ 8 < c
  · exact walk_bad w hb b hb8.1 hb8.2 a ha c hc
  · obtain ⟨n, rfl⟩ : ∃ n : Nat, c = n := ⟨c.toNat, by omega⟩
    by_cases hr : a < 0 ∨ 1 + b < a + (n : Int)
    · exact walk_good w hb b hb8.1 hb8.2 a ha n (by omega) (by omega) 6 (.inr ⟨hr, rfl⟩)
    · exact walk_good w hb b hb8.1 hb8.2 a ha n (by omega) (by omega) 0 (.inl ⟨by omega, by omega, rfl⟩)


set_option maxRecDepth 100000 in
theorem lifted (os : Os) (started : os.Started) (H : Type) (enc : TypeId × Value → H) :
    ReturnsInHanded {} Tryd.checked os 6 .any (fun w args => (Rows.askReadsSpec.pre enc Tryd.prog Tryd.f6 Rows.askReadsRow.domain false w args ∧ laidMetH Tryd.prog laidB w) ∧ sizedMet enc Tryd.prog Tryd.f6 (OpenSpec.ofChange Rows.askReadsSpec) false w args) (Rows.askReadsSpec.post enc Tryd.prog Tryd.f6 false true false false) := by
  refine returnsInHanded_of_change_and (C := Tryd.checked) (X := fun w _ => laidMetH Tryd.prog laidB w) (fun _ _ _ hh h => h.of_heap hh) own started (by kernel_rfl) Tryd.func6
    (ChangeSpec.witness_shaped (enc := enc) (C := Tryd.checked) (os := os) (X := fun w _ => laidMetH Tryd.prog laidB w) false (World.laidAll Tryd.prog os laidB) #[.int .u8 0, .int .i64 0, .int .i64 0] 8 (World.laidAll_os _ _ _)
      (laid_shaped os) (by kernel_rfl) (by kernel_rfl) (by kernel_rfl) (laid_met os _)) ?_
  intro W base args ds gs before hval0 hW _ _ hL _
  have HBD := Lib.hid (bd_of hL)
  have hval : ∀ (j : Nat) t v, Tryd.f6.params[j]? = some t → args[j]? = some v → Value.okWide Tryd.prog W .any base t v := hval0
  have hW' := hW
  obtain ⟨p, q, hA0, hV, rfl, hfz, hnd⟩ := hW
  have hA : DataW.TrodAll enc Tryd.prog W 0 (fun _ => true) true Tryd.f6.params.toList args.toList ds p := hA0
  rw [Tryd.params6] at hA hval
  obtain ⟨v0, vs0, d0, ds0, p0, q0, hargs, rfl, rfl, h0, r0⟩ := trodAll_cons hA
  obtain ⟨v1, vs1, d1, ds1, p1, q1, rfl, rfl, rfl, h1, r1⟩ := trodAll_cons r0
  obtain ⟨v2, vs2, d2, ds2, p2, q2, rfl, rfl, rfl, h2, r2⟩ := trodAll_cons r1
  obtain ⟨rfl, rfl, rfl⟩ := trodAll_nil r2
  obtain rfl : args = #[v0, v1, v2] := by cases args; simp_all
  obtain ⟨rfl, rfl⟩ := trodVars_none hV
  obtain ⟨a0, rfl, rfl, rfl, w0⟩ := open_int Tryd.underlying5 (hval 0 5 v0 rfl rfl) h0
  obtain ⟨a1, rfl, rfl, rfl, w1⟩ := open_int Tryd.underlying3 (hval 1 3 v1 rfl rfl) h1
  obtain ⟨a2, rfl, rfl, rfl, w2⟩ := open_int Tryd.underlying3 (hval 2 3 v2 rfl rfl) h2
  have shut : ∀ W', Below W.heap.size W W' → DataW.TrodAll enc Tryd.prog W' 0 (fun b => decide (b < W.heap.size)) true [5, 3, 3] [.int .u8 a0, .int .i64 a1, .int .i64 a2] [.lit (.int .u8 a0), .lit (.int .i64 a1), .lit (.int .i64 a2)] ([] ++ ([] ++ ([] ++ []))) := fun W' bel =>
    (trodAll_cons_mk (shut_int Tryd.underlying5 w0) (trodAll_cons_mk (shut_int Tryd.underlying3 w1) (trodAll_cons_mk (shut_int Tryd.underlying3 w2) trodAll_mk0)))
  clear hA0 hval0
  refine (walk W HBD.out a0 w0 a1 w1 a2 w2).mono fun e W' ⟨he, bel⟩ => ?_
  subst he
  simp only [List.append_nil] at hW' shut
  exact ⟨_, rfl, _, _, _, [], [], [], hW', trodAll_mk1 (shut_bool Tryd.underlying4 _), shut W' bel, rfl, bel.frame _, fun h => by cases h⟩

theorem over : Rows.askReadsRow.holds Tryd.pinned (OpenSpec.ofChange Rows.askReadsSpec) :=
  OpenClaim.holds_of_wide 6 Tryd.f6 rfl rfl rfl rfl rfl rfl rfl ⟨rfl, rfl, rfl, rfl, rfl⟩ rfl rfl rfl rfl rfl (by kernel_rfl) Tryd.func6 (by kernel_rfl)
    (of_decide_eq_true (by kernel_rfl)) (by unfold Func.isWrapper; first | (rw [if_pos (by decide +kernel)]; kernel_rfl) | (rw [if_neg (by decide +kernel)]; exact ⟨rfl, rfl⟩))
    (fun os started H enc _ => lifted os started H enc)

theorem askReads_card : Rows.AskReadsCardSaid :=
  Claim7.holds_tied_plain_at .later [] [.wider] true (true, "ffaf86822ef19d5ae19bd89969a39f6907919f4d08cef1e4c25f54df3748d345") false over (fun _ h => by cases h) (by kernel_rfl) (fun _ h => by cases h) askReads_row_tie rfl ⟨rfl, rfl⟩ (by kernel_rfl) rfl
    (fun f fn hf hfn => by
      obtain rfl : f = 6 := Option.some.inj ((show Tryd.prog.funcNamed "forerunner/forerunnerlaw15.AskReads" = some 6 by kernel_rfl).symm.trans hf) |>.symm
      obtain rfl : fn = Tryd.f6 := (Option.some.inj (Tryd.func6.symm.trans hfn)).symm
      exact ⟨by kernel_rfl, fun j t ht => by
        rw [Tryd.params6] at ht
        have hm : t ∈ [5, 3, 3] := by simpa using Array.mem_of_getElem? ht
        have hall : ([5, 3, 3].all fun u => !Tryd.prog.wantsStandIn u) = true := by kernel_rfl
        exact (show Tryd.prog.wantsStandIn t = false by simpa using List.all_eq_true.1 hall t hm)⟩)
    (by kernel_rfl)
#print axioms askReads_card
end Go.Proofs.YtnhcgnmanonmaaaDoor.askReads

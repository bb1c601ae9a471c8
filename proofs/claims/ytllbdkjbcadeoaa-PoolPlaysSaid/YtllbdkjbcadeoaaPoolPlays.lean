/- Proved: the statement PoolPlays of layer 4, for every number and row of steps, on no condition. -/
import Derived.Test.YtllbdkjbcadeoaaRows
import Derived.WalkKit
import Derived.ProofKit
import Derived.OpenShut
import Derived.Below
import Derived.Test.YtllbdkjbcadeoaaArgs
import Derived.Test.YtllbdkjbcadeoaaActs
import Derived.Test.YtllbdkjbcadeoaaOwn
import Derived.Deep.QuietTactic
import Derived.BigQuiet
namespace Go.Proofs.Ytllbdkjbcadeoaa.poolPlays
open Go.ChangeShapes Go.WideShapes Go.ChangeAt Go.RowKit
set_option linter.unusedVariables false

theorem own : ownKnob Try.prog.godebug = none := by kernel_rfl
theorem laidOut : laidOutB Try.prog = true := by kernel_rfl

set_option maxHeartbeats 8000000 in
set_option maxRecDepth 100000 in
theorem outside (w : World) (n : Int) (A : Option Addr) (len cap : Nat) (hn : n < 1 ∨ 64 < n) :
    Calls Try.prog 3 #[.int .i64 n, .slice A len cap] w fun e w' => e = .returned (.bool true) ∧ Below w.heap.size w w' := by
  have t12 : decide (n < 1) = true ∨ (decide (n < 1) = false ∧ decide (64 < n) = true) := by
    rcases hn with h | h
    · exact .inl (by simpa using h)
    · by_cases q : n < 1
      · exact .inl (by simpa using q)
      · exact .inr ⟨by simpa using q, by simpa using h⟩
  have N := Lib.hid (fun w => new_no n w hn)
  clear hn
  rcases t12 with t1 | ⟨t1, t2⟩
  all_goals
    go_enter Try.func3, Try.ntmps3
    go_wp2_with fail
    (with_reducible refine (awake_any _).mono ?_)
    rintro e w1 ⟨rfl, b1⟩
    have B1 := Lib.hid b1
    clear b1
    go_wp2_with fail
    (with_reducible refine (N.out _).mono ?_)
    rintro e w2 ⟨rfl, o⟩
    have B2 := Lib.hid (Only.below_to B1.out o (Nat.le_refl _) (fun _ _ s => s))
    clear o B1
    go_wp2_with fail
    go_ret
    exact ⟨rfl, B2.out⟩

set_option maxHeartbeats 8000000 in
set_option maxRecDepth 100000 in
theorem inside (w : World) (n : Nat) (n1 : 1 ≤ n) (n64 : n ≤ 64) (A : Option Addr) (len cap : Nat) (xs : List Act1) (hmax : len ≤ maxLen) (hlen : xs.length = len) (hold : Holds w A 4 Act1.cells xs) :
    Calls Try.prog 3 #[.int .i64 n, .slice A len cap] w fun e w' => e = .returned (.bool true) ∧ Below w.heap.size w w' := by
  have t1 : decide ((n : Int) < 1) = false := by simp; omega
  have t2 : decide ((64 : Int) < n) = false := by simp; omega
  have qa := run_eq_arr4 9998
  unfold maxLen at hmax
  have HL := Lib.hid hlen
  have HO := Lib.hid hold
  clear hlen hold
  go_enter Try.func3, Try.ntmps3
  go_wp2_with fail
  (with_reducible refine (awake_any _).mono ?_)
  rintro e w1 ⟨rfl, b1⟩
  have B1 := Lib.hid b1
  clear b1
  go_wp2_with fail
  (with_reducible refine (new_yes n _ n1 n64).mono ?_)
  rintro e w2 ⟨p, b, rfl, h, kp, kb, o⟩
  have H2 := Lib.hid h
  have B2 := Lib.hid (Only.below_to B1.out o (Nat.le_refl _) (fun _ _ s => s))
  have kb' : w.heap.size ≤ b := Nat.le_trans B1.out.size kb
  clear h o kp kb B1
  go_wp2_with fail
  (with_reducible refine (refNew n _ n64).mono ?_)
  rintro e w3 ⟨rfl, h3, o3⟩
  have HB := Lib.hid (Both.fresh_ H2.out h3 o3)
  have B3 := Lib.hid (Only.below_to B2.out o3 (Nat.le_refl _) (fun _ _ s => s))
  have kc' : w.heap.size ≤ w2.heap.size := B2.out.size
  clear h3 o3 H2
  generalize w2.heap.size = c at *
  go_wp2_with fail
  go_loopw [8] (fun i wr => ∃ (j : Nat) (fs : List Fr), j ≤ len ∧ j ≤ 100 ∧ i = .int .i64 j ∧ Both wr p b (c + 1) c fs fs ∧ Fine j fs ∧ fs.length = n ∧ Below w.heap.size w wr) (fun i _ => len - (intOf i).toNat)
  case atStart => exact ⟨0, fresh n, Nat.zero_le _, Nat.zero_le _, rfl, HB.out, fresh_fine n, fresh_len n, B3.out⟩
  case round =>
    obtain ⟨j, fs, hj, hj2, rfl, h, hF, hn, bl⟩ := hrel
    have H := Lib.hid h
    have HF := Lib.hid hF
    have HN := Lib.hid hn
    have B := Lib.hid bl
    clear h bl hF hn
    have t12 : (j < len ∧ j < 100) ∨ (j < len ∧ 100 ≤ j) ∨ len ≤ j := by omega
    rcases t12 with ⟨h1, h2⟩ | ⟨h1, h2⟩ | h1
    · have u1 : decide ((j : Int) < (len : Int)) = true := by simp; omega
      have u2 : decide ((j : Int) < 100) = true := by simp; omega
      obtain ⟨act, hact⟩ : ∃ act, xs[j]? = some act := ⟨_, List.getElem?_eq_getElem (by rw [HL.out]; exact h1)⟩
      obtain ⟨sb, so, hA, hsb, c0, c1, c2, c3⟩ := act_at HO.out B.out hact
      have F6 := Lib.hid (HF.out.mono (show (j : Int) ≤ 1000000 by omega))
      have F7 := Lib.hid ((step_fine act HF.out).mono (show (j : Int) + 1 ≤ 1000000 by omega))
      have F8 := Lib.hid (step_fine act HF.out)
      have HL2 := Lib.hid ((step_len act HF.out).trans HN.out)
      subst hA
      clear hact
      go_wp2_with fail
      (with_reducible refine (step_call p b _ _ fs fs act _ H.out F6.out F6.out).mono ?_)
      rintro e w4 ⟨r, rfl, hr, hb4, o4⟩
      obtain rfl := hr rfl
      have H4 := Lib.hid hb4
      have B4 := Lib.hid (Only.below_to B.out o4 (Nat.le_refl _) (fun i hi e => by rcases e with e | e <;> omega))
      clear o4 hb4 hr c0 c1 c2 c3
      generalize stepS fs act = gs at *
      have CA := Lib.hid (cnt_all F7.out)
      go_wp2_with fail
      (with_reducible refine (count_any p b gs _ H4.out.one F7.out).mono ?_)
      rintro e w5 ⟨rfl, o⟩
      have H5 := Lib.hid (H4.out.still o)
      have B5 := Lib.hid (Only.below_to B4.out o (Nat.le_refl _) (fun _ _ s => s))
      clear o
      go_wp2_with fail
      (with_reducible refine (refCount _ _ gs _ H5.out.two F7.out).mono ?_)
      rintro e w6 ⟨rfl, o⟩
      have H6 := Lib.hid (H5.out.still o)
      have B6 := Lib.hid (Only.below_to B5.out o (Nat.le_refl _) (fun _ _ s => s))
      clear o
      unfold counts
      go_wp2_with fail
      (with_reducible refine (pins_any p b gs _ H6.out.one F7.out).mono ?_)
      rintro e w7 ⟨rfl, o⟩
      have H7 := Lib.hid (H6.out.still o)
      have B7 := Lib.hid (Only.below_to B6.out o (Nat.le_refl _) (fun _ _ s => s))
      clear o
      go_wp2_with fail
      (with_reducible refine (refPins _ _ gs _ H7.out.two F7.out).mono ?_)
      rintro e w' ⟨rfl, rfl⟩
      go_wp2_with fail
      go_loopw [9, 10, 11] (fun i _ _ wx => ∃ t : Nat, t ≤ n + 2 ∧ i = .int .i64 ((t : Int) - 1) ∧ Both wx p b (c + 1) c gs gs ∧ Below w.heap.size w wx) (fun i _ _ _ => (n + 1 - (intOf i)).toNat)
      case atStart => exact ⟨0, by omega, rfl, H7.out, B7.out⟩
      case round =>
        obtain ⟨t, ht, rfl, h, bl⟩ := hrel
        have H8 := Lib.hid h
        have B8 := Lib.hid bl
        clear h bl
        rcases (show t = 0 ∨ (1 ≤ t ∧ t ≤ n) ∨ t = n + 1 ∨ t = n + 2 by omega) with rfl | ⟨ha, hb⟩ | rfl | rfl
        · rw [show (((0 : Nat) : Int) - 1) = -1 by omega]
          go_wp2_with fail
          (with_reducible refine (frame_no p b gs _ _ H8.out.one (.inl (by decide))).mono ?_)
          rintro e w8 ⟨rfl, o⟩
          have H9 := Lib.hid ((H8.out.still o).still ((Only.refl none_ w8).alloc (.cells #[.int .i64 0, .int .i64 0, .int .i64 0, .int .i64 0, .int .u64 0] 38)))
          have B9 := Lib.hid ((Only.below_to B8.out o (Nat.le_refl _) (fun _ _ s => s)).alloc (Nat.le_trans B8.out.size o.size) (.cells #[.int .i64 0, .int .i64 0, .int .i64 0, .int .i64 0, .int .u64 0] 38))
          clear o
          go_wp2_with fail
          go_quiet (fail)
          go_wp2_with fail
          exact ⟨⟨1, by omega, rfl, H9.out.still ((Only.refl none_ _).drewN _), below_n B9.out _⟩, by simp [intOf]; omega⟩
        · obtain ⟨q, rfl⟩ : ∃ q, t = q + 1 := ⟨t - 1, by omega⟩
          rw [show (((q + 1 : Nat) : Int) - 1) = (q : Int) by omega]
          obtain ⟨g, hg⟩ : ∃ g, gs[q]? = some g := ⟨_, List.getElem?_eq_getElem (by rw [HL2.out]; omega)⟩
          obtain ⟨gs_, gk, gg, gp, gv⟩ := g
          have HG := Lib.hid hg
          have ql : q < gs.length := by rw [HL2.out]; omega
          have qi : (q : Int) < (gs.length : Int) := by omega
          have q0 : decide ((0 : Int) ≤ (q : Int)) = true := by simp
          have q1 : decide ((q : Int) < (n : Int)) = true := by simp; omega
          have q2 : decide (q < n) = true := by simp; omega
          clear hg
          go_wp2_with fail
          (with_reducible refine (frame_eq HG.out _ H8.out.one).mono ?_)
          rintro e w8 ⟨rfl, o⟩
          have H9 := Lib.hid ((H8.out.still o).still ((Only.refl none_ w8).alloc (.cells #[.int .i64 gs_, .int .i64 gk, .int .i64 gg, .int .i64 gp, .int .u64 gv] 38)))
          have B9 := Lib.hid ((Only.below_to B8.out o (Nat.le_refl _) (fun _ _ s => s)).alloc (Nat.le_trans B8.out.size o.size) (.cells #[.int .i64 gs_, .int .i64 gk, .int .i64 gg, .int .i64 gp, .int .u64 gv] 38))
          have R9 := Lib.hid (Row.fresh w8 38 #[.int .i64 gs_, .int .i64 gk, .int .i64 gg, .int .i64 gp, .int .u64 gv])
          clear o
          go_wp2_with fail
          generalize w8.alloc (.cells #[.int .i64 gs_, .int .i64 gk, .int .i64 gg, .int .i64 gp, .int .u64 gv] 38) = w9 at *
          generalize w8.heap.size = nf at *
          obtain ⟨r0, r1, r2, r3, r4⟩ := R9.out.five
          have rh := H9.out.two.hd
          obtain ⟨d0, d1, d2, d3, d4⟩ := H9.out.two.at_ HG.out
          go_quiet (fail)
          clear r0 r1 r2 r3 r4 d0 d1 d2 d3 d4 rh
          go_wp2_with fail
          exact ⟨⟨q + 2, by omega, by go_num, H9.out.still ((Only.refl none_ _).drewN _), below_n B9.out _⟩, by simp [intOf]; omega⟩
        · rw [show (((n + 1 : Nat) : Int) - 1) = (n : Int) by omega]
          have q0 : decide ((0 : Int) ≤ (n : Int)) = true := by simp
          go_wp2_with fail
          (with_reducible refine (frame_no p b gs _ _ H8.out.one (.inr (by rw [HL2.out]; omega))).mono ?_)
          rintro e w8 ⟨rfl, o⟩
          have H9 := Lib.hid ((H8.out.still o).still ((Only.refl none_ w8).alloc (.cells #[.int .i64 0, .int .i64 0, .int .i64 0, .int .i64 0, .int .u64 0] 38)))
          have B9 := Lib.hid ((Only.below_to B8.out o (Nat.le_refl _) (fun _ _ s => s)).alloc (Nat.le_trans B8.out.size o.size) (.cells #[.int .i64 0, .int .i64 0, .int .i64 0, .int .i64 0, .int .u64 0] 38))
          clear o
          go_wp2_with fail
          go_quiet (fail)
          go_wp2_with fail
          exact ⟨⟨n + 2, by omega, by go_num, H9.out.still ((Only.refl none_ _).drewN _), below_n B9.out _⟩, by simp [intOf]⟩
        · rw [show (((n + 2 : Nat) : Int) - 1) = (n : Int) + 1 by omega]
          have q0 : decide ((n : Int) + 1 ≤ (n : Int)) = false := by simp; omega
          have KK := CA.out
          have CL := Lib.hid (show ((cnt gs 0 : Int) + cnt gs 1 + cnt gs 2 + cnt gs 3) = n by rw [← HL2.out]; omega)
          have l0 := cnt_le gs 0
          have l1 := cnt_le gs 1
          have l2 := cnt_le gs 2
          have l3 := cnt_le gs 3
          rw [HL2.out] at l0 l1 l2 l3
          clear KK
          go_wp2_with fail
          (with_reducible refine (count_any p b gs _ H8.out.one F7.out).mono ?_)
          rintro e w8 ⟨rfl, o⟩
          have H9 := Lib.hid (H8.out.still o)
          have B9 := Lib.hid (Only.below_to B8.out o (Nat.le_refl _) (fun _ _ s => s))
          clear o
          unfold counts
          generalize cnt gs 0 = k0 at *
          generalize cnt gs 1 = k1 at *
          generalize cnt gs 2 = k2 at *
          generalize cnt gs 3 = k3 at *
          have SS := CL.out
          have s1 : (((k0 : Int) + k1 + k2 + k3) != (n : Int)) = false := by rw [SS]; simp
          clear SS
          go_wp2_with fail
          exact ⟨⟨j + 1, gs, by omega, by omega, by go_num, H9.out.still ((Only.refl none_ _).alloc _), F8.out.mono (by omega), HL2.out, B9.out.alloc B9.out.size _⟩, by simp [intOf]; omega⟩
    · go_wp2_with fail
      go_ret
      exact ⟨rfl, B.out⟩
    · go_wp2_with fail
      go_ret
      exact ⟨rfl, B.out⟩

theorem walk (w : World) (n : Int) (wn : (Lit.int .i64 n).wf = true) (A : Option Addr) (len cap : Nat) (xs : List Act1) (hmax : len ≤ maxLen) (hlen : xs.length = len) (hold : Holds w A 4 Act1.cells xs) (_ : ∀ a ∈ xs, True) :
    Calls Try.prog 3 #[.int .i64 n, .slice A len cap] w fun e w' => e = .returned (.bool true) ∧ Below w.heap.size w w' := by
  by_cases h : n < 1 ∨ 64 < n
  · exact outside w n A len cap h
  · obtain ⟨m, rfl⟩ : ∃ m : Nat, n = m := ⟨n.toNat, by omega⟩
    exact inside w m (by omega) (by omega) A len cap xs hmax hlen hold


set_option maxRecDepth 100000 in
theorem lifted (os : Os) (started : os.Started) (H : Type) (enc : TypeId × Value → H) :
    ReturnsInHanded {} Try.checked os 3 .any (Rows.poolPlaysSpec.pre6 enc Try.prog Try.f3 Rows.poolPlaysRow.domain false) (Rows.poolPlaysSpec.post enc Try.prog Try.f3 false true false false) := by
  refine returnsInHanded_of_change (C := Try.checked) own started (by kernel_rfl) Try.func3
    (ChangeSpec.witness6 (enc := enc) (C := Try.checked) false ⟨#[], #[.int .i64 0, .slice none 0 0], []⟩ 8 (by kernel_rfl) (by kernel_rfl) (by kernel_rfl) (by kernel_rfl)) ?_
  intro W base args ds gs before hval0 hW hcnd _
  have hval : ∀ (j : Nat) t v, Try.f3.params[j]? = some t → args[j]? = some v → Value.okWide Try.prog W .any base t v := hval0
  have hW' := hW
  obtain ⟨p, q, hA0, hV, rfl, hfz, hnd⟩ := hW
  have hA : DataW.TrodAll enc Try.prog W 0 (fun _ => true) true Try.f3.params.toList args.toList ds p := hA0
  rw [Try.params3] at hA hval
  obtain ⟨v0, vs0, d0, ds0, p0, q0, hargs, rfl, rfl, h0, r0⟩ := trodAll_cons hA
  obtain ⟨v1, vs1, d1, ds1, p1, q1, rfl, rfl, rfl, h1, r1⟩ := trodAll_cons r0
  obtain ⟨rfl, rfl, rfl⟩ := trodAll_nil r1
  obtain rfl : args = #[v0, v1] := by cases args; simp_all
  obtain ⟨rfl, rfl⟩ := trodVars_none hV
  obtain ⟨a0, rfl, rfl, rfl, w0⟩ := open_int Try.underlying3 (hval 0 3 v0 rfl rfl) h0
  have k1 := h1
  have lt1 : ∀ x ∈ p1, x.block < W.heap.size := by obtain ⟨m, hm⟩ := k1; exact DataW.trod_lt m _ _ _ hm
  obtain ⟨ad1, len1, cap1, rfl⟩ := okWide_slice Try.underlying22 (hval 1 22 v1 rfl rfl)
  obtain ⟨fuel1, hf1⟩ := h1
  obtain ⟨max1, xs1, el1, hold1, wf1⟩ := open_acts hf1
  have shut : ∀ W', Below W.heap.size W W' → DataW.TrodAll enc Try.prog W' 0 (fun b => decide (b < W.heap.size)) true [3, 22] [.int .i64 a0, .slice ad1 len1 cap1] [.lit (.int .i64 a0), d1] ([] ++ (p1 ++ [])) := fun W' bel =>
    (trodAll_cons_mk (shut_int Try.underlying3 w0) (trodAll_cons_mk (Below.trod laidOut (by kernel_rfl) (of_decide_eq_true (by kernel_rfl)) k1 bel lt1) trodAll_mk0))
  clear hA0 hval0
  refine (walk W a0 w0 ad1 len1 cap1 xs1 max1 el1 hold1 wf1).mono fun e W' ⟨he, bel⟩ => ?_
  subst he
  exact ⟨_, rfl, _, _, _, [], _, [], hW', trodAll_mk1 (shut_bool Try.underlying4 _), shut W' bel, rfl, bel.frame _, fun h => by cases h⟩

theorem over : Rows.poolPlaysRow.holds Try.pinned (OpenSpec.ofChange Rows.poolPlaysSpec) :=
  OpenClaim.holds_of_wide 3 Try.f3 rfl rfl rfl rfl rfl rfl rfl ⟨rfl, rfl, rfl, rfl, rfl⟩ rfl rfl rfl rfl rfl (by kernel_rfl) Try.func3 (by kernel_rfl)
    (of_decide_eq_true (by kernel_rfl)) (by unfold Func.isWrapper; first | (rw [if_pos (by decide +kernel)]; kernel_rfl) | (rw [if_neg (by decide +kernel)]; exact ⟨rfl, rfl⟩))
    (fun os started H enc _ => lifted os started H enc)

theorem poolPlays_holds : Rows.PoolPlaysSaid := over
#print axioms poolPlays_holds
end Go.Proofs.Ytllbdkjbcadeoaa.poolPlays

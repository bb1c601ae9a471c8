/- Proved: the statement AmpSteady of layer 9, for every degree, on no condition. -/
import Derived.Test.YtlpijieimidnoaaRows
import Derived.WalkKit
import Derived.ProofKit
import Derived.OpenShut
import Derived.Below
import Derived.Test.YtlpijieimidnoaaArgs
import Derived.Test.YtlpijieimidnoaaAmpAwake
import Derived.Test.YtlpijieimidnoaaAmpPace
namespace Go.Proofs.Ytlpijieimidnoaa.ampSteady
open Go.ChangeShapes Go.WideShapes Go.ChangeAt Go.RowKit
set_option linter.unusedVariables false

theorem own : ownKnob Try.prog.godebug = none := by kernel_rfl
theorem laidOut : laidOutB Try.prog = true := by kernel_rfl

set_option maxHeartbeats 1000000 in
set_option maxRecDepth 100000 in
theorem walk (w : World) (a0 : Int) (w0 : (Lit.int .u8 a0).wf = true) :
    Calls Try.prog 7 #[.int .u8 a0] w fun e w' => e = .returned (.bool true) ∧ Below w.heap.size w w' := by
  have x0 := bd_u8 w0
  clear w0
  obtain ⟨d, hd, y1, y16⟩ : ∃ d : Int, 1 + a0 % 16 = d ∧ 1 ≤ d ∧ d ≤ 16 := ⟨1 + a0 % 16, rfl, by omega, by omega⟩
  have RD := Lib.hid (fun g w => read_any g 1 d 256 w)
  have ST := Lib.hid (fun w => start_any 0 w)
  have m3 := fun (ts : Array TypeId) (t : TypeId) (x y z : Int) (w : World) => (show (Builtin.min_ ts t #[.int .i64 x, .int .i64 y, .int .i64 z]).run Try.prog w = .ok (.int .i64 (min (min x y) z)) w from by
    rw [run_min_int3]
    congr 2
    rw [show (if y < x then y else x) = min x y from by omega]
    omega)
  unfold Fl.val at RD ST
  unfold Fl.start at ST
  unfold Rn.val at RD
  go_enter Try.func7, Try.ntmps7
  go_wp2_with fail
  (with_reducible refine (awake_any _).mono ?_)
  rintro e w1 ⟨rfl, o⟩
  have OA := Lib.hid o
  clear o
  go_wp2_with fail
  (with_reducible refine (ST.out _).mono ?_)
  rintro e w2 ⟨rfl, o⟩
  have R4 := Lib.hid (Row.fresh w2 23 #[.int .i64 0, .int .i64 0, .int .i64 1, .int .i64 0])
  have OB := Lib.hid ((OA.out.same o).alloc (.cells #[.int .i64 0, .int .i64 0, .int .i64 1, .int .i64 0] 23))
  have LS := Nat.le_trans OA.out.size o.size
  clear OA o
  go_wp2_with fail
  obtain ⟨b4, hb4⟩ : ∃ b4, w2.heap.size = b4 := ⟨_, rfl⟩
  rw [hb4] at R4 LS ⊢
  have L4 := Lib.hid LS
  clear hb4 LS x0 ST
  generalize w2.alloc (.cells #[.int .i64 0, .int .i64 0, .int .i64 1, .int .i64 0] 23) = W2 at *
  go_wp2_with fail
  go_loopw [5, 6, 7] (fun s5 s6 s7 wr => ∃ (i : Nat) (e k : Int) (g : Fl), i ≤ 256 ∧ s7 = .int .i64 i ∧ s5 = .int .i64 e ∧ s6 = .int .i64 k ∧ Row wr b4 23 #[.int .i64 g.n, .int .i64 g.a, .int .i64 g.p, .int .i64 g.g] ∧ Only none_ w wr ∧ Pace d i e k g) (fun _ _ s7 _ => 256 - (intOf s7).toNat)
  case atStart => exact ⟨0, 1, 1, ⟨0, 0, 1, 0⟩, Nat.zero_le _, rfl, rfl, rfl, R4.out, OB.out, Or.inl ⟨rfl, rfl, rfl, rfl⟩⟩
  case round =>
    obtain ⟨i, e, k, g, hi, rfl, rfl, rfl, r4, ro, hp⟩ := hrel
    clear R4 OB
    have R4' := Lib.hid r4
    have OB' := Lib.hid ro
    clear r4 ro
    by_cases q : i < 256
    · obtain ⟨rc, hn, e1, e2, k1, k2b, hs⟩ := pace_next y1 y16 q hp
      have RD' := RD.out g
      rw [rc] at RD'
      have hne : ((g.readF 1 d 256).n != (i : Int) + 1) = false := by simp [hn]
      have vi : IntKind.i64.wrap ((i : Int) + 1) = (i : Int) + 1 := by rw [IntKind.wrap_i64]; omega
      have vk : IntKind.i64.wrap (k + 1) = k + 1 := by rw [IntKind.wrap_i64]; omega
      have ve : IntKind.i64.wrap (256 - e) = 256 - e := by rw [IntKind.wrap_i64]; omega
      have vs : IntKind.i64.wrap (e + min k (min d (256 - e))) = e + min k (min d (256 - e)) := by rw [IntKind.wrap_i64]; omega
      clear rc hn hp RD
      obtain ⟨c0, c1, c2, c3⟩ := R4'.out.four
      rcases hs with ⟨hc, hr, hnext⟩ | ⟨hc, hc2, hr, hnext⟩
      · rw [hr] at RD'
        have RD' := Lib.hid RD'
        have HN := Lib.hid hnext
        generalize g.readF 1 d 256 = k2 at *
        have t : decide ((i : Int) + 1 < e) = true ∨ (decide ((i : Int) + 1 < e) = false ∧ (e == 256) = true) := by
          rcases hc with h | ⟨h1, h2⟩
          · exact Or.inl (decide_eq_true h)
          · exact Or.inr ⟨decide_eq_false h1, by simpa using h2⟩
        have er := fun w => eq_rn ⟨0, 0⟩ ⟨0, 0⟩ w
        simp only [decide_true] at er
        clear hr hnext hc ve vs vk e1 e2 k1 k2b
        go_wp2_with fail
        clear c0 c1 c2 c3
        (with_reducible refine (RD'.out _).mono ?_)
        rintro e w3 ⟨rfl, o⟩
        have S4 := Lib.hid (((((((o.still R4'.out).put 0 (.int .i64 k2.n)).put 1 (.int .i64 k2.a)).put 2 (.int .i64 k2.p)).put 3 (.int .i64 k2.g)).alloc (.cells #[.int .i64 k2.n, .int .i64 k2.a, .int .i64 k2.p, .int .i64 k2.g] 23)).alloc (.cells #[.int .i64 0, .int .i64 0] 27))
        have SO := Lib.hid (((((((OB'.out.same o).new L4.out 0 (.int .i64 k2.n)).new L4.out 1 (.int .i64 k2.a)).new L4.out 2 (.int .i64 k2.p)).new L4.out 3 (.int .i64 k2.g)).alloc (.cells #[.int .i64 k2.n, .int .i64 k2.a, .int .i64 k2.p, .int .i64 k2.g] 23)).alloc (.cells #[.int .i64 0, .int .i64 0] 27))
        have lt4 := (o.still R4'.out).lt
        have lt5 : b4 < w3.heap.size + 1 := by omega
        have z := (o.still R4'.out).frozen
        obtain ⟨c0, c1, c2, c3⟩ := (o.still R4'.out).four
        clear o R4' OB'
        rcases t with t | ⟨t, t'⟩
        all_goals
          go_wp2_with fail
          exact ⟨⟨i + 1, e, k, k2, by omega, by go_num, rfl, rfl, S4.out, SO.out, HN.out⟩, by simp [intOf]; omega⟩
      · rw [hr] at RD'
        have RD' := Lib.hid RD'
        have HN := Lib.hid hnext
        generalize g.readF 1 d 256 = k2 at *
        have t : decide ((i : Int) + 1 < e) = false := decide_eq_false hc
        have t' : (e == 256) = false := by simpa using hc2
        have er := fun w => eq_rn ⟨e, min k (min d (256 - e))⟩ ⟨e, min k (min d (256 - e))⟩ w
        simp only [decide_true] at er
        clear hr hnext hc hc2 e1 e2 k1 k2b
        go_wp2_with fail
        clear c0 c1 c2 c3
        (with_reducible refine (RD'.out _).mono ?_)
        rintro e w3 ⟨rfl, o⟩
        have S4 := Lib.hid (((((((o.still R4'.out).put 0 (.int .i64 k2.n)).put 1 (.int .i64 k2.a)).put 2 (.int .i64 k2.p)).put 3 (.int .i64 k2.g)).alloc (.cells #[.int .i64 k2.n, .int .i64 k2.a, .int .i64 k2.p, .int .i64 k2.g] 23)).alloc (.cells #[.int .i64 e, .int .i64 (min k (min d (256 - e)))] 27))
        have SO := Lib.hid (((((((OB'.out.same o).new L4.out 0 (.int .i64 k2.n)).new L4.out 1 (.int .i64 k2.a)).new L4.out 2 (.int .i64 k2.p)).new L4.out 3 (.int .i64 k2.g)).alloc (.cells #[.int .i64 k2.n, .int .i64 k2.a, .int .i64 k2.p, .int .i64 k2.g] 23)).alloc (.cells #[.int .i64 e, .int .i64 (min k (min d (256 - e)))] 27))
        have lt4 := (o.still R4'.out).lt
        have lt5 : b4 < w3.heap.size + 1 := by omega
        have z := (o.still R4'.out).frozen
        obtain ⟨c0, c1, c2, c3⟩ := (o.still R4'.out).four
        clear o R4' OB'
        go_wp2_with fail
        go_roundw
        case rel => exact ⟨i + 1, _, _, k2, by omega, by go_num, rfl, rfl, S4.out, SO.out, HN.out⟩
        case measure => simp [intOf]; omega
    · clear RD hp
      go_wp2_with fail
      go_ret
      exact ⟨rfl, OB'.out.to_below9⟩


set_option maxRecDepth 100000 in
theorem lifted (os : Os) (started : os.Started) (H : Type) (enc : TypeId × Value → H) :
    ReturnsInHanded {} Try.checked os 7 .any (Rows.ampSteadySpec.pre6 enc Try.prog Try.f7 Rows.ampSteadyRow.domain false) (Rows.ampSteadySpec.post enc Try.prog Try.f7 false true false false) := by
  refine returnsInHanded_of_change (C := Try.checked) own started (by kernel_rfl) Try.func7
    (ChangeSpec.witness6 (enc := enc) (C := Try.checked) false ⟨#[], #[.int .u8 0], []⟩ 8 (by kernel_rfl) (by kernel_rfl) (by kernel_rfl) (by kernel_rfl)) ?_
  intro W base args ds gs before hval0 hW hcnd _
  have hval : ∀ (j : Nat) t v, Try.f7.params[j]? = some t → args[j]? = some v → Value.okWide Try.prog W .any base t v := hval0
  have hW' := hW
  obtain ⟨p, q, hA0, hV, rfl, hfz, hnd⟩ := hW
  have hA : DataW.TrodAll enc Try.prog W 0 (fun _ => true) true Try.f7.params.toList args.toList ds p := hA0
  rw [Try.params7] at hA hval
  obtain ⟨v0, vs0, d0, ds0, p0, q0, hargs, rfl, rfl, h0, r0⟩ := trodAll_cons hA
  obtain ⟨rfl, rfl, rfl⟩ := trodAll_nil r0
  obtain rfl : args = #[v0] := by cases args; simp_all
  obtain ⟨rfl, rfl⟩ := trodVars_none hV
  obtain ⟨a0, rfl, rfl, rfl, w0⟩ := open_int Try.underlying5 (hval 0 5 v0 rfl rfl) h0
  have shut : ∀ W', Below W.heap.size W W' → DataW.TrodAll enc Try.prog W' 0 (fun b => decide (b < W.heap.size)) true [5] [.int .u8 a0] [.lit (.int .u8 a0)] ([] ++ []) := fun W' bel =>
    (trodAll_cons_mk (shut_int Try.underlying5 w0) trodAll_mk0)
  clear hA0 hval0
  refine (walk W a0 w0).mono fun e W' ⟨he, bel⟩ => ?_
  subst he
  simp only [List.append_nil] at hW' shut
  exact ⟨_, rfl, _, _, _, [], [], [], hW', trodAll_mk1 (shut_bool Try.underlying4 _), shut W' bel, rfl, bel.frame _, fun h => by cases h⟩

theorem over : Rows.ampSteadyRow.holds Try.pinned (OpenSpec.ofChange Rows.ampSteadySpec) :=
  OpenClaim.holds_of_wide 7 Try.f7 rfl rfl rfl rfl rfl rfl rfl ⟨rfl, rfl, rfl, rfl, rfl⟩ rfl rfl rfl rfl rfl (by kernel_rfl) Try.func7 (by kernel_rfl)
    (of_decide_eq_true (by kernel_rfl)) (by unfold Func.isWrapper; first | (rw [if_pos (by decide +kernel)]; kernel_rfl) | (rw [if_neg (by decide +kernel)]; exact ⟨rfl, rfl⟩))
    (fun os started H enc _ => lifted os started H enc)

theorem ampSteady_holds : Rows.AmpSteadySaid := over
#print axioms ampSteady_holds
end Go.Proofs.Ytlpijieimidnoaa.ampSteady

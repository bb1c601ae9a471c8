/- Proved: the statement AmpReads of layer 9, for every pace, every count, every degree and every disk, on no condition. -/
import Derived.Test.YtlpijieimidnoaaRows
import Derived.WalkKit
import Derived.ProofKit
import Derived.OpenShut
import Derived.Below
import Derived.Test.YtlpijieimidnoaaArgs
import Derived.Test.YtlpijieimidnoaaAmpAwake
import Derived.Deep.RegionHeld3
namespace Go.Proofs.Ytlpijieimidnoaa.ampReads
open Go.ChangeShapes Go.WideShapes Go.ChangeAt Go.RowKit
set_option linter.unusedVariables false

theorem own : ownKnob Try.prog.godebug = none := by kernel_rfl
theorem laidOut : laidOutB Try.prog = true := by kernel_rfl

set_option maxHeartbeats 1000000 in
set_option maxRecDepth 100000 in
theorem walk (w : World) (f : Fl) (_ : f.Wf) (c : Int) (wc : (Lit.int .i64 c).wf = true) (d : Int) (wd : (Lit.int .i64 d).wf = true) (b : Int) (wb : (Lit.int .i64 b).wf = true) :
    Calls Try.prog 3 #[f.val, .int .i64 c, .agg #[.int .i64 d, .int .i64 b]] w fun e w' => e = .returned (.bool true) ∧ Below w.heap.size w w' := by
  clear wc wd wb
  have RD := Lib.hid (fun w => read_any f c d b w)
  have RR := Lib.hid (fun w => rread_any f c d b w)
  have MA := Lib.hid (fun w => may_any f d b w)
  have RM := Lib.hid (fun w => rmay_any f d b w)
  generalize f.readF c d b = k at *
  generalize f.readR c d b = r at *
  generalize f.readC c d b = q at *
  generalize decide (f.May d b) = m at *
  have ek := fun w => eq_fl k k w
  have er := fun w => eq_rn r r w
  simp only [decide_true] at ek er
  unfold Fl.val at RD RR MA RM ⊢
  unfold Rn.val at RD RR
  go_enter Try.func3, Try.ntmps3
  go_wp2_with fail
  have R0 := Lib.hid ((Row.fresh w 23 #[.int .i64 f.n, .int .i64 f.a, .int .i64 f.p, .int .i64 f.g]).alloc (.cells #[.int .i64 d, .int .i64 b] 24))
  have r1 := Row.fresh (w.alloc (.cells #[.int .i64 f.n, .int .i64 f.a, .int .i64 f.p, .int .i64 f.g] 23)) 24 #[.int .i64 d, .int .i64 b]
  rw [World.size_alloc] at r1
  have R1 := Lib.hid r1
  have OA := Lib.hid (((Only.refl none_ w).alloc (.cells #[.int .i64 f.n, .int .i64 f.a, .int .i64 f.p, .int .i64 f.g] 23)).alloc (.cells #[.int .i64 d, .int .i64 b] 24))
  clear r1
  generalize (w.alloc (.cells #[.int .i64 f.n, .int .i64 f.a, .int .i64 f.p, .int .i64 f.g] 23)).alloc (.cells #[.int .i64 d, .int .i64 b] 24) = W1 at *
  generalize w.heap.size + 1 = b1 at R1 ⊢
  generalize w.heap.size = b0 at R0 ⊢
  (with_reducible refine (awake_any _).mono ?_)
  rintro e w1 ⟨rfl, o⟩
  have OB := Lib.hid (OA.out.same o)
  have S0 := Lib.hid (o.still R0.out)
  have S1 := Lib.hid (o.still R1.out)
  obtain ⟨c0, c1, c2, c3⟩ := S0.out.four
  obtain ⟨d0, d1⟩ := S1.out.two
  clear R0 R1 OA o
  go_wp2_with fail
  (with_reducible refine (RD.out _).mono ?_)
  rintro e w2 ⟨rfl, o⟩
  have OC := Lib.hid (((OB.out.same o).alloc (.cells #[.int .i64 k.n, .int .i64 k.a, .int .i64 k.p, .int .i64 k.g] 23)).alloc (.cells #[.int .i64 r.f, .int .i64 r.c] 27))
  have R0 := Lib.hid (((o.still S0.out).alloc (.cells #[.int .i64 k.n, .int .i64 k.a, .int .i64 k.p, .int .i64 k.g] 23)).alloc (.cells #[.int .i64 r.f, .int .i64 r.c] 27))
  have R1 := Lib.hid (((o.still S1.out).alloc (.cells #[.int .i64 k.n, .int .i64 k.a, .int .i64 k.p, .int .i64 k.g] 23)).alloc (.cells #[.int .i64 r.f, .int .i64 r.c] 27))
  have R2 := Lib.hid ((Row.fresh w2 23 #[.int .i64 k.n, .int .i64 k.a, .int .i64 k.p, .int .i64 k.g]).alloc (.cells #[.int .i64 r.f, .int .i64 r.c] 27))
  have r3 := Row.fresh (w2.alloc (.cells #[.int .i64 k.n, .int .i64 k.a, .int .i64 k.p, .int .i64 k.g] 23)) 27 #[.int .i64 r.f, .int .i64 r.c]
  rw [World.size_alloc] at r3
  have R3 := Lib.hid r3
  clear o OB S0 S1 c0 c1 c2 c3 d0 d1 r3
  obtain ⟨c0, c1, c2, c3⟩ := R0.out.four
  obtain ⟨d0, d1⟩ := R1.out.two
  go_wp2_with fail
  generalize (w2.alloc (.cells #[.int .i64 k.n, .int .i64 k.a, .int .i64 k.p, .int .i64 k.g] 23)).alloc (.cells #[.int .i64 r.f, .int .i64 r.c] 27) = W2 at *
  generalize w2.heap.size + 1 = b3 at R3 ⊢
  generalize w2.heap.size = b2 at R2 ⊢
  (with_reducible refine (RR.out _).mono ?_)
  rintro e w3 ⟨rfl, o⟩
  have OD := Lib.hid (((OC.out.same o).alloc (.cells #[.int .i64 k.n, .int .i64 k.a, .int .i64 k.p, .int .i64 k.g] 23)).alloc (.cells #[.int .i64 r.f, .int .i64 r.c] 27))
  have S0 := Lib.hid (((o.still R0.out).alloc (.cells #[.int .i64 k.n, .int .i64 k.a, .int .i64 k.p, .int .i64 k.g] 23)).alloc (.cells #[.int .i64 r.f, .int .i64 r.c] 27))
  have S1 := Lib.hid (((o.still R1.out).alloc (.cells #[.int .i64 k.n, .int .i64 k.a, .int .i64 k.p, .int .i64 k.g] 23)).alloc (.cells #[.int .i64 r.f, .int .i64 r.c] 27))
  have S2 := Lib.hid (((o.still R2.out).alloc (.cells #[.int .i64 k.n, .int .i64 k.a, .int .i64 k.p, .int .i64 k.g] 23)).alloc (.cells #[.int .i64 r.f, .int .i64 r.c] 27))
  have S3 := Lib.hid (((o.still R3.out).alloc (.cells #[.int .i64 k.n, .int .i64 k.a, .int .i64 k.p, .int .i64 k.g] 23)).alloc (.cells #[.int .i64 r.f, .int .i64 r.c] 27))
  have S4 := Lib.hid ((Row.fresh w3 23 #[.int .i64 k.n, .int .i64 k.a, .int .i64 k.p, .int .i64 k.g]).alloc (.cells #[.int .i64 r.f, .int .i64 r.c] 27))
  have r3 := Row.fresh (w3.alloc (.cells #[.int .i64 k.n, .int .i64 k.a, .int .i64 k.p, .int .i64 k.g] 23)) 27 #[.int .i64 r.f, .int .i64 r.c]
  rw [World.size_alloc] at r3
  have S5 := Lib.hid r3
  clear o OC R0 R1 R2 R3 c0 c1 c2 c3 d0 d1 r3
  go_wp2_with fail
  generalize (w3.alloc (.cells #[.int .i64 k.n, .int .i64 k.a, .int .i64 k.p, .int .i64 k.g] 23)).alloc (.cells #[.int .i64 r.f, .int .i64 r.c] 27) = W3 at *
  generalize w3.heap.size + 1 = b5 at S5 ⊢
  generalize w3.heap.size = b4 at S4 ⊢
  have ND := Lib.hid (Only.refl none_ W3).drew
  have KK := Lib.hid (fun (w' : World) (o : Only none_ W3 w') => And.intro (o.still S0.out).four (And.intro (o.still S1.out).two (And.intro (o.still S2.out).four (And.intro (o.still S3.out).two (And.intro (o.still S4.out).four (o.still S5.out).two)))))
  obtain ⟨⟨c0, c1, c2, c3⟩, ⟨d0, d1⟩, ⟨e0, e1, e2, e3⟩, ⟨f0, f1⟩, ⟨g0, g1, g2, g3⟩, h0, h1⟩ := KK.out _ ND.out
  have qq : (q == q) = true := by simp
  have mm : (m == m) = true := by simp
  go_region_held3 (fun w' => (w'.cell? ⟨b0, 0, none⟩ = some (.int .i64 f.n) ∧ w'.cell? ⟨b0, 1, none⟩ = some (.int .i64 f.a) ∧ w'.cell? ⟨b0, 2, none⟩ = some (.int .i64 f.p) ∧ w'.cell? ⟨b0, 3, none⟩ = some (.int .i64 f.g)) ∧ (w'.cell? ⟨b1, 0, none⟩ = some (.int .i64 d) ∧ w'.cell? ⟨b1, 1, none⟩ = some (.int .i64 b)) ∧ (w'.cell? ⟨b2, 0, none⟩ = some (.int .i64 k.n) ∧ w'.cell? ⟨b2, 1, none⟩ = some (.int .i64 k.a) ∧ w'.cell? ⟨b2, 2, none⟩ = some (.int .i64 k.p) ∧ w'.cell? ⟨b2, 3, none⟩ = some (.int .i64 k.g)) ∧ (w'.cell? ⟨b3, 0, none⟩ = some (.int .i64 r.f) ∧ w'.cell? ⟨b3, 1, none⟩ = some (.int .i64 r.c)) ∧ (w'.cell? ⟨b4, 0, none⟩ = some (.int .i64 k.n) ∧ w'.cell? ⟨b4, 1, none⟩ = some (.int .i64 k.a) ∧ w'.cell? ⟨b4, 2, none⟩ = some (.int .i64 k.p) ∧ w'.cell? ⟨b4, 3, none⟩ = some (.int .i64 k.g)) ∧ (w'.cell? ⟨b5, 0, none⟩ = some (.int .i64 r.f) ∧ w'.cell? ⟨b5, 1, none⟩ = some (.int .i64 r.c)))
    (first
      | (with_reducible exact KK.out _ Q2.out)
      | (with_reducible exact KK.out _ Q1.out)
      | (with_reducible exact KK.out _ ND.out)
      | fail)
    (first
      | (go_at_call 12; (with_reducible refine (MA.out _).mono ?_); rintro e u1 ⟨rfl, o1⟩; have Q1 := Lib.hid (ND.out.same o1))
      | (go_at_call 13; (with_reducible refine (RM.out _).mono ?_); rintro e u2 ⟨rfl, o2⟩; have Q2 := Lib.hid (Q1.out.same o2.only))
      | fail)
  go_wp2_with fail
  go_ret
  exact ⟨rfl, (OD.out.same Q2.out).to_below9⟩


set_option maxRecDepth 100000 in
theorem lifted (os : Os) (started : os.Started) (H : Type) (enc : TypeId × Value → H) :
    ReturnsInHanded {} Try.checked os 3 .any (Rows.ampReadsSpec.pre6 enc Try.prog Try.f3 Rows.ampReadsRow.domain false) (Rows.ampReadsSpec.post enc Try.prog Try.f3 false true false false) := by
  refine returnsInHanded_of_change (C := Try.checked) own started (by kernel_rfl) Try.func3
    (ChangeSpec.witness6 (enc := enc) (C := Try.checked) false ⟨#[], #[.agg #[.int .i64 0, .int .i64 0, .int .i64 0, .int .i64 0], .int .i64 0, .agg #[.int .i64 0, .int .i64 0]], []⟩ 8 (by kernel_rfl) (by kernel_rfl) (by kernel_rfl) (by kernel_rfl)) ?_
  intro W base args ds gs before hval0 hW hcnd _
  have hval : ∀ (j : Nat) t v, Try.f3.params[j]? = some t → args[j]? = some v → Value.okWide Try.prog W .any base t v := hval0
  have hW' := hW
  obtain ⟨p, q, hA0, hV, rfl, hfz, hnd⟩ := hW
  have hA : DataW.TrodAll enc Try.prog W 0 (fun _ => true) true Try.f3.params.toList args.toList ds p := hA0
  rw [Try.params3] at hA hval
  obtain ⟨v0, vs0, d0, ds0, p0, q0, hargs, rfl, rfl, h0, r0⟩ := trodAll_cons hA
  obtain ⟨v1, vs1, d1, ds1, p1, q1, rfl, rfl, rfl, h1, r1⟩ := trodAll_cons r0
  obtain ⟨v2, vs2, d2, ds2, p2, q2, rfl, rfl, rfl, h2, r2⟩ := trodAll_cons r1
  obtain ⟨rfl, rfl, rfl⟩ := trodAll_nil r2
  obtain rfl : args = #[v0, v1, v2] := by cases args; simp_all
  obtain ⟨rfl, rfl⟩ := trodVars_none hV
  have o0 := hval 0 23 v0 rfl rfl
  have k0 := h0
  have lt0 : ∀ x ∈ p0, x.block < W.heap.size := by obtain ⟨m, hm⟩ := k0; exact DataW.trod_lt m _ _ _ hm
  obtain ⟨a0, rfl, wa0⟩ := open_flow W base H enc v0 d0 p0 o0 h0
  obtain ⟨a1, rfl, rfl, rfl, w1⟩ := open_int Try.underlying3 (hval 1 3 v1 rfl rfl) h1
  have o2 := hval 2 24 v2 rfl rfl
  have k2 := h2
  have lt2 : ∀ x ∈ p2, x.block < W.heap.size := by obtain ⟨m, hm⟩ := k2; exact DataW.trod_lt m _ _ _ hm
  obtain ⟨a2, b2, rfl, wa2, wb2⟩ := open_pairI W base H enc v2 d2 p2 o2 h2
  have shut : ∀ W', Below W.heap.size W W' → DataW.TrodAll enc Try.prog W' 0 (fun b => decide (b < W.heap.size)) true [23, 3, 24] [a0.val, .int .i64 a1, .agg #[.int .i64 a2, .int .i64 b2]] [d0, .lit (.int .i64 a1), d2] (p0 ++ ([] ++ (p2 ++ []))) := fun W' bel =>
    (trodAll_cons_mk (Below.trod laidOut (by kernel_rfl) (of_decide_eq_true (by kernel_rfl)) k0 bel lt0) (trodAll_cons_mk (shut_int Try.underlying3 w1) (trodAll_cons_mk (Below.trod laidOut (by kernel_rfl) (of_decide_eq_true (by kernel_rfl)) k2 bel lt2) trodAll_mk0)))
  clear hA0 hval0
  refine (walk W a0 wa0 a1 w1 a2 wa2 b2 wb2).mono fun e W' ⟨he, bel⟩ => ?_
  subst he
  exact ⟨_, rfl, _, _, _, [], _, [], hW', trodAll_mk1 (shut_bool Try.underlying4 _), shut W' bel, rfl, bel.frame _, fun h => by cases h⟩

theorem over : Rows.ampReadsRow.holds Try.pinned (OpenSpec.ofChange Rows.ampReadsSpec) :=
  OpenClaim.holds_of_wide 3 Try.f3 rfl rfl rfl rfl rfl rfl rfl ⟨rfl, rfl, rfl, rfl, rfl⟩ rfl rfl rfl rfl rfl (by kernel_rfl) Try.func3 (by kernel_rfl)
    (of_decide_eq_true (by kernel_rfl)) (by unfold Func.isWrapper; first | (rw [if_pos (by decide +kernel)]; kernel_rfl) | (rw [if_neg (by decide +kernel)]; exact ⟨rfl, rfl⟩))
    (fun os started H enc _ => lifted os started H enc)

theorem ampReads_holds : Rows.AmpReadsSaid := over
#print axioms ampReads_holds
end Go.Proofs.Ytlpijieimidnoaa.ampReads

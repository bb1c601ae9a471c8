/- awake of layer 9 answers true. -/
import Derived.Test.YtlpijieimidnoaaAmpLaw
namespace Go.Proofs.Ytlpijieimidnoaa
open Go.RowKit
set_option linter.unusedVariables false

set_option maxRecDepth 100000 in
set_option maxHeartbeats 1000000 in
theorem awake_any (w : World) : Calls Try.prog 9 #[] w fun e w' => e = .returned (.bool true) ∧ Only none_ w w' := by
  have EF := fun f g w => eq_fl f g w
  have e1 := fun w => eq_fl ⟨10, 10, 1, 0⟩ ⟨10, 10, 1, 0⟩ w
  have e2 := fun w => eq_fl ⟨12, 14, 2, 0⟩ ⟨12, 14, 2, 0⟩ w
  have e3 := fun w => eq_rn ⟨11, 1⟩ ⟨11, 1⟩ w
  have e4 := fun w => eq_rn ⟨12, 2⟩ ⟨12, 2⟩ w
  simp only [decide_true] at e1 e2 e3 e4
  clear EF
  have fp := fun x0 x1 x2 x3 w => field_p x0 x1 x2 x3 w
  have fg := fun x0 x1 x2 x3 w => field_g x0 x1 x2 x3 w
  go_enter Try.func9, Try.ntmps9
  go_wp2_with fail
  (with_reducible refine (k_start _).mono ?_)
  rintro e w1 ⟨rfl, o1⟩
  have O1 := Lib.hid o1
  clear o1
  go_wp2_with fail
  have R1 := Lib.hid (Row.fresh w1 23 #[.int .i64 10, .int .i64 10, .int .i64 1, .int .i64 0])
  have OA := Lib.hid (O1.out.alloc (.cells #[.int .i64 10, .int .i64 10, .int .i64 1, .int .i64 0] 23))
  generalize w1.alloc (.cells #[.int .i64 10, .int .i64 10, .int .i64 1, .int .i64 0] 23) = W1 at *
  generalize w1.heap.size = b1 at *
  clear O1
  (with_reducible refine (k_r1 _).mono ?_)
  rintro e v2 ⟨rfl, o2⟩
  have O2 := Lib.hid o2
  clear o2
  have R1n := Lib.hid (((O2.out.still R1.out).alloc (.cells #[.int .i64 11, .int .i64 12, .int .i64 1, .int .i64 0] 23)).alloc (.cells #[.int .i64 11, .int .i64 1] 27))
  go_wp2_with fail
  have RF2 := Lib.hid ((Row.fresh v2 23 #[.int .i64 11, .int .i64 12, .int .i64 1, .int .i64 0]).alloc (.cells #[.int .i64 11, .int .i64 1] 27))
  have r3 := Row.fresh (v2.alloc (.cells #[.int .i64 11, .int .i64 12, .int .i64 1, .int .i64 0] 23)) 27 #[.int .i64 11, .int .i64 1]
  rw [World.size_alloc] at r3
  have RR2 := Lib.hid r3
  clear r3
  have ON2 := Lib.hid (((OA.out.same O2.out).alloc (.cells #[.int .i64 11, .int .i64 12, .int .i64 1, .int .i64 0] 23)).alloc (.cells #[.int .i64 11, .int .i64 1] 27))
  clear R1 OA O2
  generalize (v2.alloc (.cells #[.int .i64 11, .int .i64 12, .int .i64 1, .int .i64 0] 23)).alloc (.cells #[.int .i64 11, .int .i64 1] 27) = V2 at *
  generalize v2.heap.size + 1 = b3 at *
  generalize v2.heap.size = b2 at *
  (with_reducible refine (k_r2 _).mono ?_)
  rintro e v3 ⟨rfl, o2⟩
  have O2 := Lib.hid o2
  clear o2
  have R1nn := Lib.hid (((O2.out.still R1n.out).alloc (.cells #[.int .i64 12, .int .i64 14, .int .i64 2, .int .i64 0] 23)).alloc (.cells #[.int .i64 12, .int .i64 2] 27))
  have RF2n := Lib.hid (((O2.out.still RF2.out).alloc (.cells #[.int .i64 12, .int .i64 14, .int .i64 2, .int .i64 0] 23)).alloc (.cells #[.int .i64 12, .int .i64 2] 27))
  have RR2n := Lib.hid (((O2.out.still RR2.out).alloc (.cells #[.int .i64 12, .int .i64 14, .int .i64 2, .int .i64 0] 23)).alloc (.cells #[.int .i64 12, .int .i64 2] 27))
  obtain ⟨cb10, cb11, cb12, cb13⟩ := R1nn.out.four
  go_wp2_with fail
  have RF3 := Lib.hid ((Row.fresh v3 23 #[.int .i64 12, .int .i64 14, .int .i64 2, .int .i64 0]).alloc (.cells #[.int .i64 12, .int .i64 2] 27))
  have r3 := Row.fresh (v3.alloc (.cells #[.int .i64 12, .int .i64 14, .int .i64 2, .int .i64 0] 23)) 27 #[.int .i64 12, .int .i64 2]
  rw [World.size_alloc] at r3
  have RR3 := Lib.hid r3
  clear r3
  have ON3 := Lib.hid (((ON2.out.same O2.out).alloc (.cells #[.int .i64 12, .int .i64 14, .int .i64 2, .int .i64 0] 23)).alloc (.cells #[.int .i64 12, .int .i64 2] 27))
  clear R1n RF2 RR2 ON2 O2
  generalize (v3.alloc (.cells #[.int .i64 12, .int .i64 14, .int .i64 2, .int .i64 0] 23)).alloc (.cells #[.int .i64 12, .int .i64 2] 27) = V3 at *
  generalize v3.heap.size + 1 = b6 at *
  generalize v3.heap.size = b5 at *
  (with_reducible refine (k_r3 _).mono ?_)
  rintro e v4 ⟨rfl, o2⟩
  have O2 := Lib.hid o2
  clear o2
  clear cb10 cb11 cb12 cb13
  have R1nnn := Lib.hid (((O2.out.still R1nn.out).alloc (.cells #[.int .i64 0, .int .i64 0, .int .i64 0, .int .i64 0] 23)).alloc (.cells #[.int .i64 0, .int .i64 0] 27))
  have RF2nn := Lib.hid (((O2.out.still RF2n.out).alloc (.cells #[.int .i64 0, .int .i64 0, .int .i64 0, .int .i64 0] 23)).alloc (.cells #[.int .i64 0, .int .i64 0] 27))
  have RR2nn := Lib.hid (((O2.out.still RR2n.out).alloc (.cells #[.int .i64 0, .int .i64 0, .int .i64 0, .int .i64 0] 23)).alloc (.cells #[.int .i64 0, .int .i64 0] 27))
  have RF3n := Lib.hid (((O2.out.still RF3.out).alloc (.cells #[.int .i64 0, .int .i64 0, .int .i64 0, .int .i64 0] 23)).alloc (.cells #[.int .i64 0, .int .i64 0] 27))
  have RR3n := Lib.hid (((O2.out.still RR3.out).alloc (.cells #[.int .i64 0, .int .i64 0, .int .i64 0, .int .i64 0] 23)).alloc (.cells #[.int .i64 0, .int .i64 0] 27))
  obtain ⟨cb10, cb11, cb12, cb13⟩ := R1nnn.out.four
  go_wp2_with fail
  have ON4 := Lib.hid (((ON3.out.same O2.out).alloc (.cells #[.int .i64 0, .int .i64 0, .int .i64 0, .int .i64 0] 23)).alloc (.cells #[.int .i64 0, .int .i64 0] 27))
  clear R1nn RF2n RR2n RF3 RR3 ON3 O2
  generalize (v4.alloc (.cells #[.int .i64 0, .int .i64 0, .int .i64 0, .int .i64 0] 23)).alloc (.cells #[.int .i64 0, .int .i64 0] 27) = V4 at *
  generalize v4.heap.size + 1 = b9 at *
  generalize v4.heap.size = b8 at *
  (with_reducible refine (k_r4 _).mono ?_)
  rintro e v5 ⟨rfl, o2⟩
  have O2 := Lib.hid o2
  clear o2
  clear cb10 cb11 cb12 cb13
  have R1nnnn := Lib.hid (((O2.out.still R1nnn.out).alloc (.cells #[.int .i64 0, .int .i64 0, .int .i64 0, .int .i64 0] 23)).alloc (.cells #[.int .i64 0, .int .i64 0] 27))
  have RF2nnn := Lib.hid (((O2.out.still RF2nn.out).alloc (.cells #[.int .i64 0, .int .i64 0, .int .i64 0, .int .i64 0] 23)).alloc (.cells #[.int .i64 0, .int .i64 0] 27))
  have RR2nnn := Lib.hid (((O2.out.still RR2nn.out).alloc (.cells #[.int .i64 0, .int .i64 0, .int .i64 0, .int .i64 0] 23)).alloc (.cells #[.int .i64 0, .int .i64 0] 27))
  have RF3nn := Lib.hid (((O2.out.still RF3n.out).alloc (.cells #[.int .i64 0, .int .i64 0, .int .i64 0, .int .i64 0] 23)).alloc (.cells #[.int .i64 0, .int .i64 0] 27))
  have RR3nn := Lib.hid (((O2.out.still RR3n.out).alloc (.cells #[.int .i64 0, .int .i64 0, .int .i64 0, .int .i64 0] 23)).alloc (.cells #[.int .i64 0, .int .i64 0] 27))
  obtain ⟨cb10, cb11, cb12, cb13⟩ := R1nnnn.out.four
  obtain ⟨cb30, cb31⟩ := RR2nnn.out.two
  obtain ⟨cb50, cb51, cb52, cb53⟩ := RF3nn.out.four
  obtain ⟨cb60, cb61⟩ := RR3nn.out.two
  go_wp2_with fail
  have ON5 := Lib.hid (((ON4.out.same O2.out).alloc (.cells #[.int .i64 0, .int .i64 0, .int .i64 0, .int .i64 0] 23)).alloc (.cells #[.int .i64 0, .int .i64 0] 27))
  clear R1nnn RF2nn RR2nn RF3n RR3n ON4 O2
  generalize (v5.alloc (.cells #[.int .i64 0, .int .i64 0, .int .i64 0, .int .i64 0] 23)).alloc (.cells #[.int .i64 0, .int .i64 0] 27) = V5 at *
  generalize v5.heap.size + 1 = b12 at *
  generalize v5.heap.size = b11 at *
  (with_reducible refine (k_late _).mono ?_)
  rintro e u10 ⟨rfl, o2⟩
  have O2 := Lib.hid o2
  clear o2 cb10 cb11 cb12 cb13 cb30 cb31 cb50 cb51 cb52 cb53 cb60 cb61
  have H10 := Lib.hid (O2.out.still RF3nn.out)
  have ON10 := Lib.hid (ON5.out.same O2.out)
  clear O2 ON5 R1nnnn RF2nnn RR2nnn RF3nn RR3nn
  obtain ⟨cb50, cb51, cb52, cb53⟩ := H10.out.four
  go_wp2_with fail
  (with_reducible refine (k_waste _).mono ?_)
  rintro e u11 ⟨rfl, o2⟩
  have O2 := Lib.hid o2
  clear o2 cb50 cb51 cb52 cb53
  have H11 := Lib.hid (O2.out.still H10.out)
  have ON11 := Lib.hid (ON10.out.same O2.out)
  clear O2 ON10 H10
  obtain ⟨cb50, cb51, cb52, cb53⟩ := H11.out.four
  go_wp2_with fail
  (with_reducible refine (k_trig _).mono ?_)
  rintro e u12 ⟨rfl, o2⟩
  have O2 := Lib.hid o2
  clear o2 cb50 cb51 cb52 cb53
  have H12 := Lib.hid (O2.out.still H11.out)
  have ON12 := Lib.hid (ON11.out.same O2.out)
  clear O2 ON11 H11
  obtain ⟨cb50, cb51, cb52, cb53⟩ := H12.out.four
  go_wp2_with fail
  (with_reducible refine (k_may4 _).mono ?_)
  rintro e u13 ⟨rfl, o2⟩
  have O2 := Lib.hid o2
  clear o2 cb50 cb51 cb52 cb53
  have H13 := Lib.hid (O2.out.still H12.out)
  have ON13 := Lib.hid (ON12.out.same O2.out)
  clear O2 ON12 H12
  obtain ⟨cb50, cb51, cb52, cb53⟩ := H13.out.four
  go_wp2_with fail
  (with_reducible refine (k_may1 _).mono ?_)
  rintro e u14 ⟨rfl, o2⟩
  have O2 := Lib.hid o2
  clear o2 cb50 cb51 cb52 cb53
  have H14 := Lib.hid (O2.out.still H13.out)
  have ON14 := Lib.hid (ON13.out.same O2.out)
  clear O2 ON13 H13
  obtain ⟨cb50, cb51, cb52, cb53⟩ := H14.out.four
  go_wp2_with fail
  go_ret
  exact ⟨rfl, ON14.out⟩
end Go.Proofs.Ytlpijieimidnoaa

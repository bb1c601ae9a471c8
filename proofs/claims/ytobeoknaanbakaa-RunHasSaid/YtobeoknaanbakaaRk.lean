/- What two runs have in common, a run's blocks: the code's own. -/
import Derived.Test.YtobeoknaanbakaaRmM
import Derived.Lib.MinMax
import Derived.Deep.RegionHeld3
namespace Go.Proofs.Ytobeoknaanbakaa
open Go.RowKit
set_option linter.unusedVariables false

set_option maxHeartbeats 1000000 in
theorem meet_any (a b : Rn) (w : World) :
    Calls Try.prog 13 #[a.val, b.val] w fun e w' => e = .returned (meet a b).val ∧ Only none_ w w' := by
  have IA := Lib.hid (fun w => is_any a w)
  have IB := Lib.hid (fun w => is_any b w)
  by_cases ha : a.Ok
  · rw [decide_eq_true ha] at IA
    by_cases hb : b.Ok
    · rw [decide_eq_true hb] at IB
      have MT := Lib.hid (show (endOf a b - lowOf a b < 1 ∧ meet a b = ⟨0, 0⟩) ∨ (1 ≤ endOf a b - lowOf a b ∧ meet a b = ⟨lowOf a b, endOf a b - lowOf a b⟩) from by
        by_cases h : lowOf a b < endOf a b
        · exact .inr ⟨by omega, meet_yes ha hb h⟩
        · exact .inl ⟨by omega, meet_no (fun q => h q.2.2)⟩)
      generalize meet a b = m at *
      have EA := Lib.hid (fun w => end_any a w (by unfold Rn.Ok at ha; omega))
      have EB := Lib.hid (fun w => end_any b w (by unfold Rn.Ok at hb; omega))
      unfold Rn.val at *
      go_enter Try.func13, Try.ntmps13
      go_wp2_with fail
      obtain ⟨q0, q1, q2, q4⟩ := three_new w 27 27 27 #[.int .i64 a.f, .int .i64 a.c] #[.int .i64 b.f, .int .i64 b.c] #[.int .i64 0, .int .i64 0]
      have A0 := Lib.hid q0
      have B0 := Lib.hid q1
      have C0 := Lib.hid q2
      have O0 := Lib.hid q4
      clear q0 q1 q2 q4
      revert A0 B0 C0 O0
      generalize ((w.alloc (.cells #[.int .i64 a.f, .int .i64 a.c] 27)).alloc (.cells #[.int .i64 b.f, .int .i64 b.c] 27)).alloc (.cells #[.int .i64 0, .int .i64 0] 27) = W1
      generalize hg2 : w.heap.size + 1 + 1 = g2
      generalize hg1 : w.heap.size + 1 = g1
      generalize hg0 : w.heap.size = g0
      intro A0 B0 C0 O0
      have GW := Lib.hid (show (w.heap.size = g0 ∧ g1 = g0 + 1 ∧ g2 = g0 + 2) from by omega)
      clear hg0 hg1 hg2
      obtain ⟨a0, a1⟩ := A0.out.two
      obtain ⟨b0, b1⟩ := B0.out.two
      (with_reducible refine (IA.out _).mono ?_)
      rintro e w2 ⟨rfl, o2⟩
      have A2 := Lib.hid (o2.still A0.out)
      have B2 := Lib.hid (o2.still B0.out)
      have C2 := Lib.hid (o2.still C0.out)
      have O2 := Lib.hid (O0.out.same o2)
      clear A0 B0 C0 O0 o2 a0 a1 b0 b1
      obtain ⟨b0, b1⟩ := B2.out.two
      go_wp2_with fail
      (with_reducible refine (IB.out _).mono ?_)
      rintro e w3 ⟨rfl, o2⟩
      have A3 := Lib.hid (o2.still A2.out)
      have B3 := Lib.hid (o2.still B2.out)
      have C3 := Lib.hid (o2.still C2.out)
      have O3 := Lib.hid (O2.out.same o2)
      clear A2 B2 C2 O2 o2 b0 b1
      obtain ⟨a0, a1⟩ := A3.out.two
      obtain ⟨b0, b1⟩ := B3.out.two
      go_wp2_with fail
      rw [show max a.f b.f = lowOf a b from by have := low_cases a b; omega]
      have ME := Lib.hid (show min (a.f + a.c) (b.f + b.c) = endOf a b from by have := end_cases a b; omega)
      have LE : 0 ≤ lowOf a b ∧ lowOf a b ≤ 256 ∧ 0 ≤ endOf a b ∧ endOf a b ≤ 256 := by
        have h1 := low_cases a b
        have h2 := end_cases a b
        unfold Rn.Ok at ha hb
        omega
      generalize lowOf a b = l at *
      generalize endOf a b = u at *
      generalize a.f + a.c = ea at *
      generalize b.f + b.c = eb at *
      have v : IntKind.i64.wrap (u - l) = u - l := by rw [IntKind.wrap_i64]; omega
      clear a0 a1 b0 b1 ha hb LE IA IB
      have ND := Lib.hid (Only.refl none_ w3).drew
      have KK := Lib.hid (fun (w' : World) (o : Only none_ w3 w') => And.intro (o.still A3.out).two (o.still B3.out).two)
      obtain ⟨⟨a0, a1⟩, b0, b1⟩ := KK.out _ ND.out
      go_region_held3 (fun w' => (w'.cell? ⟨g0, 0, none⟩ = some (.int .i64 a.f) ∧ w'.cell? ⟨g0, 1, none⟩ = some (.int .i64 a.c)) ∧ (w'.cell? ⟨g1, 0, none⟩ = some (.int .i64 b.f) ∧ w'.cell? ⟨g1, 1, none⟩ = some (.int .i64 b.c)))
        (first
          | (with_reducible exact KK.out _ Q2.out)
          | (with_reducible exact KK.out _ Q1.out)
          | (with_reducible exact KK.out _ ND.out)
          | fail)
        (first
          | ((with_reducible refine (EA.out _).mono ?_); rintro e u1 ⟨rfl, o1⟩; have Q1 := Lib.hid (ND.out.same o1))
          | ((with_reducible refine (EB.out _).mono ?_); rintro e u2 ⟨rfl, o2⟩; have Q2 := Lib.hid (Q1.out.same o2))
          | fail)
      rw [ME.out, v]
      have C4 := Lib.hid (Q2.out.still C3.out)
      have O4 := Lib.hid (O3.out.same Q2.out)
      clear a0 a1 b0 b1 Q1 Q2 ND KK A3 B3 C3 O3 ME v
      rcases MT.out with ⟨h1, h2⟩ | ⟨h1, h2⟩
      · have t : decide (u - l < 1) = true := decide_eq_true h1
        have f0 := C4.out.frozen 0
        have f1 := C4.out.frozen 1
        obtain ⟨c0, c1⟩ := C4.out.two
        subst h2
        clear h1 MT
        go_wp2_with fail
        exact bodyPost_ret (results_run rfl _ _ g2 ⟨0, 0⟩ rfl ((C4.out.put 0 _).put 1 _)) rfl ⟨rfl, (O4.out.new (by have := GW.out; omega) _ _).new (by have := GW.out; omega) _ _⟩
      · have t : decide (u - l < 1) = false := decide_eq_false (by omega)
        have f0 := C4.out.frozen 0
        have f1 := C4.out.frozen 1
        obtain ⟨c0, c1⟩ := C4.out.two
        subst h2
        clear h1 MT
        go_wp2_with fail
        exact bodyPost_ret (results_run rfl _ _ g2 ⟨l, u - l⟩ rfl ((C4.out.put 0 _).put 1 _)) rfl ⟨rfl, (O4.out.new (by have := GW.out; omega) _ _).new (by have := GW.out; omega) _ _⟩
    · rw [decide_eq_false hb] at IB
      rw [show meet a b = ⟨0, 0⟩ from meet_no (fun q => hb q.2.1)]
      clear ha hb
      unfold Rn.val at *
      go_enter Try.func13, Try.ntmps13
      go_wp2_with fail
      obtain ⟨q0, q1, q2, q4⟩ := three_new w 27 27 27 #[.int .i64 a.f, .int .i64 a.c] #[.int .i64 b.f, .int .i64 b.c] #[.int .i64 0, .int .i64 0]
      have A0 := Lib.hid q0
      have B0 := Lib.hid q1
      have C0 := Lib.hid q2
      have O0 := Lib.hid q4
      clear q0 q1 q2 q4
      revert A0 B0 C0 O0
      generalize ((w.alloc (.cells #[.int .i64 a.f, .int .i64 a.c] 27)).alloc (.cells #[.int .i64 b.f, .int .i64 b.c] 27)).alloc (.cells #[.int .i64 0, .int .i64 0] 27) = W1
      generalize hg2 : w.heap.size + 1 + 1 = g2
      generalize hg1 : w.heap.size + 1 = g1
      generalize hg0 : w.heap.size = g0
      intro A0 B0 C0 O0
      have GW := Lib.hid (show (w.heap.size = g0 ∧ g1 = g0 + 1 ∧ g2 = g0 + 2) from by omega)
      clear hg0 hg1 hg2
      obtain ⟨a0, a1⟩ := A0.out.two
      obtain ⟨b0, b1⟩ := B0.out.two
      (with_reducible refine (IA.out _).mono ?_)
      rintro e w2 ⟨rfl, o2⟩
      have A2 := Lib.hid (o2.still A0.out)
      have B2 := Lib.hid (o2.still B0.out)
      have C2 := Lib.hid (o2.still C0.out)
      have O2 := Lib.hid (O0.out.same o2)
      clear A0 B0 C0 O0 o2 a0 a1 b0 b1
      obtain ⟨b0, b1⟩ := B2.out.two
      go_wp2_with fail
      (with_reducible refine (IB.out _).mono ?_)
      rintro e w3 ⟨rfl, o2⟩
      have C4 := Lib.hid (o2.still C2.out)
      have O4 := Lib.hid (O2.out.same o2)
      clear A2 B2 C2 O2 o2 b0 b1
      have f0 := C4.out.frozen 0
      have f1 := C4.out.frozen 1
      obtain ⟨c0, c1⟩ := C4.out.two
      go_wp2_with fail
      exact bodyPost_ret (results_run rfl _ _ g2 ⟨0, 0⟩ rfl ((C4.out.put 0 _).put 1 _)) rfl ⟨rfl, (O4.out.new (by have := GW.out; omega) _ _).new (by have := GW.out; omega) _ _⟩
  · rw [decide_eq_false ha] at IA
    rw [show meet a b = ⟨0, 0⟩ from meet_no (fun q => ha q.1)]
    clear ha
    unfold Rn.val at *
    go_enter Try.func13, Try.ntmps13
    go_wp2_with fail
    obtain ⟨q0, q1, q2, q4⟩ := three_new w 27 27 27 #[.int .i64 a.f, .int .i64 a.c] #[.int .i64 b.f, .int .i64 b.c] #[.int .i64 0, .int .i64 0]
    have A0 := Lib.hid q0
    have B0 := Lib.hid q1
    have C0 := Lib.hid q2
    have O0 := Lib.hid q4
    clear q0 q1 q2 q4
    revert A0 B0 C0 O0
    generalize ((w.alloc (.cells #[.int .i64 a.f, .int .i64 a.c] 27)).alloc (.cells #[.int .i64 b.f, .int .i64 b.c] 27)).alloc (.cells #[.int .i64 0, .int .i64 0] 27) = W1
    generalize hg2 : w.heap.size + 1 + 1 = g2
    generalize hg1 : w.heap.size + 1 = g1
    generalize hg0 : w.heap.size = g0
    intro A0 B0 C0 O0
    have GW := Lib.hid (show (w.heap.size = g0 ∧ g1 = g0 + 1 ∧ g2 = g0 + 2) from by omega)
    clear hg0 hg1 hg2
    obtain ⟨a0, a1⟩ := A0.out.two
    obtain ⟨b0, b1⟩ := B0.out.two
    (with_reducible refine (IA.out _).mono ?_)
    rintro e w2 ⟨rfl, o2⟩
    have A2 := Lib.hid (o2.still A0.out)
    have B2 := Lib.hid (o2.still B0.out)
    have C2 := Lib.hid (o2.still C0.out)
    have O2 := Lib.hid (O0.out.same o2)
    clear A0 B0 C0 O0 o2 a0 a1 b0 b1
    obtain ⟨b0, b1⟩ := B2.out.two
    have f0 := C2.out.frozen 0
    have f1 := C2.out.frozen 1
    obtain ⟨c0, c1⟩ := C2.out.two
    go_wp2_with fail
    exact bodyPost_ret (results_run rfl _ _ g2 ⟨0, 0⟩ rfl ((C2.out.put 0 _).put 1 _)) rfl ⟨rfl, (O2.out.new (by have := GW.out; omega) _ _).new (by have := GW.out; omega) _ _⟩
end Go.Proofs.Ytobeoknaanbakaa

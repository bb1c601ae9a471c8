/- Proved: the statement AmpTurns of layer 9, for every pace and every number, on no condition. -/
import Derived.Test.YtlpijieimidnoaaRows
import Derived.WalkKit
import Derived.ProofKit
import Derived.OpenShut
import Derived.Below
import Derived.Test.YtlpijieimidnoaaArgs
import Derived.Test.YtlpijieimidnoaaAmpAwake
import Derived.Test.YtlpijieimidnoaaAmpAgain
namespace Go.Proofs.Ytlpijieimidnoaa.ampTurns
open Go.ChangeShapes Go.WideShapes Go.ChangeAt Go.RowKit
set_option linter.unusedVariables false

theorem own : ownKnob Try.prog.godebug = none := by kernel_rfl
theorem laidOut : laidOutB Try.prog = true := by kernel_rfl

set_option maxHeartbeats 1000000 in
set_option maxRecDepth 100000 in
theorem walk (w : World) (f : Fl) (hf : f.Wf) (a1 : Int) (w1 : (Lit.int .u8 a1).wf = true) :
    Calls Try.prog 8 #[f.val, .int .u8 a1] w fun e w' => e = .returned (.bool true) ∧ Below w.heap.size w w' := by
  have x1 := bd_u8 w1
  clear w1
  obtain ⟨N, hN, N40⟩ : ∃ N : Nat, a1 % 40 = N ∧ N < 40 := ⟨(a1 % 40).toNat, by omega, by omega⟩
  have MA := Lib.hid (fun w => may_any f 16 256 w)
  by_cases hm : f.May 16 256
  · rw [decide_eq_true hm] at MA
    have LM := Lib.hid (fun k => lates_may f hm k)
    have WM := Lib.hid (fun k => wastes_may f hm k)
    have TM := Lib.hid (fun k => turns_may f hm k)
    have LE := Lib.hid (lates_eq f hm N)
    have WE := Lib.hid (wastes_eq f hm N)
    have TP := Lib.hid (turns_p f hm N)
    have LA := Lib.hid (fun (g : Fl) (h : g.May 16 256) w => late_any g w (May.wf h))
    have WA := Lib.hid (fun (g : Fl) (h : g.May 16 256) w => waste_any g w (May.wf h))
    have MY := Lib.hid (fun (g : Fl) (h : g.May 16 256) w => (by have := may_any g 16 256 w; rw [decide_eq_true h] at this; exact this : Calls Try.prog 12 #[g.val, .int .i64 16, .int .i64 256] w fun e w' => e = .returned (.bool true) ∧ Only none_ w w'))
    have HM := Lib.hid hm
    have fp0 := hm.p0; have fp1 := hm.pd; have fg0 := hm.g0; have fgp := hm.gp
    have v1 : IntKind.i64.wrap (f.p - N) = f.p - N := by rw [IntKind.wrap_i64]; omega
    have v2 : IntKind.i64.wrap (f.g + N) = f.g + N := by rw [IntKind.wrap_i64]; omega
    have v3 : IntKind.i64.wrap (f.p - 1) = f.p - 1 := by rw [IntKind.wrap_i64]; omega
    have v4 : IntKind.i64.wrap (f.g - N) = f.g - N := by rw [IntKind.wrap_i64]; omega
    have v5 : IntKind.i64.wrap (max (f.p - N) 1 - 1) = max (f.p - N) 1 - 1 := by rw [IntKind.wrap_i64]; omega
    clear hm hf fp0 fp1 fg0 fgp
    unfold Fl.val at MA LA WA MY ⊢
    go_enter Try.func8, Try.ntmps8
    go_wp2_with fail
    have R0 := Lib.hid (Row.fresh w 23 #[.int .i64 f.n, .int .i64 f.a, .int .i64 f.p, .int .i64 f.g])
    have OA := Lib.hid ((Only.refl none_ w).alloc (.cells #[.int .i64 f.n, .int .i64 f.a, .int .i64 f.p, .int .i64 f.g] 23))
    generalize w.alloc (.cells #[.int .i64 f.n, .int .i64 f.a, .int .i64 f.p, .int .i64 f.g] 23) = W1 at *
    obtain ⟨b0, hb0⟩ : ∃ b0, w.heap.size = b0 := ⟨_, rfl⟩
    have L0 := Lib.hid (show w.heap.size ≤ b0 by omega)
    rw [hb0] at R0 ⊢
    clear hb0
    (with_reducible refine (awake_any _).mono ?_)
    rintro e w1 ⟨rfl, o⟩
    have OB := Lib.hid (OA.out.same o)
    have S0 := Lib.hid (o.still R0.out)
    obtain ⟨c0, c1, c2, c3⟩ := S0.out.four
    clear R0 OA o
    go_wp2_with fail
    (with_reducible refine (MA.out _).mono ?_)
    rintro e w2 ⟨rfl, o⟩
    have OC := Lib.hid (OB.out.same o)
    have T0 := Lib.hid (o.still S0.out)
    clear o c0 c1 c2 c3 OB S0
    obtain ⟨c0, c1, c2, c3⟩ := T0.out.four
    have lt0 : b0 < w2.heap.size := T0.out.lt
    have lt1 : b0 < w2.heap.size + 1 := by omega
    have lt2 : b0 < w2.heap.size + 1 + 1 := by omega
    go_wp2_with fail
    simp only [hN]
    clear hN x1
    have P6 := Lib.hid (((Row.fresh w2 23 #[.int .i64 f.n, .int .i64 f.a, .int .i64 f.p, .int .i64 f.g]).alloc (.cells #[.int .i64 f.n, .int .i64 f.a, .int .i64 f.p, .int .i64 f.g] 23)).alloc (.cells #[.int .i64 f.n, .int .i64 f.a, .int .i64 f.p, .int .i64 f.g] 23))
    have p7 := (Row.fresh (w2.alloc (.cells #[.int .i64 f.n, .int .i64 f.a, .int .i64 f.p, .int .i64 f.g] 23)) 23 #[.int .i64 f.n, .int .i64 f.a, .int .i64 f.p, .int .i64 f.g]).alloc (.cells #[.int .i64 f.n, .int .i64 f.a, .int .i64 f.p, .int .i64 f.g] 23)
    have p8 := Row.fresh ((w2.alloc (.cells #[.int .i64 f.n, .int .i64 f.a, .int .i64 f.p, .int .i64 f.g] 23)).alloc (.cells #[.int .i64 f.n, .int .i64 f.a, .int .i64 f.p, .int .i64 f.g] 23)) 23 #[.int .i64 f.n, .int .i64 f.a, .int .i64 f.p, .int .i64 f.g]
    rw [World.size_alloc] at p7
    rw [World.size_alloc, World.size_alloc] at p8
    have PO := Lib.hid ((((Only.refl none_ w2).alloc (.cells #[.int .i64 f.n, .int .i64 f.a, .int .i64 f.p, .int .i64 f.g] 23)).alloc (.cells #[.int .i64 f.n, .int .i64 f.a, .int .i64 f.p, .int .i64 f.g] 23)).alloc (.cells #[.int .i64 f.n, .int .i64 f.a, .int .i64 f.p, .int .i64 f.g] 23))
    have P7 := Lib.hid p7
    have P8 := Lib.hid p8
    have U0 := Lib.hid (PO.out.still T0.out)
    have OD := Lib.hid (OC.out.same PO.out)
    have lw := OC.out.size
    obtain ⟨b6, hb6⟩ : ∃ b6, w2.heap.size = b6 := ⟨_, rfl⟩
    obtain ⟨b7, hb7⟩ : ∃ b7, w2.heap.size + 1 = b7 := ⟨_, rfl⟩
    obtain ⟨b8, hb8⟩ : ∃ b8, w2.heap.size + 1 + 1 = b8 := ⟨_, rfl⟩
    have L6 := Lib.hid (show w.heap.size ≤ b6 by omega)
    have L7 := Lib.hid (show w.heap.size ≤ b7 by omega)
    have L8 := Lib.hid (show w.heap.size ≤ b8 by omega)
    have n06 : b0 ≠ b6 := by omega
    have n07 : b0 ≠ b7 := by omega
    have n08 : b0 ≠ b8 := by omega
    have n67 : b6 ≠ b7 := by omega
    have n68 : b6 ≠ b8 := by omega
    have n78 : b7 ≠ b8 := by omega
    have n76 : b7 ≠ b6 := by omega
    have n86 : b8 ≠ b6 := by omega
    have n87 : b8 ≠ b7 := by omega
    rw [hb6] at P6
    rw [hb7] at p7 P7
    rw [hb8] at p8 P8
    rw [hb8, hb7, hb6]
    clear c0 c1 c2 c3 lt0 lt1 lt2 p7 p8 T0 OC PO lw hb6 hb7 hb8
    generalize ((w2.alloc (.cells #[.int .i64 f.n, .int .i64 f.a, .int .i64 f.p, .int .i64 f.g] 23)).alloc (.cells #[.int .i64 f.n, .int .i64 f.a, .int .i64 f.p, .int .i64 f.g] 23)).alloc (.cells #[.int .i64 f.n, .int .i64 f.a, .int .i64 f.p, .int .i64 f.g] 23) = W2 at *
    go_wp2_with fail
    go_loopw [9] (fun i wr => ∃ j : Nat, j ≤ N ∧ i = .int .i64 j ∧ Row wr b0 23 #[.int .i64 f.n, .int .i64 f.a, .int .i64 f.p, .int .i64 f.g] ∧ Row wr b6 23 #[.int .i64 (f.lates j).n, .int .i64 (f.lates j).a, .int .i64 (f.lates j).p, .int .i64 (f.lates j).g] ∧ Row wr b7 23 #[.int .i64 (f.wastes j).n, .int .i64 (f.wastes j).a, .int .i64 (f.wastes j).p, .int .i64 (f.wastes j).g] ∧ Row wr b8 23 #[.int .i64 (f.turns j).n, .int .i64 (f.turns j).a, .int .i64 (f.turns j).p, .int .i64 (f.turns j).g] ∧ Only none_ w wr) (fun i _ => N - (intOf i).toNat)
    case atStart => exact ⟨0, Nat.zero_le _, rfl, U0.out, P6.out, P7.out, P8.out, OD.out⟩
    case round =>
      obtain ⟨j, hj, rfl, r0, r6, r7, r8, ro⟩ := hrel
      clear U0 P6 P7 P8 OD
      have R0 := Lib.hid r0
      have R6 := Lib.hid r6
      have R7 := Lib.hid r7
      have R8 := Lib.hid r8
      have RO := Lib.hid ro
      clear r0 r6 r7 r8 ro
      by_cases q : j < N
      · obtain ⟨l, hl⟩ : ∃ l, f.lates j = l := ⟨_, rfl⟩
        obtain ⟨s, hs⟩ : ∃ s, f.wastes j = s := ⟨_, rfl⟩
        obtain ⟨t, ht⟩ : ∃ t, f.turns j = t := ⟨_, rfl⟩
        have ml := Lib.hid (show l.May 16 256 from hl ▸ LM.out j)
        have ms := Lib.hid (show s.May 16 256 from hs ▸ WM.out j)
        have mt := Lib.hid (show t.May 16 256 from ht ▸ TM.out j)
        have m2 := Lib.hid (show t.late.May 16 256 from late_may mt.out)
        have m3 := Lib.hid (show t.late.waste.May 16 256 from waste_may m2.out)
        have el := Lib.hid (show l.late = f.lates (j + 1) from by rw [← hl]; rfl)
        have es := Lib.hid (show s.waste = f.wastes (j + 1) from by rw [← hs]; rfl)
        have et := Lib.hid (show t.late.waste = f.turns (j + 1) from by rw [← ht]; rfl)
        rw [hl] at R6
        rw [hs] at R7
        rw [ht] at R8
        have c1' := Lib.hid (fun w => LA.out l ml.out w)
        have c2' := Lib.hid (fun w => WA.out s ms.out w)
        have c3' := Lib.hid (fun w => LA.out t mt.out w)
        have c4' := Lib.hid (fun w => WA.out t.late m2.out w)
        have c5' := Lib.hid (fun w => MY.out t.late.waste m3.out w)
        generalize l.late = l2 at *
        generalize s.waste = s2 at *
        generalize t.late.waste = t2 at *
        generalize t.late = t1 at *
        clear hl hs ht ml ms mt m2 m3
        obtain ⟨c0, c1, c2, c3⟩ := R6.out.four
        go_wp2_with fail
        (with_reducible refine (c1'.out _).mono ?_)
        rintro e u1 ⟨rfl, o⟩
        have S0 := Lib.hid (o.still R0.out)
        have S6 := Lib.hid (o.still R6.out)
        have S7 := Lib.hid (o.still R7.out)
        have S8 := Lib.hid (o.still R8.out)
        have SO := Lib.hid (RO.out.same o)
        clear o R0 R6 R7 R8 RO c0 c1 c2 c3
        have z := S6.out.frozen
        obtain ⟨c0, c1, c2, c3⟩ := S6.out.four
        obtain ⟨d0, d1, d2, d3⟩ := S7.out.four
        go_wp2_with fail
        have R0 := Lib.hid (show Row ((((u1.setCell ⟨b6, 0, none⟩ (.int .i64 l2.n)).setCell ⟨b6, 1, none⟩ (.int .i64 l2.a)).setCell ⟨b6, 2, none⟩ (.int .i64 l2.p)).setCell ⟨b6, 3, none⟩ (.int .i64 l2.g)) b0 23 #[.int .i64 f.n, .int .i64 f.a, .int .i64 f.p, .int .i64 f.g] from ((((S0.out.far (p := ⟨b6, 0, none⟩) n06 (.int .i64 l2.n)).far (p := ⟨b6, 1, none⟩) n06 (.int .i64 l2.a)).far (p := ⟨b6, 2, none⟩) n06 (.int .i64 l2.p)).far (p := ⟨b6, 3, none⟩) n06 (.int .i64 l2.g)))
        have R6 := Lib.hid (show Row ((((u1.setCell ⟨b6, 0, none⟩ (.int .i64 l2.n)).setCell ⟨b6, 1, none⟩ (.int .i64 l2.a)).setCell ⟨b6, 2, none⟩ (.int .i64 l2.p)).setCell ⟨b6, 3, none⟩ (.int .i64 l2.g)) b6 23 #[.int .i64 l2.n, .int .i64 l2.a, .int .i64 l2.p, .int .i64 l2.g] from ((((S6.out.put 0 (.int .i64 l2.n)).put 1 (.int .i64 l2.a)).put 2 (.int .i64 l2.p)).put 3 (.int .i64 l2.g)))
        have R7 := Lib.hid (show Row ((((u1.setCell ⟨b6, 0, none⟩ (.int .i64 l2.n)).setCell ⟨b6, 1, none⟩ (.int .i64 l2.a)).setCell ⟨b6, 2, none⟩ (.int .i64 l2.p)).setCell ⟨b6, 3, none⟩ (.int .i64 l2.g)) b7 23 #[.int .i64 s.n, .int .i64 s.a, .int .i64 s.p, .int .i64 s.g] from ((((S7.out.far (p := ⟨b6, 0, none⟩) n76 (.int .i64 l2.n)).far (p := ⟨b6, 1, none⟩) n76 (.int .i64 l2.a)).far (p := ⟨b6, 2, none⟩) n76 (.int .i64 l2.p)).far (p := ⟨b6, 3, none⟩) n76 (.int .i64 l2.g)))
        have R8 := Lib.hid (show Row ((((u1.setCell ⟨b6, 0, none⟩ (.int .i64 l2.n)).setCell ⟨b6, 1, none⟩ (.int .i64 l2.a)).setCell ⟨b6, 2, none⟩ (.int .i64 l2.p)).setCell ⟨b6, 3, none⟩ (.int .i64 l2.g)) b8 23 #[.int .i64 t.n, .int .i64 t.a, .int .i64 t.p, .int .i64 t.g] from ((((S8.out.far (p := ⟨b6, 0, none⟩) n86 (.int .i64 l2.n)).far (p := ⟨b6, 1, none⟩) n86 (.int .i64 l2.a)).far (p := ⟨b6, 2, none⟩) n86 (.int .i64 l2.p)).far (p := ⟨b6, 3, none⟩) n86 (.int .i64 l2.g)))
        have RO := Lib.hid ((((SO.out.new L6.out 0 (.int .i64 l2.n)).new L6.out 1 (.int .i64 l2.a)).new L6.out 2 (.int .i64 l2.p)).new L6.out 3 (.int .i64 l2.g))
        clear S0 S6 S7 S8 SO z c0 c1 c2 c3 d0 d1 d2 d3
        generalize ((((u1.setCell ⟨b6, 0, none⟩ (.int .i64 l2.n)).setCell ⟨b6, 1, none⟩ (.int .i64 l2.a)).setCell ⟨b6, 2, none⟩ (.int .i64 l2.p)).setCell ⟨b6, 3, none⟩ (.int .i64 l2.g)) = v1 at *
        obtain ⟨c0, c1, c2, c3⟩ := R7.out.four
        (with_reducible refine (c2'.out _).mono ?_)
        rintro e u2 ⟨rfl, o⟩
        have S0 := Lib.hid (o.still R0.out)
        have S6 := Lib.hid (o.still R6.out)
        have S7 := Lib.hid (o.still R7.out)
        have S8 := Lib.hid (o.still R8.out)
        have SO := Lib.hid (RO.out.same o)
        clear o R0 R6 R7 R8 RO c0 c1 c2 c3
        have z := S7.out.frozen
        obtain ⟨c0, c1, c2, c3⟩ := S7.out.four
        obtain ⟨d0, d1, d2, d3⟩ := S8.out.four
        go_wp2_with fail
        have R0 := Lib.hid (show Row ((((u2.setCell ⟨b7, 0, none⟩ (.int .i64 s2.n)).setCell ⟨b7, 1, none⟩ (.int .i64 s2.a)).setCell ⟨b7, 2, none⟩ (.int .i64 s2.p)).setCell ⟨b7, 3, none⟩ (.int .i64 s2.g)) b0 23 #[.int .i64 f.n, .int .i64 f.a, .int .i64 f.p, .int .i64 f.g] from ((((S0.out.far (p := ⟨b7, 0, none⟩) n07 (.int .i64 s2.n)).far (p := ⟨b7, 1, none⟩) n07 (.int .i64 s2.a)).far (p := ⟨b7, 2, none⟩) n07 (.int .i64 s2.p)).far (p := ⟨b7, 3, none⟩) n07 (.int .i64 s2.g)))
        have R6 := Lib.hid (show Row ((((u2.setCell ⟨b7, 0, none⟩ (.int .i64 s2.n)).setCell ⟨b7, 1, none⟩ (.int .i64 s2.a)).setCell ⟨b7, 2, none⟩ (.int .i64 s2.p)).setCell ⟨b7, 3, none⟩ (.int .i64 s2.g)) b6 23 #[.int .i64 l2.n, .int .i64 l2.a, .int .i64 l2.p, .int .i64 l2.g] from ((((S6.out.far (p := ⟨b7, 0, none⟩) n67 (.int .i64 s2.n)).far (p := ⟨b7, 1, none⟩) n67 (.int .i64 s2.a)).far (p := ⟨b7, 2, none⟩) n67 (.int .i64 s2.p)).far (p := ⟨b7, 3, none⟩) n67 (.int .i64 s2.g)))
        have R7 := Lib.hid (show Row ((((u2.setCell ⟨b7, 0, none⟩ (.int .i64 s2.n)).setCell ⟨b7, 1, none⟩ (.int .i64 s2.a)).setCell ⟨b7, 2, none⟩ (.int .i64 s2.p)).setCell ⟨b7, 3, none⟩ (.int .i64 s2.g)) b7 23 #[.int .i64 s2.n, .int .i64 s2.a, .int .i64 s2.p, .int .i64 s2.g] from ((((S7.out.put 0 (.int .i64 s2.n)).put 1 (.int .i64 s2.a)).put 2 (.int .i64 s2.p)).put 3 (.int .i64 s2.g)))
        have R8 := Lib.hid (show Row ((((u2.setCell ⟨b7, 0, none⟩ (.int .i64 s2.n)).setCell ⟨b7, 1, none⟩ (.int .i64 s2.a)).setCell ⟨b7, 2, none⟩ (.int .i64 s2.p)).setCell ⟨b7, 3, none⟩ (.int .i64 s2.g)) b8 23 #[.int .i64 t.n, .int .i64 t.a, .int .i64 t.p, .int .i64 t.g] from ((((S8.out.far (p := ⟨b7, 0, none⟩) n87 (.int .i64 s2.n)).far (p := ⟨b7, 1, none⟩) n87 (.int .i64 s2.a)).far (p := ⟨b7, 2, none⟩) n87 (.int .i64 s2.p)).far (p := ⟨b7, 3, none⟩) n87 (.int .i64 s2.g)))
        have RO := Lib.hid ((((SO.out.new L7.out 0 (.int .i64 s2.n)).new L7.out 1 (.int .i64 s2.a)).new L7.out 2 (.int .i64 s2.p)).new L7.out 3 (.int .i64 s2.g))
        clear S0 S6 S7 S8 SO z c0 c1 c2 c3 d0 d1 d2 d3
        generalize ((((u2.setCell ⟨b7, 0, none⟩ (.int .i64 s2.n)).setCell ⟨b7, 1, none⟩ (.int .i64 s2.a)).setCell ⟨b7, 2, none⟩ (.int .i64 s2.p)).setCell ⟨b7, 3, none⟩ (.int .i64 s2.g)) = v2 at *
        obtain ⟨c0, c1, c2, c3⟩ := R8.out.four
        (with_reducible refine (c3'.out _).mono ?_)
        rintro e u3 ⟨rfl, o⟩
        have S0 := Lib.hid (o.still R0.out)
        have S6 := Lib.hid (o.still R6.out)
        have S7 := Lib.hid (o.still R7.out)
        have S8 := Lib.hid (o.still R8.out)
        have SO := Lib.hid (RO.out.same o)
        clear o R0 R6 R7 R8 RO c0 c1 c2 c3
        go_wp2_with fail
        (with_reducible refine (c4'.out _).mono ?_)
        rintro e u4 ⟨rfl, o⟩
        replace S0 := Lib.hid (o.still S0.out)
        replace S6 := Lib.hid (o.still S6.out)
        replace S7 := Lib.hid (o.still S7.out)
        replace S8 := Lib.hid (o.still S8.out)
        replace SO := Lib.hid (SO.out.same o)
        clear o
        have z := S8.out.frozen
        obtain ⟨c0, c1, c2, c3⟩ := S8.out.four
        go_wp2_with fail
        have R0 := Lib.hid (show Row ((((u4.setCell ⟨b8, 0, none⟩ (.int .i64 t2.n)).setCell ⟨b8, 1, none⟩ (.int .i64 t2.a)).setCell ⟨b8, 2, none⟩ (.int .i64 t2.p)).setCell ⟨b8, 3, none⟩ (.int .i64 t2.g)) b0 23 #[.int .i64 f.n, .int .i64 f.a, .int .i64 f.p, .int .i64 f.g] from ((((S0.out.far (p := ⟨b8, 0, none⟩) n08 (.int .i64 t2.n)).far (p := ⟨b8, 1, none⟩) n08 (.int .i64 t2.a)).far (p := ⟨b8, 2, none⟩) n08 (.int .i64 t2.p)).far (p := ⟨b8, 3, none⟩) n08 (.int .i64 t2.g)))
        have R6 := Lib.hid (show Row ((((u4.setCell ⟨b8, 0, none⟩ (.int .i64 t2.n)).setCell ⟨b8, 1, none⟩ (.int .i64 t2.a)).setCell ⟨b8, 2, none⟩ (.int .i64 t2.p)).setCell ⟨b8, 3, none⟩ (.int .i64 t2.g)) b6 23 #[.int .i64 l2.n, .int .i64 l2.a, .int .i64 l2.p, .int .i64 l2.g] from ((((S6.out.far (p := ⟨b8, 0, none⟩) n68 (.int .i64 t2.n)).far (p := ⟨b8, 1, none⟩) n68 (.int .i64 t2.a)).far (p := ⟨b8, 2, none⟩) n68 (.int .i64 t2.p)).far (p := ⟨b8, 3, none⟩) n68 (.int .i64 t2.g)))
        have R7 := Lib.hid (show Row ((((u4.setCell ⟨b8, 0, none⟩ (.int .i64 t2.n)).setCell ⟨b8, 1, none⟩ (.int .i64 t2.a)).setCell ⟨b8, 2, none⟩ (.int .i64 t2.p)).setCell ⟨b8, 3, none⟩ (.int .i64 t2.g)) b7 23 #[.int .i64 s2.n, .int .i64 s2.a, .int .i64 s2.p, .int .i64 s2.g] from ((((S7.out.far (p := ⟨b8, 0, none⟩) n78 (.int .i64 t2.n)).far (p := ⟨b8, 1, none⟩) n78 (.int .i64 t2.a)).far (p := ⟨b8, 2, none⟩) n78 (.int .i64 t2.p)).far (p := ⟨b8, 3, none⟩) n78 (.int .i64 t2.g)))
        have R8 := Lib.hid (show Row ((((u4.setCell ⟨b8, 0, none⟩ (.int .i64 t2.n)).setCell ⟨b8, 1, none⟩ (.int .i64 t2.a)).setCell ⟨b8, 2, none⟩ (.int .i64 t2.p)).setCell ⟨b8, 3, none⟩ (.int .i64 t2.g)) b8 23 #[.int .i64 t2.n, .int .i64 t2.a, .int .i64 t2.p, .int .i64 t2.g] from ((((S8.out.put 0 (.int .i64 t2.n)).put 1 (.int .i64 t2.a)).put 2 (.int .i64 t2.p)).put 3 (.int .i64 t2.g)))
        have RO := Lib.hid ((((SO.out.new L8.out 0 (.int .i64 t2.n)).new L8.out 1 (.int .i64 t2.a)).new L8.out 2 (.int .i64 t2.p)).new L8.out 3 (.int .i64 t2.g))
        clear S0 S6 S7 S8 SO z c0 c1 c2 c3
        generalize ((((u4.setCell ⟨b8, 0, none⟩ (.int .i64 t2.n)).setCell ⟨b8, 1, none⟩ (.int .i64 t2.a)).setCell ⟨b8, 2, none⟩ (.int .i64 t2.p)).setCell ⟨b8, 3, none⟩ (.int .i64 t2.g)) = v4 at *
        obtain ⟨c0, c1, c2, c3⟩ := R8.out.four
        (with_reducible refine (c5'.out _).mono ?_)
        rintro e u5 ⟨rfl, o⟩
        have S0 := Lib.hid (o.still R0.out)
        have S6 := Lib.hid (o.still R6.out)
        have S7 := Lib.hid (o.still R7.out)
        have S8 := Lib.hid (o.still R8.out)
        have SO := Lib.hid (RO.out.same o)
        clear o R0 R6 R7 R8 RO c0 c1 c2 c3
        go_wp2_with fail
        go_roundw
        case rel => exact ⟨j + 1, by omega, by go_num, S0.out, by rw [← el.out]; exact S6.out, by rw [← es.out]; exact S7.out, by rw [← et.out]; exact S8.out, SO.out⟩
        case measure => simp [intOf]; omega
      · obtain rfl : j = N := by omega
        have TP' := TP.out
        rw [LE.out] at R6
        rw [WE.out] at R7
        rw [TP'] at R8
        have e1 := fun w => eq_fl ⟨f.n, f.a, f.p, min (f.g + (j : Int)) (f.p - 1)⟩ ⟨f.n, f.a, f.p, min (f.g + (j : Int)) (f.p - 1)⟩ w
        have e2 := fun w => eq_fl ⟨f.n, f.a, max (f.p - (j : Int)) 1, min (max (f.g - (j : Int)) 0) (max (f.p - (j : Int)) 1 - 1)⟩ ⟨f.n, f.a, max (f.p - (j : Int)) 1, min (max (f.g - (j : Int)) 0) (max (f.p - (j : Int)) 1 - 1)⟩ w
        simp only [decide_true] at e1 e2
        obtain ⟨c0, c1, c2, c3⟩ := R0.out.four
        obtain ⟨d0, d1, d2, d3⟩ := R6.out.four
        obtain ⟨f0, f1, f2, f3⟩ := R7.out.four
        obtain ⟨g0, g1, g2, g3⟩ := R8.out.four
        clear LE WE TP TP' LM WM TM LA WA MY HM
        go_wp2_with fail
        go_ret
        exact ⟨rfl, RO.out.to_below9⟩
  · rw [decide_eq_false hm] at MA
    clear hm hf hN N40
    unfold Fl.val at MA ⊢
    go_enter Try.func8, Try.ntmps8
    go_wp2_with fail
    have R0 := Lib.hid (Row.fresh w 23 #[.int .i64 f.n, .int .i64 f.a, .int .i64 f.p, .int .i64 f.g])
    have OA := Lib.hid ((Only.refl none_ w).alloc (.cells #[.int .i64 f.n, .int .i64 f.a, .int .i64 f.p, .int .i64 f.g] 23))
    generalize w.alloc (.cells #[.int .i64 f.n, .int .i64 f.a, .int .i64 f.p, .int .i64 f.g] 23) = W1 at *
    generalize w.heap.size = b0 at R0 ⊢
    (with_reducible refine (awake_any _).mono ?_)
    rintro e w1 ⟨rfl, o⟩
    have OB := Lib.hid (OA.out.same o)
    have S0 := Lib.hid (o.still R0.out)
    obtain ⟨c0, c1, c2, c3⟩ := S0.out.four
    clear R0 OA o
    go_wp2_with fail
    (with_reducible refine (MA.out _).mono ?_)
    rintro e w2 ⟨rfl, o⟩
    have OC := Lib.hid (OB.out.same o)
    clear o c0 c1 c2 c3
    go_wp2_with fail
    go_ret
    exact ⟨rfl, OC.out.to_below9⟩


set_option maxRecDepth 100000 in
theorem lifted (os : Os) (started : os.Started) (H : Type) (enc : TypeId × Value → H) :
    ReturnsInHanded {} Try.checked os 8 .any (Rows.ampTurnsSpec.pre6 enc Try.prog Try.f8 Rows.ampTurnsRow.domain false) (Rows.ampTurnsSpec.post enc Try.prog Try.f8 false true false false) := by
  refine returnsInHanded_of_change (C := Try.checked) own started (by kernel_rfl) Try.func8
    (ChangeSpec.witness6 (enc := enc) (C := Try.checked) false ⟨#[], #[.agg #[.int .i64 0, .int .i64 0, .int .i64 0, .int .i64 0], .int .u8 0], []⟩ 8 (by kernel_rfl) (by kernel_rfl) (by kernel_rfl) (by kernel_rfl)) ?_
  intro W base args ds gs before hval0 hW hcnd _
  have hval : ∀ (j : Nat) t v, Try.f8.params[j]? = some t → args[j]? = some v → Value.okWide Try.prog W .any base t v := hval0
  have hW' := hW
  obtain ⟨p, q, hA0, hV, rfl, hfz, hnd⟩ := hW
  have hA : DataW.TrodAll enc Try.prog W 0 (fun _ => true) true Try.f8.params.toList args.toList ds p := hA0
  rw [Try.params8] at hA hval
  obtain ⟨v0, vs0, d0, ds0, p0, q0, hargs, rfl, rfl, h0, r0⟩ := trodAll_cons hA
  obtain ⟨v1, vs1, d1, ds1, p1, q1, rfl, rfl, rfl, h1, r1⟩ := trodAll_cons r0
  obtain ⟨rfl, rfl, rfl⟩ := trodAll_nil r1
  obtain rfl : args = #[v0, v1] := by cases args; simp_all
  obtain ⟨rfl, rfl⟩ := trodVars_none hV
  have o0 := hval 0 23 v0 rfl rfl
  have k0 := h0
  have lt0 : ∀ x ∈ p0, x.block < W.heap.size := by obtain ⟨m, hm⟩ := k0; exact DataW.trod_lt m _ _ _ hm
  obtain ⟨a0, rfl, wa0⟩ := open_flow W base H enc v0 d0 p0 o0 h0
  obtain ⟨a1, rfl, rfl, rfl, w1⟩ := open_int Try.underlying5 (hval 1 5 v1 rfl rfl) h1
  have shut : ∀ W', Below W.heap.size W W' → DataW.TrodAll enc Try.prog W' 0 (fun b => decide (b < W.heap.size)) true [23, 5] [a0.val, .int .u8 a1] [d0, .lit (.int .u8 a1)] (p0 ++ ([] ++ [])) := fun W' bel =>
    (trodAll_cons_mk (Below.trod laidOut (by kernel_rfl) (of_decide_eq_true (by kernel_rfl)) k0 bel lt0) (trodAll_cons_mk (shut_int Try.underlying5 w1) trodAll_mk0))
  clear hA0 hval0
  refine (walk W a0 wa0 a1 w1).mono fun e W' ⟨he, bel⟩ => ?_
  subst he
  exact ⟨_, rfl, _, _, _, [], _, [], hW', trodAll_mk1 (shut_bool Try.underlying4 _), shut W' bel, rfl, bel.frame _, fun h => by cases h⟩

theorem over : Rows.ampTurnsRow.holds Try.pinned (OpenSpec.ofChange Rows.ampTurnsSpec) :=
  OpenClaim.holds_of_wide 8 Try.f8 rfl rfl rfl rfl rfl rfl rfl ⟨rfl, rfl, rfl, rfl, rfl⟩ rfl rfl rfl rfl rfl (by kernel_rfl) Try.func8 (by kernel_rfl)
    (of_decide_eq_true (by kernel_rfl)) (by unfold Func.isWrapper; first | (rw [if_pos (by decide +kernel)]; kernel_rfl) | (rw [if_neg (by decide +kernel)]; exact ⟨rfl, rfl⟩))
    (fun os started H enc _ => lifted os started H enc)

theorem ampTurns_holds : Rows.AmpTurnsSaid := over
#print axioms ampTurns_holds
end Go.Proofs.Ytlpijieimidnoaa.ampTurns

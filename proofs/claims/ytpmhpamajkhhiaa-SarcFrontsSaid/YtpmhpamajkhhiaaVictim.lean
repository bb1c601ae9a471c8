/- What Victim does to any policy that lies in memory. -/
import Derived.Test.YtpmhpamajkhhiaaSarcV
namespace Go.Proofs.Ytpmhpamajkhhiaa
open Go.RowKit
set_option linter.unusedVariables false

theorem last0_any (p b : Nat) (s : Sh) (w : World) (h : Lies w p b s) :
    Calls Try.prog 40 #[.pointer (some ⟨p, 0, none⟩), .int .i64 0] w fun e w' => e = .returned (lastV (s.lastOk 0)) ∧ Below w.heap.size w w' :=
  (callsIn_wide (n := 5)).1 (last_in p b s 0 w h)
theorem last1_any (p b : Nat) (s : Sh) (w : World) (h : Lies w p b s) :
    Calls Try.prog 40 #[.pointer (some ⟨p, 0, none⟩), .int .i64 1] w fun e w' => e = .returned (lastV (s.lastOk 1)) ∧ Below w.heap.size w w' :=
  (callsIn_wide (n := 5)).1 (last_in p b s 1 w h)

def victimC (c : Sc) (e : Ending) : Prop := e = .returned (lastV c.victim)

set_option maxRecDepth 100000 in
set_option maxHeartbeats 4000000 in
theorem victim_any (P p b : Nat) (c : Sc) (w : World) (h : SLies w P p b c) (hu : c.us.length < 1000000) :
    Calls Try.prog 18 #[.pointer (some ⟨P, 0, none⟩)] w fun e w' => e = .returned (lastV c.victim) ∧ SLies w' P p b c.victimS ∧ Only (two P b) w w' := by
  have H := Lib.hid h
  have L0 := Lib.hid (fun w' (o : Only none_ w w') => last0_any p b c.s w' (h.raw.still o).shelf)
  have L1 := Lib.hid (fun w' (o : Only none_ w w') => last1_any p b c.s w' (h.raw.still o).shelf)
  obtain ⟨x0, b0, e0⟩ : ∃ (x0 : Nat) (b0 : Bool), lastV (c.s.lastOk 0) = .tuple #[.int .i64 x0, .bool b0] := ⟨_, _, rfl⟩
  obtain ⟨x1, b1, e1⟩ : ∃ (x1 : Nat) (b1 : Bool), lastV (c.s.lastOk 1) = .tuple #[.int .i64 x1, .bool b1] := ⟨_, _, rfl⟩
  rw [e0] at L0
  rw [e1] at L1
  have E0 := Lib.hid e0
  have E1 := Lib.hid e1
  have lp := h.raw.row.lt
  clear h e0 e1
  go_enter Try.func18, Try.ntmps18
  go_wp2_with fail
  have ra := (Row.fresh w 74 #[.int .i64 0, .int .i64 0]).alloc (.cells #[.bool false, .bool false] 75)
  have rb := Row.fresh (w.alloc (.cells #[.int .i64 0, .int .i64 0] 74)) 75 #[.bool false, .bool false]
  have o0 := ((Only.refl none_ w).alloc (.cells #[.int .i64 0, .int .i64 0] 74)).alloc (.cells #[.bool false, .bool false] 75)
  simp only [World.size_alloc] at rb
  generalize ((w.alloc (.cells #[.int .i64 0, .int .i64 0] 74)).alloc (.cells #[.bool false, .bool false] 75)) = w0 at *
  refine wp_loop_rounds 3 ?_
  rw [rounds_succ]
  have OA := Lib.hid o0
  have RA := Lib.hid ra
  have RB := Lib.hid rb
  have c0 := (H.out.still OA.out).raw.c0
  clear o0 ra rb
  go_wp2_with fail
  (with_reducible refine ((L0.out _ OA.out)).mono ?_)
  rintro e w1 ⟨rfl, o1⟩
  have ra := (below_only o1).still RA.out
  have rb := (below_only o1).still RB.out
  have za := ra.frozen
  have zb := rb.frozen
  have la := ra.lt
  have lb := rb.lt
  have ca : w1.cell? ⟨w.heap.size, 0, none⟩ = some (.int .i64 0) := by rw [ra.cell]; rfl
  have cb : w1.cell? ⟨w.heap.size + 1, 0, none⟩ = some (.bool false) := by rw [rb.cell]; rfl
  have RA1 := Lib.hid ((ra.put 0 (.int .i64 x0)).far (p := ⟨w.heap.size + 1, 0, none⟩) (by simp) (.bool b0))
  have RB1 := Lib.hid ((rb.far (p := ⟨w.heap.size, 0, none⟩) (by simp) (.int .i64 x0)).put 0 (.bool b0))
  have O1 := Lib.hid (((OA.out.same (below_only o1)).new (Nat.le_refl _) 0 (.int .i64 x0)).new (Nat.le_succ _) 0 (.bool b0))
  clear o1 ra rb c0 OA RA RB L0
  go_wp2_with fail
  clear ca cb za zb la lb
  generalize (w1.setCell ⟨w.heap.size, 0, none⟩ (.int .i64 x0)).setCell ⟨w.heap.size + 1, 0, none⟩ (.bool b0) = w2 at *
  replace RA1 := Lib.hid (show Row w2 w.heap.size 74 #[.int .i64 x0, .int .i64 0] from RA1.out)
  replace RB1 := Lib.hid (show Row w2 (w.heap.size + 1) 75 #[.bool b0, .bool false] from RB1.out)
  have c0 := (H.out.still O1.out).raw.c0
  rw [rounds_succ]
  go_wp2_with fail
  (with_reducible refine ((L1.out _ O1.out)).mono ?_)
  rintro e w3 ⟨rfl, o1⟩
  have ra := (below_only o1).still RA1.out
  have rb := (below_only o1).still RB1.out
  have za := ra.frozen
  have zb := rb.frozen
  have la := ra.lt
  have lb := rb.lt
  have ca : w3.cell? ⟨w.heap.size, 1, none⟩ = some (.int .i64 0) := by rw [ra.cell]; rfl
  have cb : w3.cell? ⟨w.heap.size + 1, 1, none⟩ = some (.bool false) := by rw [rb.cell]; rfl
  have RA3 := Lib.hid ((ra.put 1 (.int .i64 x1)).far (p := ⟨w.heap.size + 1, 1, none⟩) (by simp) (.bool b1))
  have RB3 := Lib.hid ((rb.far (p := ⟨w.heap.size, 1, none⟩) (by simp) (.int .i64 x1)).put 1 (.bool b1))
  have O3 := Lib.hid (((O1.out.same (below_only o1)).new (Nat.le_refl _) 1 (.int .i64 x1)).new (Nat.le_succ _) 1 (.bool b1))
  clear o1 ra rb c0 RA1 RB1 L1 O1
  go_wp2_with fail
  clear ca cb za zb la lb
  generalize (w3.setCell ⟨w.heap.size, 1, none⟩ (.int .i64 x1)).setCell ⟨w.heap.size + 1, 1, none⟩ (.bool b1) = w4 at *
  replace RA3 := Lib.hid (show Row w4 w.heap.size 74 #[.int .i64 x0, .int .i64 x1] from RA3.out)
  replace RB3 := Lib.hid (show Row w4 (w.heap.size + 1) 75 #[.bool b0, .bool b1] from RB3.out)
  have HS := Lib.hid (H.out.still O3.out)
  have ca0 : w4.cell? ⟨w.heap.size, 0, none⟩ = some (.int .i64 x0) := by rw [RA3.out.cell]; rfl
  have ca1 : w4.cell? ⟨w.heap.size, 1, none⟩ = some (.int .i64 x1) := by rw [RA3.out.cell]; rfl
  have cb0 : w4.cell? ⟨w.heap.size + 1, 0, none⟩ = some (.bool b0) := by rw [RB3.out.cell]; rfl
  have cb1 : w4.cell? ⟨w.heap.size + 1, 1, none⟩ = some (.bool b1) := by rw [RB3.out.cell]; rfl
  rw [rounds_succ]
  have E0 := E0.out
  have E1 := E1.out
  have VS : c.victimS = match c.victim with | none => c | some x => ⟨c.s.drop x, c.us, c.want, c.miss, c.hits⟩ := rfl
  have VV : c.victim = match c.s.lastOk 0, c.s.lastOk 1 with | none, none => none | some a, none => some a | none, some b => some b | some a, some b => some (c.pick a b) := rfl
  have IN := Lib.hid (fun x e => victim_in H.out.fine (x := x) e)
  replace VV := Lib.hid VV
  replace VS := Lib.hid VS
  have bl := H.out.raw.lt.2.2
  have gb : ¬ w.heap.size = b := by omega
  cases q0 : c.s.lastOk 0 with
  | none =>
    rw [q0] at E0
    simp only [lastV, Option.getD_none, Option.isSome_none, Value.tuple.injEq, Array.mk.injEq, List.cons.injEq, Value.int.injEq, Value.bool.injEq, true_and, and_true] at E0
    obtain ⟨e0, rfl⟩ := E0
    cases q1 : c.s.lastOk 1 with
    | none =>
      rw [q1] at E1
      simp only [lastV, Option.getD_none, Option.isSome_none, Value.tuple.injEq, Array.mk.injEq, List.cons.injEq, Value.int.injEq, Value.bool.injEq, true_and, and_true] at E1
      obtain ⟨e1, rfl⟩ := E1
      have VV := VV.out
      have VS := VS.out
      rw [q0, q1] at VV
      rw [VV] at VS
      simp only at VV VS
      replace VV := Lib.hid VV
      replace VS := Lib.hid VS
      clear q0 q1 e0 e1
      go_wp2_with fail
      go_ret2
      rw [VV.out, VS.out]
      exact ⟨rfl, H.out.still O3.out, O3.out.up⟩
    | some y =>
      rw [q1] at E1
      simp only [lastV, Option.getD_some, Option.isSome_some, Value.tuple.injEq, Array.mk.injEq, List.cons.injEq, Value.int.injEq, Value.bool.injEq, true_and, and_true] at E1
      obtain ⟨e1, rfl⟩ := E1
      obtain rfl : y = x1 := by omega
      have VV := VV.out
      have VS := VS.out
      rw [q0, q1] at VV
      rw [VV] at VS
      simp only at VV VS
      replace VV := Lib.hid VV
      replace VS := Lib.hid VS
      have IX := IN.out y VV.out
      have DR := Lib.hid (fun w' (o : Only none_ w w') => drop_any p b c.s y w' (H.out.still o).raw.shelf)
      have LD := Lib.hid (show c.s.liesC (y : Nat) = 0 ∧ c.s.dropS (y : Nat) = c.s.drop y from by
        have h1 : c.s.liesC (y : Nat) = 0 := by
          unfold Sh.liesC
          have h2 : hasN c.s.n (y : Nat) = true := by unfold hasN; simp; omega
          rw [h2, if_pos rfl, Int.toNat_natCast, if_neg IX.2.1]
        refine ⟨h1, ?_⟩
        unfold Sh.dropS
        rw [if_pos h1, Int.toNat_natCast])
      have FE := Lib.hid (H.out.fine.dropped IX.1)
      clear q0 q1 e0 e1 IX
      have DR1 := DR.out _ O3.out.drew
      rw [LD.out.1, LD.out.2] at DR1
      replace DR1 := Lib.hid DR1
      have c0 := (H.out.still O3.out).raw.c0
      clear DR
      go_wp2_with fail
      go_region_with (go_at_call 42; (with_reducible refine (DR1.out).mono ?_); rintro e w6 ⟨rfl, h6, o6⟩)
      all_goals
        have R := Lib.hid ((H.out.still O3.out.drew).raw.turn h6 (by rfl) (by rfl) o6)
        have O6 := Lib.hid (O3.out.drew.then_ (two_b (P := P) o6))
        have ca6 : w6.cell? ⟨w.heap.size, 1, none⟩ = some (.int .i64 y) := o6.cell ca1 gb
        clear h6 o6 ca1 ca0 c0
        go_wp2_with fail
        go_ret2
        rw [VV.out, VS.out]
        exact ⟨rfl, ⟨R.out, FE.out⟩, O6.out⟩
  | some x =>
    rw [q0] at E0
    simp only [lastV, Option.getD_some, Option.isSome_some, Value.tuple.injEq, Array.mk.injEq, List.cons.injEq, Value.int.injEq, Value.bool.injEq, true_and, and_true] at E0
    obtain ⟨e0, rfl⟩ := E0
    obtain rfl : x = x0 := by omega
    cases q1 : c.s.lastOk 1 with
    | none =>
      rw [q1] at E1
      simp only [lastV, Option.getD_none, Option.isSome_none, Value.tuple.injEq, Array.mk.injEq, List.cons.injEq, Value.int.injEq, Value.bool.injEq, true_and, and_true] at E1
      obtain ⟨e1, rfl⟩ := E1
      have VV := VV.out
      have VS := VS.out
      rw [q0, q1] at VV
      rw [VV] at VS
      simp only at VV VS
      replace VV := Lib.hid VV
      replace VS := Lib.hid VS
      have IX := IN.out x VV.out
      have DR := Lib.hid (fun w' (o : Only none_ w w') => drop_any p b c.s x w' (H.out.still o).raw.shelf)
      have LD := Lib.hid (show c.s.liesC (x : Nat) = 0 ∧ c.s.dropS (x : Nat) = c.s.drop x from by
        have h1 : c.s.liesC (x : Nat) = 0 := by
          unfold Sh.liesC
          have h2 : hasN c.s.n (x : Nat) = true := by unfold hasN; simp; omega
          rw [h2, if_pos rfl, Int.toNat_natCast, if_neg IX.2.1]
        refine ⟨h1, ?_⟩
        unfold Sh.dropS
        rw [if_pos h1, Int.toNat_natCast])
      have FE := Lib.hid (H.out.fine.dropped IX.1)
      clear q0 q1 e0 e1 IX
      have DR1 := DR.out _ O3.out.drew
      rw [LD.out.1, LD.out.2] at DR1
      replace DR1 := Lib.hid DR1
      have c0 := (H.out.still O3.out).raw.c0
      clear DR
      go_wp2_with fail
      go_region_with (go_at_call 42; (with_reducible refine (DR1.out).mono ?_); rintro e w6 ⟨rfl, h6, o6⟩)
      all_goals
        have R := Lib.hid ((H.out.still O3.out.drew).raw.turn h6 (by rfl) (by rfl) o6)
        have O6 := Lib.hid (O3.out.drew.then_ (two_b (P := P) o6))
        have ca6 : w6.cell? ⟨w.heap.size, 0, none⟩ = some (.int .i64 x) := o6.cell ca0 gb
        clear h6 o6 ca1 ca0 c0
        go_wp2_with fail
        go_ret2
        rw [VV.out, VS.out]
        exact ⟨rfl, ⟨R.out, FE.out⟩, O6.out⟩
    | some y =>
      rw [q1] at E1
      simp only [lastV, Option.getD_some, Option.isSome_some, Value.tuple.injEq, Array.mk.injEq, List.cons.injEq, Value.int.injEq, Value.bool.injEq, true_and, and_true] at E1
      obtain ⟨e1, rfl⟩ := E1
      obtain rfl : y = x1 := by omega
      have lx := (lastOk_in H.out.fine.s (k := 0) (by decide) q0).2.1
      have ly := (lastOk_in H.out.fine.s (k := 1) (by decide) q1).2.1
      have SK := Lib.hid (fun w' (o : Only none_ w w') => shrinks_any P p b c x y w' (H.out.still o) lx ly hu)
      rcases shr_pick c x y with ⟨hs, hp⟩ | ⟨hs, hp⟩
      · rw [hs] at SK
        have VV := VV.out
        have VS := VS.out
        rw [q0, q1] at VV
        simp only [hp] at VV
        rw [VV] at VS
        simp only at VV VS
        replace VV := Lib.hid VV
        replace VS := Lib.hid VS
        have IX := IN.out x VV.out
        have DR := Lib.hid (fun w' (o : Only none_ w w') => drop_any p b c.s x w' (H.out.still o).raw.shelf)
        have LD := Lib.hid (show c.s.liesC (x : Nat) = 0 ∧ c.s.dropS (x : Nat) = c.s.drop x from by
          have h1 : c.s.liesC (x : Nat) = 0 := by
            unfold Sh.liesC
            have h2 : hasN c.s.n (x : Nat) = true := by unfold hasN; simp; omega
            rw [h2, if_pos rfl, Int.toNat_natCast, if_neg IX.2.1]
          refine ⟨h1, ?_⟩
          unfold Sh.dropS
          rw [if_pos h1, Int.toNat_natCast])
        have FE := Lib.hid (H.out.fine.dropped IX.1)
        clear q0 q1 e0 e1 IX hs hp lx ly
        go_wp2_with fail
        (with_reducible refine (SK.out _ O3.out).mono ?_)
        rintro e w5 ⟨rfl, o5⟩
        have O5 := Lib.hid (O3.out.same o5)
        have ca0 := o5.cell ca0 (fun s => s)
        have ca1 := o5.cell ca1 (fun s => s)
        clear o5 SK cb0 cb1
        have DR1 := DR.out _ O5.out.drew
        rw [LD.out.1, LD.out.2] at DR1
        replace DR1 := Lib.hid DR1
        have c0 := (H.out.still O5.out).raw.c0
        clear DR
        go_wp2_with fail
        go_region_with (go_at_call 42; (with_reducible refine (DR1.out).mono ?_); rintro e w6 ⟨rfl, h6, o6⟩)
        all_goals
          have R := Lib.hid ((H.out.still O5.out.drew).raw.turn h6 (by rfl) (by rfl) o6)
          have O6 := Lib.hid (O5.out.drew.then_ (two_b (P := P) o6))
          have ca6 : w6.cell? ⟨w.heap.size, 0, none⟩ = some (.int .i64 x) := o6.cell ca0 gb
          clear h6 o6 ca1 ca0 c0
          go_wp2_with fail
          go_ret2
          rw [VV.out, VS.out]
          exact ⟨rfl, ⟨R.out, FE.out⟩, O6.out⟩
      · rw [hs] at SK
        have VV := VV.out
        have VS := VS.out
        rw [q0, q1] at VV
        simp only [hp] at VV
        rw [VV] at VS
        simp only at VV VS
        replace VV := Lib.hid VV
        replace VS := Lib.hid VS
        have IX := IN.out y VV.out
        have DR := Lib.hid (fun w' (o : Only none_ w w') => drop_any p b c.s y w' (H.out.still o).raw.shelf)
        have LD := Lib.hid (show c.s.liesC (y : Nat) = 0 ∧ c.s.dropS (y : Nat) = c.s.drop y from by
          have h1 : c.s.liesC (y : Nat) = 0 := by
            unfold Sh.liesC
            have h2 : hasN c.s.n (y : Nat) = true := by unfold hasN; simp; omega
            rw [h2, if_pos rfl, Int.toNat_natCast, if_neg IX.2.1]
          refine ⟨h1, ?_⟩
          unfold Sh.dropS
          rw [if_pos h1, Int.toNat_natCast])
        have FE := Lib.hid (H.out.fine.dropped IX.1)
        clear q0 q1 e0 e1 IX hs hp lx ly
        go_wp2_with fail
        (with_reducible refine (SK.out _ O3.out).mono ?_)
        rintro e w5 ⟨rfl, o5⟩
        have O5 := Lib.hid (O3.out.same o5)
        have ca0 := o5.cell ca0 (fun s => s)
        have ca1 := o5.cell ca1 (fun s => s)
        clear o5 SK cb0 cb1
        have DR1 := DR.out _ O5.out.drew
        rw [LD.out.1, LD.out.2] at DR1
        replace DR1 := Lib.hid DR1
        have c0 := (H.out.still O5.out).raw.c0
        clear DR
        go_wp2_with fail
        go_region_with (go_at_call 42; (with_reducible refine (DR1.out).mono ?_); rintro e w6 ⟨rfl, h6, o6⟩)
        all_goals
          have R := Lib.hid ((H.out.still O5.out.drew).raw.turn h6 (by rfl) (by rfl) o6)
          have O6 := Lib.hid (O5.out.drew.then_ (two_b (P := P) o6))
          have ca6 : w6.cell? ⟨w.heap.size, 1, none⟩ = some (.int .i64 y) := o6.cell ca1 gb
          clear h6 o6 ca1 ca0 c0
          go_wp2_with fail
          go_ret2
          rw [VV.out, VS.out]
          exact ⟨rfl, ⟨R.out, FE.out⟩, O6.out⟩
end Go.Proofs.Ytpmhpamajkhhiaa

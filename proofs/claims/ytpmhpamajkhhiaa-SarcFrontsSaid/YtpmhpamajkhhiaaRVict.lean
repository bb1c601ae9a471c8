/- What Victim of the document's own policy does. -/
import Derived.Test.YtpmhpamajkhhiaaRscL
import Derived.Test.YtpmhpamajkhhiaaVictim
namespace Go.Proofs.Ytpmhpamajkhhiaa
open Go.RowKit
set_option linter.unusedVariables false

set_option maxRecDepth 100000 in
set_option maxHeartbeats 800000 in
theorem victim_ref (r q hb : Nat) (ro : Nat → Prop) (c : Sc) (w : World) (h : RSc w r q hb ro c) (hu : c.us.length < 1000000) :
    Calls Try.prog 34 #[.pointer (some ⟨r, 0, none⟩)] w fun e w' => e = .returned (lastV c.victim) ∧ RSc w' r q hb ro c.victimS ∧ Only (rset r q hb ro) w w' := by
  have H := Lib.hid h
  obtain ⟨ok, sk⟩ := h.raw.shelf
  have L0 := Lib.hid (last_ref q hb ok c.s 0 w sk)
  have L1 := Lib.hid (fun w' (o : Only none_ w w') => last_ref q hb ok c.s 1 w' (sk.still o))
  obtain ⟨x0, b0, e0⟩ : ∃ (x0 : Nat) (b0 : Bool), lastV (c.s.lastOk 0) = .tuple #[.int .i64 x0, .bool b0] := ⟨_, _, rfl⟩
  obtain ⟨x1, b1, e1⟩ : ∃ (x1 : Nat) (b1 : Bool), lastV (c.s.lastOk 1) = .tuple #[.int .i64 x1, .bool b1] := ⟨_, _, rfl⟩
  rw [e0] at L0
  rw [e1] at L1
  have E0 := Lib.hid e0
  have E1 := Lib.hid e1
  have c0 := h.raw.r0
  obtain ⟨al0, nl0, kl0, cl0, hn0, _⟩ := h.raw.list0
  obtain ⟨al1, nl1, kl1, cl1, hn1, _⟩ := h.raw.list1
  subst hn0 hn1
  have le0 := fine_len0 h.fine.s
  have le1 := fine_len1 h.fine.s
  have VS := Lib.hid (show c.victimS = match c.victim with | none => c | some x => ⟨c.s.drop x, c.us, c.want, c.miss, c.hits⟩ from rfl)
  have VV := Lib.hid (show c.victim = match c.s.lastOk 0, c.s.lastOk 1 with | none, none => none | some a, none => some a | none, some b => some b | some a, some b => some (c.pick a b) from rfl)
  have IN := Lib.hid (fun x e => victim_in h.fine (x := x) e)
  have PK := Lib.hid (fun a b => show c.pick a b = if c.s.l0.length < c.s.bot ∨ c.s.l1.length < c.s.bot then if lastU c.us a < lastU c.us b then a else b else if c.want < c.s.l0.length then a else b from rfl)
  clear h sk e0 e1
  go_enter Try.func34, Try.ntmps34
  go_wp2_with fail
  (with_reducible refine (L0.out).mono ?_)
  rintro e w1 ⟨rfl, o1⟩
  have O1 := Lib.hid o1
  replace c0 := o1.cell c0 (fun s => s)
  clear o1 L0
  go_wp2_with fail
  (with_reducible refine ((L1.out _ O1.out)).mono ?_)
  rintro e w2 ⟨rfl, o2⟩
  have O2 := Lib.hid (O1.out.same o2)
  clear o2 L1 c0
  have E0 := E0.out
  have E1 := E1.out
  cases q0 : c.s.lastOk 0 with
  | none =>
    rw [q0] at E0
    simp only [lastV, Option.getD_none, Option.isSome_none, Value.tuple.injEq, Array.mk.injEq, List.cons.injEq, Value.int.injEq, Value.bool.injEq, true_and, and_true] at E0
    obtain ⟨e0, rfl⟩ := E0
    cases q1 : c.s.lastOk 1 with
    | none =>
      rw [q1] at E1
      simp only [lastV, Option.getD_none, Option.isSome_none, Value.tuple.injEq, Array.mk.injEq, List.cons.injEq, Value.int.injEq, Value.bool.injEq, true_and, and_true] at E1
      obtain ⟨e1, rfl⟩ := E1
      have VV := VV.out
      have VS := VS.out
      rw [q0, q1] at VV
      rw [VV] at VS
      simp only at VV VS
      replace VV := Lib.hid VV
      replace VS := Lib.hid VS
      clear q0 q1 e0 e1
      go_wp2_with fail
      go_ret2
      rw [VV.out, VS.out]
      exact ⟨rfl, H.out.still O2.out, O2.out.up⟩
    | some y =>
      rw [q1] at E1
      simp only [lastV, Option.getD_some, Option.isSome_some, Value.tuple.injEq, Array.mk.injEq, List.cons.injEq, Value.int.injEq, Value.bool.injEq, true_and, and_true] at E1
      obtain ⟨e1, rfl⟩ := E1
      obtain rfl : y = x1 := by omega
      have VV := VV.out
      have VS := VS.out
      rw [q0, q1] at VV
      rw [VV] at VS
      simp only at VV VS
      replace VV := Lib.hid VV
      replace VS := Lib.hid VS
      clear q0 q1 e0 e1
      have IX := IN.out y VV.out
      have LD := Lib.hid (show c.s.liesC (y : Nat) = 0 ∧ c.s.dropS (y : Nat) = c.s.drop y from by
        have h1 : c.s.liesC (y : Nat) = 0 := by
          unfold Sh.liesC
          have h2 : hasN c.s.n (y : Nat) = true := by unfold hasN; simp; omega
          rw [h2, if_pos rfl, Int.toNat_natCast, if_neg IX.2.1]
        refine ⟨h1, ?_⟩
        unfold Sh.dropS
        rw [if_pos h1, Int.toNat_natCast])
      have FE := Lib.hid (H.out.fine.dropped IX.1)
      clear IX
      have RAW := H.out.raw.still O2.out
      obtain ⟨⟨vu, rw_, ou, s⟩, a1, a2, a3, a4, a5, a6⟩ := RAW
      have RW := Lib.hid rw_
      have OU := Lib.hid ou
      have DR := drop_ref q hb _ c.s y w2 s
      rw [LD.out.1, LD.out.2] at DR
      replace DR := Lib.hid DR
      have c0 : (w2).cell? ⟨r, 0, none⟩ = some (.pointer (some ⟨q, 0, none⟩)) := (rw_.cell 0).trans rfl
      clear rw_ ou s
      go_wp2_with fail
      (with_reducible refine (DR.out).mono ?_)
      rintro e w6 ⟨rfl, s6, o6⟩
      have R6 := Lib.hid (rraw_turn RW.out OU.out s6 o6 a1 a2 a3 a4 a5 a6)
      have O6 := Lib.hid (O2.out.then_ (o6.qh (r := r) (ro := ro)))
      clear s6 o6 DR c0
      go_wp2_with fail
      go_ret2
      rw [VV.out, VS.out]
      exact ⟨rfl, ⟨R6.out, FE.out⟩, O6.out⟩
  | some x =>
    rw [q0] at E0
    simp only [lastV, Option.getD_some, Option.isSome_some, Value.tuple.injEq, Array.mk.injEq, List.cons.injEq, Value.int.injEq, Value.bool.injEq, true_and, and_true] at E0
    obtain ⟨e0, rfl⟩ := E0
    obtain rfl : x = x0 := by omega
    cases q1 : c.s.lastOk 1 with
    | none =>
      rw [q1] at E1
      simp only [lastV, Option.getD_none, Option.isSome_none, Value.tuple.injEq, Array.mk.injEq, List.cons.injEq, Value.int.injEq, Value.bool.injEq, true_and, and_true] at E1
      obtain ⟨e1, rfl⟩ := E1
      have VV := VV.out
      have VS := VS.out
      rw [q0, q1] at VV
      rw [VV] at VS
      simp only at VV VS
      replace VV := Lib.hid VV
      replace VS := Lib.hid VS
      clear q0 q1 e0 e1
      have IX := IN.out x VV.out
      have LD := Lib.hid (show c.s.liesC (x : Nat) = 0 ∧ c.s.dropS (x : Nat) = c.s.drop x from by
        have h1 : c.s.liesC (x : Nat) = 0 := by
          unfold Sh.liesC
          have h2 : hasN c.s.n (x : Nat) = true := by unfold hasN; simp; omega
          rw [h2, if_pos rfl, Int.toNat_natCast, if_neg IX.2.1]
        refine ⟨h1, ?_⟩
        unfold Sh.dropS
        rw [if_pos h1, Int.toNat_natCast])
      have FE := Lib.hid (H.out.fine.dropped IX.1)
      clear IX
      have RAW := H.out.raw.still O2.out
      obtain ⟨⟨vu, rw_, ou, s⟩, a1, a2, a3, a4, a5, a6⟩ := RAW
      have RW := Lib.hid rw_
      have OU := Lib.hid ou
      have DR := drop_ref q hb _ c.s x w2 s
      rw [LD.out.1, LD.out.2] at DR
      replace DR := Lib.hid DR
      have c0 : (w2).cell? ⟨r, 0, none⟩ = some (.pointer (some ⟨q, 0, none⟩)) := (rw_.cell 0).trans rfl
      clear rw_ ou s
      go_wp2_with fail
      (with_reducible refine (DR.out).mono ?_)
      rintro e w6 ⟨rfl, s6, o6⟩
      have R6 := Lib.hid (rraw_turn RW.out OU.out s6 o6 a1 a2 a3 a4 a5 a6)
      have O6 := Lib.hid (O2.out.then_ (o6.qh (r := r) (ro := ro)))
      clear s6 o6 DR c0
      go_wp2_with fail
      go_ret2
      rw [VV.out, VS.out]
      exact ⟨rfl, ⟨R6.out, FE.out⟩, O6.out⟩
    | some y =>
      rw [q1] at E1
      simp only [lastV, Option.getD_some, Option.isSome_some, Value.tuple.injEq, Array.mk.injEq, List.cons.injEq, Value.int.injEq, Value.bool.injEq, true_and, and_true] at E1
      obtain ⟨e1, rfl⟩ := E1
      obtain rfl : y = x1 := by omega
      have LA := Lib.hid (fun f w' (o : Only none_ w w') => slast_ref r q hb ro c f w' (H.out.raw.still o) hu)
      clear e0 e1
      have bb : decide (c.s.l0.length < c.s.bot ∨ c.s.l1.length < c.s.bot) = (decide (c.s.l0.length < c.s.bot) || decide (c.s.l1.length < c.s.bot)) := by
        by_cases a : c.s.l0.length < c.s.bot <;> by_cases b : c.s.l1.length < c.s.bot <;> simp [a, b]
      cases t0 : decide (c.s.l0.length < c.s.bot) with
      | true =>
        have d0' : decide ((c.s.l0.length : Int) < (c.s.bot : Int)) = true := decide_eq_true (by have := of_decide_eq_true t0; omega)
        have c0 := (H.out.raw.still O2.out).r0
        have c1 := (H.out.raw.still O2.out).r1
        have d1 := (H.out.raw.still O2.out).q1
        have d2 := O2.out.cell cl0 (fun s => s)
        have d3 := O2.out.cell cl1 (fun s => s)
        go_wp2_with fail
        go_quiet (fail)
        generalize hq : w2.drewN _ = w3 at *
        have O3 := Lib.hid (show Only none_ w w3 from hq ▸ O2.out.drewN _)
        clear hq
        clear c0 c1 d1 d2 d3
        have sh : c.s.l0.length < c.s.bot ∨ c.s.l1.length < c.s.bot := .inl (of_decide_eq_true t0)
        obtain ⟨t2, ht2⟩ : ∃ t2, decide (lastU c.us x < lastU c.us y) = t2 := ⟨_, rfl⟩
        have lx := lastU_le c.us x
        have ly := lastU_le c.us y
        have PKx := PK.out x y
        rw [if_pos sh] at PKx
        have LX := LA.out x
        have LY := LA.out y
        have d2' : decide (((lastU c.us x : Nat) : Int) - 1 < ((lastU c.us y : Nat) : Int) - 1) = t2 := by
          rw [← ht2]
          by_cases qq : lastU c.us x < lastU c.us y
          · rw [decide_eq_true qq]; exact decide_eq_true (by omega)
          · rw [decide_eq_false qq]; exact decide_eq_false (by omega)
        generalize lastU c.us x = ax at *
        generalize lastU c.us y = ay at *
        have LX := Lib.hid LX
        have LY := Lib.hid LY
        cases t2 with
        | true =>
          rw [if_pos (of_decide_eq_true ht2)] at PKx
          have VV := VV.out
          have VS := VS.out
          rw [q0, q1] at VV
          simp only [PKx] at VV
          rw [VV] at VS
          simp only at VV VS
          replace VV := Lib.hid VV
          replace VS := Lib.hid VS
          clear q0 q1 PKx d2' PK
          have IX := IN.out x VV.out
          have LD := Lib.hid (show c.s.liesC (x : Nat) = 0 ∧ c.s.dropS (x : Nat) = c.s.drop x from by
            have h1 : c.s.liesC (x : Nat) = 0 := by
              unfold Sh.liesC
              have h2 : hasN c.s.n (x : Nat) = true := by unfold hasN; simp; omega
              rw [h2, if_pos rfl, Int.toNat_natCast, if_neg IX.2.1]
            refine ⟨h1, ?_⟩
            unfold Sh.dropS
            rw [if_pos h1, Int.toNat_natCast])
          have FE := Lib.hid (H.out.fine.dropped IX.1)
          clear IX
          go_wp2_with fail
          (with_reducible refine (LX.out _ O3.out).mono ?_)
          rintro e w4 ⟨rfl, o4⟩
          have O4 := Lib.hid (O3.out.same o4)
          clear o4
          go_wp2_with fail
          (with_reducible refine (LY.out _ O4.out).mono ?_)
          rintro e w5 ⟨rfl, o5⟩
          have O5 := Lib.hid (O4.out.same o5)
          clear o5 LX LY
          have RAW := H.out.raw.still O5.out
          obtain ⟨⟨vu, rw_, ou, s⟩, a1, a2, a3, a4, a5, a6⟩ := RAW
          have RW := Lib.hid rw_
          have OU := Lib.hid ou
          have DR := drop_ref q hb _ c.s x w5 s
          rw [LD.out.1, LD.out.2] at DR
          replace DR := Lib.hid DR
          have c0 : (w5).cell? ⟨r, 0, none⟩ = some (.pointer (some ⟨q, 0, none⟩)) := (rw_.cell 0).trans rfl
          clear rw_ ou s
          go_wp2_with fail
          (with_reducible refine (DR.out).mono ?_)
          rintro e w6 ⟨rfl, s6, o6⟩
          have R6 := Lib.hid (rraw_turn RW.out OU.out s6 o6 a1 a2 a3 a4 a5 a6)
          have O6 := Lib.hid (O5.out.then_ (o6.qh (r := r) (ro := ro)))
          clear s6 o6 DR c0
          go_wp2_with fail
          go_ret2
          rw [VV.out, VS.out]
          exact ⟨rfl, ⟨R6.out, FE.out⟩, O6.out⟩
        | false =>
          rw [if_neg (of_decide_eq_false ht2)] at PKx
          have VV := VV.out
          have VS := VS.out
          rw [q0, q1] at VV
          simp only [PKx] at VV
          rw [VV] at VS
          simp only at VV VS
          replace VV := Lib.hid VV
          replace VS := Lib.hid VS
          clear q0 q1 PKx d2' PK
          have IX := IN.out y VV.out
          have LD := Lib.hid (show c.s.liesC (y : Nat) = 0 ∧ c.s.dropS (y : Nat) = c.s.drop y from by
            have h1 : c.s.liesC (y : Nat) = 0 := by
              unfold Sh.liesC
              have h2 : hasN c.s.n (y : Nat) = true := by unfold hasN; simp; omega
              rw [h2, if_pos rfl, Int.toNat_natCast, if_neg IX.2.1]
            refine ⟨h1, ?_⟩
            unfold Sh.dropS
            rw [if_pos h1, Int.toNat_natCast])
          have FE := Lib.hid (H.out.fine.dropped IX.1)
          clear IX
          go_wp2_with fail
          (with_reducible refine (LX.out _ O3.out).mono ?_)
          rintro e w4 ⟨rfl, o4⟩
          have O4 := Lib.hid (O3.out.same o4)
          clear o4
          go_wp2_with fail
          (with_reducible refine (LY.out _ O4.out).mono ?_)
          rintro e w5 ⟨rfl, o5⟩
          have O5 := Lib.hid (O4.out.same o5)
          clear o5 LX LY
          have RAW := H.out.raw.still O5.out
          obtain ⟨⟨vu, rw_, ou, s⟩, a1, a2, a3, a4, a5, a6⟩ := RAW
          have RW := Lib.hid rw_
          have OU := Lib.hid ou
          have DR := drop_ref q hb _ c.s y w5 s
          rw [LD.out.1, LD.out.2] at DR
          replace DR := Lib.hid DR
          have c0 : (w5).cell? ⟨r, 0, none⟩ = some (.pointer (some ⟨q, 0, none⟩)) := (rw_.cell 0).trans rfl
          clear rw_ ou s
          go_wp2_with fail
          (with_reducible refine (DR.out).mono ?_)
          rintro e w6 ⟨rfl, s6, o6⟩
          have R6 := Lib.hid (rraw_turn RW.out OU.out s6 o6 a1 a2 a3 a4 a5 a6)
          have O6 := Lib.hid (O5.out.then_ (o6.qh (r := r) (ro := ro)))
          clear s6 o6 DR c0
          go_wp2_with fail
          go_ret2
          rw [VV.out, VS.out]
          exact ⟨rfl, ⟨R6.out, FE.out⟩, O6.out⟩
      | false =>
        have d0' : decide ((c.s.l0.length : Int) < (c.s.bot : Int)) = false := decide_eq_false (by have := of_decide_eq_false t0; omega)
        cases t1 : decide (c.s.l1.length < c.s.bot) with
        | true =>
          have d1' : decide ((c.s.l1.length : Int) < (c.s.bot : Int)) = true := decide_eq_true (by have := of_decide_eq_true t1; omega)
          have c0 := (H.out.raw.still O2.out).r0
          have c1 := (H.out.raw.still O2.out).r1
          have d1 := (H.out.raw.still O2.out).q1
          have d2 := O2.out.cell cl0 (fun s => s)
          have d3 := O2.out.cell cl1 (fun s => s)
          go_wp2_with fail
          go_quiet (fail)
          generalize hq : w2.drewN _ = w3 at *
          have O3 := Lib.hid (show Only none_ w w3 from hq ▸ O2.out.drewN _)
          clear hq
          clear c0 c1 d1 d2 d3
          have sh : c.s.l0.length < c.s.bot ∨ c.s.l1.length < c.s.bot := .inr (of_decide_eq_true t1)
          obtain ⟨t2, ht2⟩ : ∃ t2, decide (lastU c.us x < lastU c.us y) = t2 := ⟨_, rfl⟩
          have lx := lastU_le c.us x
          have ly := lastU_le c.us y
          have PKx := PK.out x y
          rw [if_pos sh] at PKx
          have LX := LA.out x
          have LY := LA.out y
          have d2' : decide (((lastU c.us x : Nat) : Int) - 1 < ((lastU c.us y : Nat) : Int) - 1) = t2 := by
            rw [← ht2]
            by_cases qq : lastU c.us x < lastU c.us y
            · rw [decide_eq_true qq]; exact decide_eq_true (by omega)
            · rw [decide_eq_false qq]; exact decide_eq_false (by omega)
          generalize lastU c.us x = ax at *
          generalize lastU c.us y = ay at *
          have LX := Lib.hid LX
          have LY := Lib.hid LY
          cases t2 with
          | true =>
            rw [if_pos (of_decide_eq_true ht2)] at PKx
            have VV := VV.out
            have VS := VS.out
            rw [q0, q1] at VV
            simp only [PKx] at VV
            rw [VV] at VS
            simp only at VV VS
            replace VV := Lib.hid VV
            replace VS := Lib.hid VS
            clear q0 q1 PKx d2' PK
            have IX := IN.out x VV.out
            have LD := Lib.hid (show c.s.liesC (x : Nat) = 0 ∧ c.s.dropS (x : Nat) = c.s.drop x from by
              have h1 : c.s.liesC (x : Nat) = 0 := by
                unfold Sh.liesC
                have h2 : hasN c.s.n (x : Nat) = true := by unfold hasN; simp; omega
                rw [h2, if_pos rfl, Int.toNat_natCast, if_neg IX.2.1]
              refine ⟨h1, ?_⟩
              unfold Sh.dropS
              rw [if_pos h1, Int.toNat_natCast])
            have FE := Lib.hid (H.out.fine.dropped IX.1)
            clear IX
            go_wp2_with fail
            (with_reducible refine (LX.out _ O3.out).mono ?_)
            rintro e w4 ⟨rfl, o4⟩
            have O4 := Lib.hid (O3.out.same o4)
            clear o4
            go_wp2_with fail
            (with_reducible refine (LY.out _ O4.out).mono ?_)
            rintro e w5 ⟨rfl, o5⟩
            have O5 := Lib.hid (O4.out.same o5)
            clear o5 LX LY
            have RAW := H.out.raw.still O5.out
            obtain ⟨⟨vu, rw_, ou, s⟩, a1, a2, a3, a4, a5, a6⟩ := RAW
            have RW := Lib.hid rw_
            have OU := Lib.hid ou
            have DR := drop_ref q hb _ c.s x w5 s
            rw [LD.out.1, LD.out.2] at DR
            replace DR := Lib.hid DR
            have c0 : (w5).cell? ⟨r, 0, none⟩ = some (.pointer (some ⟨q, 0, none⟩)) := (rw_.cell 0).trans rfl
            clear rw_ ou s
            go_wp2_with fail
            (with_reducible refine (DR.out).mono ?_)
            rintro e w6 ⟨rfl, s6, o6⟩
            have R6 := Lib.hid (rraw_turn RW.out OU.out s6 o6 a1 a2 a3 a4 a5 a6)
            have O6 := Lib.hid (O5.out.then_ (o6.qh (r := r) (ro := ro)))
            clear s6 o6 DR c0
            go_wp2_with fail
            go_ret2
            rw [VV.out, VS.out]
            exact ⟨rfl, ⟨R6.out, FE.out⟩, O6.out⟩
          | false =>
            rw [if_neg (of_decide_eq_false ht2)] at PKx
            have VV := VV.out
            have VS := VS.out
            rw [q0, q1] at VV
            simp only [PKx] at VV
            rw [VV] at VS
            simp only at VV VS
            replace VV := Lib.hid VV
            replace VS := Lib.hid VS
            clear q0 q1 PKx d2' PK
            have IX := IN.out y VV.out
            have LD := Lib.hid (show c.s.liesC (y : Nat) = 0 ∧ c.s.dropS (y : Nat) = c.s.drop y from by
              have h1 : c.s.liesC (y : Nat) = 0 := by
                unfold Sh.liesC
                have h2 : hasN c.s.n (y : Nat) = true := by unfold hasN; simp; omega
                rw [h2, if_pos rfl, Int.toNat_natCast, if_neg IX.2.1]
              refine ⟨h1, ?_⟩
              unfold Sh.dropS
              rw [if_pos h1, Int.toNat_natCast])
            have FE := Lib.hid (H.out.fine.dropped IX.1)
            clear IX
            go_wp2_with fail
            (with_reducible refine (LX.out _ O3.out).mono ?_)
            rintro e w4 ⟨rfl, o4⟩
            have O4 := Lib.hid (O3.out.same o4)
            clear o4
            go_wp2_with fail
            (with_reducible refine (LY.out _ O4.out).mono ?_)
            rintro e w5 ⟨rfl, o5⟩
            have O5 := Lib.hid (O4.out.same o5)
            clear o5 LX LY
            have RAW := H.out.raw.still O5.out
            obtain ⟨⟨vu, rw_, ou, s⟩, a1, a2, a3, a4, a5, a6⟩ := RAW
            have RW := Lib.hid rw_
            have OU := Lib.hid ou
            have DR := drop_ref q hb _ c.s y w5 s
            rw [LD.out.1, LD.out.2] at DR
            replace DR := Lib.hid DR
            have c0 : (w5).cell? ⟨r, 0, none⟩ = some (.pointer (some ⟨q, 0, none⟩)) := (rw_.cell 0).trans rfl
            clear rw_ ou s
            go_wp2_with fail
            (with_reducible refine (DR.out).mono ?_)
            rintro e w6 ⟨rfl, s6, o6⟩
            have R6 := Lib.hid (rraw_turn RW.out OU.out s6 o6 a1 a2 a3 a4 a5 a6)
            have O6 := Lib.hid (O5.out.then_ (o6.qh (r := r) (ro := ro)))
            clear s6 o6 DR c0
            go_wp2_with fail
            go_ret2
            rw [VV.out, VS.out]
            exact ⟨rfl, ⟨R6.out, FE.out⟩, O6.out⟩
        | false =>
          have d1' : decide ((c.s.l1.length : Int) < (c.s.bot : Int)) = false := decide_eq_false (by have := of_decide_eq_false t1; omega)
          have PKx := PK.out x y
          rw [if_neg (by have h1 := of_decide_eq_false t0; have h2 := of_decide_eq_false t1; omega)] at PKx
          have c0 := (H.out.raw.still O2.out).r0
          have c1 := (H.out.raw.still O2.out).r1
          have d1 := (H.out.raw.still O2.out).q1
          have d2 := O2.out.cell cl0 (fun s => s)
          have d3 := O2.out.cell cl1 (fun s => s)
          go_wp2_with fail
          go_quiet (fail)
          generalize hq : w2.drewN _ = w3 at *
          have O3 := Lib.hid (show Only none_ w w3 from hq ▸ O2.out.drewN _)
          clear hq
          clear c0 c1 d1 d2 d3
          have c0 := (H.out.raw.still O3.out).r0
          have c1 := (H.out.raw.still O3.out).r1
          have d1 := (H.out.raw.still O3.out).q1
          have d2 := O3.out.cell cl0 (fun s => s)
          have d3 := O3.out.cell cl1 (fun s => s)
          obtain ⟨t2, ht2⟩ : ∃ t2, decide (c.want < c.s.l0.length) = t2 := ⟨_, rfl⟩
          have d2' : decide ((c.want : Int) < (c.s.l0.length : Int)) = t2 := by
            rw [← ht2]
            by_cases qq : c.want < c.s.l0.length
            · rw [decide_eq_true qq]; exact decide_eq_true (by omega)
            · rw [decide_eq_false qq]; exact decide_eq_false (by omega)
          cases t2 with
          | true =>
            rw [if_pos (of_decide_eq_true ht2)] at PKx
            have VV := VV.out
            have VS := VS.out
            rw [q0, q1] at VV
            simp only [PKx] at VV
            rw [VV] at VS
            simp only at VV VS
            replace VV := Lib.hid VV
            replace VS := Lib.hid VS
            clear q0 q1 PKx d2' PK
            have IX := IN.out x VV.out
            have LD := Lib.hid (show c.s.liesC (x : Nat) = 0 ∧ c.s.dropS (x : Nat) = c.s.drop x from by
              have h1 : c.s.liesC (x : Nat) = 0 := by
                unfold Sh.liesC
                have h2 : hasN c.s.n (x : Nat) = true := by unfold hasN; simp; omega
                rw [h2, if_pos rfl, Int.toNat_natCast, if_neg IX.2.1]
              refine ⟨h1, ?_⟩
              unfold Sh.dropS
              rw [if_pos h1, Int.toNat_natCast])
            have FE := Lib.hid (H.out.fine.dropped IX.1)
            clear IX
            go_wp2_with fail
            go_quiet (fail)
            generalize hq : w3.drewN _ = w4 at *
            have O4 := Lib.hid (show Only none_ w w4 from hq ▸ O3.out.drewN _)
            clear hq
            clear c0 c1 d1 d2 d3
            have RAW := H.out.raw.still O4.out
            obtain ⟨⟨vu, rw_, ou, s⟩, a1, a2, a3, a4, a5, a6⟩ := RAW
            have RW := Lib.hid rw_
            have OU := Lib.hid ou
            have DR := drop_ref q hb _ c.s x w4 s
            rw [LD.out.1, LD.out.2] at DR
            replace DR := Lib.hid DR
            have c0 : (w4).cell? ⟨r, 0, none⟩ = some (.pointer (some ⟨q, 0, none⟩)) := (rw_.cell 0).trans rfl
            clear rw_ ou s
            go_wp2_with fail
            (with_reducible refine (DR.out).mono ?_)
            rintro e w6 ⟨rfl, s6, o6⟩
            have R6 := Lib.hid (rraw_turn RW.out OU.out s6 o6 a1 a2 a3 a4 a5 a6)
            have O6 := Lib.hid (O4.out.then_ (o6.qh (r := r) (ro := ro)))
            clear s6 o6 DR c0
            go_wp2_with fail
            go_ret2
            rw [VV.out, VS.out]
            exact ⟨rfl, ⟨R6.out, FE.out⟩, O6.out⟩
          | false =>
            rw [if_neg (of_decide_eq_false ht2)] at PKx
            have VV := VV.out
            have VS := VS.out
            rw [q0, q1] at VV
            simp only [PKx] at VV
            rw [VV] at VS
            simp only at VV VS
            replace VV := Lib.hid VV
            replace VS := Lib.hid VS
            clear q0 q1 PKx d2' PK
            have IX := IN.out y VV.out
            have LD := Lib.hid (show c.s.liesC (y : Nat) = 0 ∧ c.s.dropS (y : Nat) = c.s.drop y from by
              have h1 : c.s.liesC (y : Nat) = 0 := by
                unfold Sh.liesC
                have h2 : hasN c.s.n (y : Nat) = true := by unfold hasN; simp; omega
                rw [h2, if_pos rfl, Int.toNat_natCast, if_neg IX.2.1]
              refine ⟨h1, ?_⟩
              unfold Sh.dropS
              rw [if_pos h1, Int.toNat_natCast])
            have FE := Lib.hid (H.out.fine.dropped IX.1)
            clear IX
            go_wp2_with fail
            go_quiet (fail)
            generalize hq : w3.drewN _ = w4 at *
            have O4 := Lib.hid (show Only none_ w w4 from hq ▸ O3.out.drewN _)
            clear hq
            clear c0 c1 d1 d2 d3
            have RAW := H.out.raw.still O4.out
            obtain ⟨⟨vu, rw_, ou, s⟩, a1, a2, a3, a4, a5, a6⟩ := RAW
            have RW := Lib.hid rw_
            have OU := Lib.hid ou
            have DR := drop_ref q hb _ c.s y w4 s
            rw [LD.out.1, LD.out.2] at DR
            replace DR := Lib.hid DR
            have c0 : (w4).cell? ⟨r, 0, none⟩ = some (.pointer (some ⟨q, 0, none⟩)) := (rw_.cell 0).trans rfl
            clear rw_ ou s
            go_wp2_with fail
            (with_reducible refine (DR.out).mono ?_)
            rintro e w6 ⟨rfl, s6, o6⟩
            have R6 := Lib.hid (rraw_turn RW.out OU.out s6 o6 a1 a2 a3 a4 a5 a6)
            have O6 := Lib.hid (O4.out.then_ (o6.qh (r := r) (ro := ro)))
            clear s6 o6 DR c0
            go_wp2_with fail
            go_ret2
            rw [VV.out, VS.out]
            exact ⟨rfl, ⟨R6.out, FE.out⟩, O6.out⟩
end Go.Proofs.Ytpmhpamajkhhiaa

/- The document's own policy: the counts weighed; Miss_. -/
import Derived.Test.YtpmhpamajkhhiaaRscW
namespace Go.Proofs.Ytpmhpamajkhhiaa
open Go.RowKit
set_option linter.unusedVariables false

theorem full_split (c : Sc) : c.full = (decide (64 ≤ c.miss) || decide (64 ≤ c.hits)) := by
  unfold Sc.full
  by_cases a : 64 ≤ c.miss <;> by_cases b : 64 ≤ c.hits <;> simp [a, b]
/-- the counts are halved, where one is too great -/
def Sc.halve (c : Sc) : Sc := if c.full = true then ⟨c.s, c.us, c.want, c.miss / 2, c.hits / 2⟩ else c
theorem weigh_halve (c : Sc) : c.weigh = (Sc.mk c.s c.us c.newWant c.miss c.hits).halve := by
  have e : (Sc.mk c.s c.us c.newWant c.miss c.hits).full = c.full := rfl
  unfold Sc.weigh Sc.halve
  rw [e]
theorem side_cases' (x y : Int) : (y < x ∧ side x y = 1) ∨ (x < y ∧ side x y = -1) ∨ (x = y ∧ side x y = 0) := by
  unfold side
  by_cases a : x < y
  · rw [if_pos a]; exact .inr (.inl ⟨a, rfl⟩)
  · by_cases b : y < x
    · rw [if_neg a, if_pos b]; exact .inl ⟨b, rfl⟩
    · rw [if_neg a, if_neg b]; exact .inr (.inr ⟨by omega, rfl⟩)
theorem below_only' {w w' : World} (h : Below w.heap.size w w') : Only none_ w w' := ⟨h.os, h.tape, h.output, h.size, fun k hk _ => h.block k hk⟩

set_option maxRecDepth 100000 in
set_option maxHeartbeats 400000 in
theorem weigh_ref (r q hb : Nat) (ro : Nat → Prop) (c : Sc) (w : World) (h : RRaw w r q hb ro c) (hw : c.want ≤ c.s.n) (hm : c.miss ≤ 64) (hh : c.hits ≤ 64) :
    Calls Try.prog 54 #[.pointer (some ⟨r, 0, none⟩)] w fun e w' => e = .returned (.tuple #[]) ∧ RRaw w' r q hb ro c.weigh ∧ Only (rset r q hb ro) w w' := by
  have H := Lib.hid h
  have le64 := fine_len0 h.shelfFine
  have b64 := h.shelfFine.botn
  have n64 := h.shelfFine.n64
  have CR := Lib.hid (fun w => cross_ref c.miss c.s.bot c.hits c.s.l0.length (by omega) (by omega) (by omega) (by omega) w)
  have NW := Lib.hid (show c.newWant = if c.hits * c.s.l0.length < c.miss * c.s.bot then min (c.want + 1) c.s.n else if c.miss * c.s.bot < c.hits * c.s.l0.length then c.want - 1 else c.want from rfl)
  have WH := Lib.hid (weigh_halve c)
  have SD := Lib.hid (side_cases' ((c.miss * c.s.bot : Nat) : Int) ((c.hits * c.s.l0.length : Nat) : Int))
  generalize side ((c.miss * c.s.bot : Nat) : Int) ((c.hits * c.s.l0.length : Nat) : Int) = sd at *
  obtain ⟨al, nl, kl, cl, hnl, _⟩ := h.list0
  subst hnl
  have CL := Lib.hid (fun w' (o : Only none_ w w') => o.cell cl (fun s => s))
  clear h cl
  go_enter Try.func54, Try.ntmps54
  go_wp2_with fail
  have OD := Lib.hid (Only.refl none_ w).drew
  have HD := Lib.hid (H.out.still OD.out)
  have c0 := HD.out.r0
  have c2 := HD.out.r2
  have c3 := HD.out.r3
  have d1 := HD.out.q1
  have d2 := CL.out _ OD.out
  have v1 : IntKind.u64.wrap (c.s.bot : Int) = (c.s.bot : Int) := by rw [IntKind.wrap_u64]; omega
  have v2 : IntKind.u64.wrap (c.s.l0.length : Int) = (c.s.l0.length : Int) := by rw [IntKind.wrap_u64]; omega
  go_region_held3 (fun w' => w'.cell? ⟨r, 0, none⟩ = some (.pointer (some ⟨q, 0, none⟩)) ∧ w'.cell? ⟨r, 2, none⟩ = some (.int .u64 c.miss) ∧ w'.cell? ⟨r, 3, none⟩ = some (.int .u64 c.hits) ∧ w'.cell? ⟨q, 1, none⟩ = some (.int .i64 c.s.bot) ∧ w'.cell? ⟨q, 2, none⟩ = some (.slice al c.s.l0.length kl))
    (first
      | (go_split_ands; with_reducible exact ⟨c0, c2, c3, d1, d2⟩)
      | (go_split_ands; with_reducible exact ⟨HS1.out.r0, HS1.out.r2, HS1.out.r3, HS1.out.q1, CL.out _ O1.out⟩))
    (first
      | (go_at_call 71; (with_reducible refine (CR.out _).mono ?_); rintro e w1 ⟨rfl, o1⟩; have O1 := Lib.hid (OD.out.same (below_only' o1)); have HS1 := Lib.hid (H.out.still O1.out)))
  rename_i hHeld
  clear hHeld c0 c2 c3 d1 d2 v1 v2 HD OD o1 CR CL
  have O1' := Lib.hid (O1.out.up (S := rset r q hb ro))
  have c0 := HS1.out.r0
  have c1 := HS1.out.r1
  have c2 := HS1.out.r2
  have c3 := HS1.out.r3
  have d0 := HS1.out.q0
  have z := HS1.out.frz
  have lr := HS1.out.lt
  rcases SD.out with ⟨sd1, rfl⟩ | ⟨sd1, rfl⟩ | ⟨sd1, rfl⟩
  · by_cases hn : c.want < c.s.n
    · have nw : c.newWant = c.want + 1 := by
        rw [NW.out, if_pos (by omega)]
        omega
      have dn : decide ((c.want : Int) < (c.s.n : Int)) = true := decide_eq_true (by omega)
      have uw : IntKind.i64.wrap ((c.want : Int) + 1) = (c.want : Int) + 1 := by rw [IntKind.wrap_i64]; omega
      clear SD NW sd1
      go_wp2_with fail
      go_quiet (fail)
      generalize hq : w1.drewN _ = wa at *
      have RA := Lib.hid (show RRaw wa r q hb ro _ from hq ▸ HS1.out.still ((Only.refl none_ w1).drewN _))
      have OA := Lib.hid (show Only (rset r q hb ro) w wa from hq ▸ O1'.out.drewN _)
      clear hq
      clear c0 c1 c2 c3 d0 z lr
      have c0 := RA.out.r0
      have c1 := RA.out.r1
      have c2 := RA.out.r2
      have c3 := RA.out.r3
      have d0 := RA.out.q0
      have z := RA.out.frz
      have lr := RA.out.lt
      have R2 := Lib.hid (show RRaw (wa.setCell ⟨r, 1, none⟩ (.int .i64 ((c.want : Int) + 1))) r q hb ro ⟨c.s, c.us, c.newWant, c.miss, c.hits⟩ from by
        rw [nw]
        exact RA.out.setW _)
      have O2 := Lib.hid (OA.out.into (.inl rfl) 1 (.int .i64 ((c.want : Int) + 1)))
      clear nw
      clear WH
      cases t1 : decide (64 ≤ c.miss) with
      | true =>
        have fu : c.full = true := by rw [full_split, t1]; rfl
        have d1 : decide ((64 : Int) ≤ (c.miss : Int)) = true := decide_eq_true (by have := of_decide_eq_true t1; omega)
        have HV2 : c.weigh = ⟨c.s, c.us, c.newWant, c.miss / 2, c.hits / 2⟩ := by
          unfold Sc.weigh
          rw [fu, if_pos rfl]
        replace HV2 := Lib.hid HV2
        have u1 : IntKind.u64.wrap ((c.miss : Int) / 2) = ((c.miss / 2 : Nat) : Int) := by rw [IntKind.wrap_u64]; omega
        have u2 : IntKind.u64.wrap ((c.hits : Int) / 2) = ((c.hits / 2 : Nat) : Int) := by rw [IntKind.wrap_u64]; omega
        clear fu t1
        go_wp2_with fail
        go_end0
        rw [HV2.out]
        exact ⟨rfl, (R2.out.setM (c.miss / 2)).setH (c.hits / 2), (O2.out.into (.inl rfl) _ _).into (.inl rfl) _ _⟩
      | false =>
        have d1 : decide ((64 : Int) ≤ (c.miss : Int)) = false := decide_eq_false (by have := of_decide_eq_false t1; omega)
        cases t2 : decide (64 ≤ c.hits) with
        | true =>
          have fu : c.full = true := by rw [full_split, t2, Bool.or_true]
          have d2 : decide ((64 : Int) ≤ (c.hits : Int)) = true := decide_eq_true (by have := of_decide_eq_true t2; omega)
          have HV2 : c.weigh = ⟨c.s, c.us, c.newWant, c.miss / 2, c.hits / 2⟩ := by
            unfold Sc.weigh
            rw [fu, if_pos rfl]
          replace HV2 := Lib.hid HV2
          have u1 : IntKind.u64.wrap ((c.miss : Int) / 2) = ((c.miss / 2 : Nat) : Int) := by rw [IntKind.wrap_u64]; omega
          have u2 : IntKind.u64.wrap ((c.hits : Int) / 2) = ((c.hits / 2 : Nat) : Int) := by rw [IntKind.wrap_u64]; omega
          clear fu t1
          go_wp2_with fail
          go_end0
          rw [HV2.out]
          exact ⟨rfl, (R2.out.setM (c.miss / 2)).setH (c.hits / 2), (O2.out.into (.inl rfl) _ _).into (.inl rfl) _ _⟩
        | false =>
          have fu : c.full = false := by rw [full_split, t1, t2]; rfl
          have d2 : decide ((64 : Int) ≤ (c.hits : Int)) = false := decide_eq_false (by have := of_decide_eq_false t2; omega)
          have HV2 : c.weigh = ⟨c.s, c.us, c.newWant, c.miss, c.hits⟩ := by
            unfold Sc.weigh
            rw [fu, if_neg (by decide)]
          replace HV2 := Lib.hid HV2
          clear fu t1 t2
          go_wp2_with fail
          go_end0
          rw [HV2.out]
          exact ⟨rfl, R2.out, O2.out⟩
    · have nw : c.newWant = c.want := by
        rw [NW.out, if_pos (by omega)]
        omega
      have R2 := Lib.hid (show RRaw w1 r q hb ro ⟨c.s, c.us, c.newWant, c.miss, c.hits⟩ from by rw [nw]; exact HS1.out)
      have dn : decide ((c.want : Int) < (c.s.n : Int)) = false := decide_eq_false (by omega)
      clear SD NW sd1 
      go_wp2_with fail
      go_quiet (fail)
      generalize hq : w1.drewN _ = wa at *
      have RA := Lib.hid (show RRaw wa r q hb ro _ from hq ▸ R2.out.still ((Only.refl none_ w1).drewN _))
      have OA := Lib.hid (show Only (rset r q hb ro) w wa from hq ▸ O1'.out.drewN _)
      clear hq
      clear c0 c1 c2 c3 d0 z lr
      have c0 := RA.out.r0
      have c1 := RA.out.r1
      have c2 := RA.out.r2
      have c3 := RA.out.r3
      have d0 := RA.out.q0
      have z := RA.out.frz
      have lr := RA.out.lt
      simp only at c0 c1 c2 c3 d0
      clear WH
      cases t1 : decide (64 ≤ c.miss) with
      | true =>
        have fu : c.full = true := by rw [full_split, t1]; rfl
        have d1 : decide ((64 : Int) ≤ (c.miss : Int)) = true := decide_eq_true (by have := of_decide_eq_true t1; omega)
        have HV2 : c.weigh = ⟨c.s, c.us, c.newWant, c.miss / 2, c.hits / 2⟩ := by
          unfold Sc.weigh
          rw [fu, if_pos rfl]
        replace HV2 := Lib.hid HV2
        have u1 : IntKind.u64.wrap ((c.miss : Int) / 2) = ((c.miss / 2 : Nat) : Int) := by rw [IntKind.wrap_u64]; omega
        have u2 : IntKind.u64.wrap ((c.hits : Int) / 2) = ((c.hits / 2 : Nat) : Int) := by rw [IntKind.wrap_u64]; omega
        clear fu t1
        go_wp2_with fail
        go_end0
        rw [HV2.out]
        exact ⟨rfl, (RA.out.setM (c.miss / 2)).setH (c.hits / 2), (OA.out.into (.inl rfl) _ _).into (.inl rfl) _ _⟩
      | false =>
        have d1 : decide ((64 : Int) ≤ (c.miss : Int)) = false := decide_eq_false (by have := of_decide_eq_false t1; omega)
        cases t2 : decide (64 ≤ c.hits) with
        | true =>
          have fu : c.full = true := by rw [full_split, t2, Bool.or_true]
          have d2 : decide ((64 : Int) ≤ (c.hits : Int)) = true := decide_eq_true (by have := of_decide_eq_true t2; omega)
          have HV2 : c.weigh = ⟨c.s, c.us, c.newWant, c.miss / 2, c.hits / 2⟩ := by
            unfold Sc.weigh
            rw [fu, if_pos rfl]
          replace HV2 := Lib.hid HV2
          have u1 : IntKind.u64.wrap ((c.miss : Int) / 2) = ((c.miss / 2 : Nat) : Int) := by rw [IntKind.wrap_u64]; omega
          have u2 : IntKind.u64.wrap ((c.hits : Int) / 2) = ((c.hits / 2 : Nat) : Int) := by rw [IntKind.wrap_u64]; omega
          clear fu t1
          go_wp2_with fail
          go_end0
          rw [HV2.out]
          exact ⟨rfl, (RA.out.setM (c.miss / 2)).setH (c.hits / 2), (OA.out.into (.inl rfl) _ _).into (.inl rfl) _ _⟩
        | false =>
          have fu : c.full = false := by rw [full_split, t1, t2]; rfl
          have d2 : decide ((64 : Int) ≤ (c.hits : Int)) = false := decide_eq_false (by have := of_decide_eq_false t2; omega)
          have HV2 : c.weigh = ⟨c.s, c.us, c.newWant, c.miss, c.hits⟩ := by
            unfold Sc.weigh
            rw [fu, if_neg (by decide)]
          replace HV2 := Lib.hid HV2
          clear fu t1 t2
          go_wp2_with fail
          go_end0
          rw [HV2.out]
          exact ⟨rfl, RA.out, OA.out⟩
  · by_cases hn : 0 < c.want
    · have nw : c.newWant = c.want - 1 := by
        rw [NW.out, if_neg (by omega), if_pos (by omega)]
      have dn : decide ((0 : Int) < (c.want : Int)) = true := decide_eq_true (by omega)
      have uw : IntKind.i64.wrap ((c.want : Int) - 1) = (c.want : Int) - 1 := by rw [IntKind.wrap_i64]; omega
      have ew : ((c.want - 1 : Nat) : Int) = (c.want : Int) - 1 := by omega
      clear SD NW sd1
      go_wp2_with fail
      go_quiet (fail)
      generalize hq : w1.drewN _ = wa at *
      have RA := Lib.hid (show RRaw wa r q hb ro _ from hq ▸ HS1.out.still ((Only.refl none_ w1).drewN _))
      have OA := Lib.hid (show Only (rset r q hb ro) w wa from hq ▸ O1'.out.drewN _)
      clear hq
      clear c0 c1 c2 c3 d0 z lr
      have c0 := RA.out.r0
      have c1 := RA.out.r1
      have c2 := RA.out.r2
      have c3 := RA.out.r3
      have d0 := RA.out.q0
      have z := RA.out.frz
      have lr := RA.out.lt
      have R2 := Lib.hid (show RRaw (wa.setCell ⟨r, 1, none⟩ (.int .i64 ((c.want : Int) - 1))) r q hb ro ⟨c.s, c.us, c.newWant, c.miss, c.hits⟩ from by
        rw [nw]
        rw [← ew]; exact RA.out.setW _)
      have O2 := Lib.hid (OA.out.into (.inl rfl) 1 (.int .i64 ((c.want : Int) - 1)))
      clear nw
      clear ew
      clear WH
      cases t1 : decide (64 ≤ c.miss) with
      | true =>
        have fu : c.full = true := by rw [full_split, t1]; rfl
        have d1 : decide ((64 : Int) ≤ (c.miss : Int)) = true := decide_eq_true (by have := of_decide_eq_true t1; omega)
        have HV2 : c.weigh = ⟨c.s, c.us, c.newWant, c.miss / 2, c.hits / 2⟩ := by
          unfold Sc.weigh
          rw [fu, if_pos rfl]
        replace HV2 := Lib.hid HV2
        have u1 : IntKind.u64.wrap ((c.miss : Int) / 2) = ((c.miss / 2 : Nat) : Int) := by rw [IntKind.wrap_u64]; omega
        have u2 : IntKind.u64.wrap ((c.hits : Int) / 2) = ((c.hits / 2 : Nat) : Int) := by rw [IntKind.wrap_u64]; omega
        clear fu t1
        go_wp2_with fail
        go_end0
        rw [HV2.out]
        exact ⟨rfl, (R2.out.setM (c.miss / 2)).setH (c.hits / 2), (O2.out.into (.inl rfl) _ _).into (.inl rfl) _ _⟩
      | false =>
        have d1 : decide ((64 : Int) ≤ (c.miss : Int)) = false := decide_eq_false (by have := of_decide_eq_false t1; omega)
        cases t2 : decide (64 ≤ c.hits) with
        | true =>
          have fu : c.full = true := by rw [full_split, t2, Bool.or_true]
          have d2 : decide ((64 : Int) ≤ (c.hits : Int)) = true := decide_eq_true (by have := of_decide_eq_true t2; omega)
          have HV2 : c.weigh = ⟨c.s, c.us, c.newWant, c.miss / 2, c.hits / 2⟩ := by
            unfold Sc.weigh
            rw [fu, if_pos rfl]
          replace HV2 := Lib.hid HV2
          have u1 : IntKind.u64.wrap ((c.miss : Int) / 2) = ((c.miss / 2 : Nat) : Int) := by rw [IntKind.wrap_u64]; omega
          have u2 : IntKind.u64.wrap ((c.hits : Int) / 2) = ((c.hits / 2 : Nat) : Int) := by rw [IntKind.wrap_u64]; omega
          clear fu t1
          go_wp2_with fail
          go_end0
          rw [HV2.out]
          exact ⟨rfl, (R2.out.setM (c.miss / 2)).setH (c.hits / 2), (O2.out.into (.inl rfl) _ _).into (.inl rfl) _ _⟩
        | false =>
          have fu : c.full = false := by rw [full_split, t1, t2]; rfl
          have d2 : decide ((64 : Int) ≤ (c.hits : Int)) = false := decide_eq_false (by have := of_decide_eq_false t2; omega)
          have HV2 : c.weigh = ⟨c.s, c.us, c.newWant, c.miss, c.hits⟩ := by
            unfold Sc.weigh
            rw [fu, if_neg (by decide)]
          replace HV2 := Lib.hid HV2
          clear fu t1 t2
          go_wp2_with fail
          go_end0
          rw [HV2.out]
          exact ⟨rfl, R2.out, O2.out⟩
    · have nw : c.newWant = c.want := by
        rw [NW.out, if_neg (by omega), if_pos (by omega)]
        omega
      have R2 := Lib.hid (show RRaw w1 r q hb ro ⟨c.s, c.us, c.newWant, c.miss, c.hits⟩ from by rw [nw]; exact HS1.out)
      have w0 : c.want = 0 := by omega
      have dn : decide ((0 : Int) < (c.want : Int)) = false := decide_eq_false (by omega)
      clear SD NW sd1
      go_wp2_with fail
      go_quiet (fail)
      generalize hq : w1.drewN _ = wa at *
      have RA := Lib.hid (show RRaw wa r q hb ro _ from hq ▸ R2.out.still ((Only.refl none_ w1).drewN _))
      have OA := Lib.hid (show Only (rset r q hb ro) w wa from hq ▸ O1'.out.drewN _)
      clear hq
      clear c0 c1 c2 c3 d0 z lr
      have c0 := RA.out.r0
      have c1 := RA.out.r1
      have c2 := RA.out.r2
      have c3 := RA.out.r3
      have d0 := RA.out.q0
      have z := RA.out.frz
      have lr := RA.out.lt
      simp only at c0 c1 c2 c3 d0
      rw [nw] at c1
      clear WH
      cases t1 : decide (64 ≤ c.miss) with
      | true =>
        have fu : c.full = true := by rw [full_split, t1]; rfl
        have d1 : decide ((64 : Int) ≤ (c.miss : Int)) = true := decide_eq_true (by have := of_decide_eq_true t1; omega)
        have HV2 : c.weigh = ⟨c.s, c.us, c.newWant, c.miss / 2, c.hits / 2⟩ := by
          unfold Sc.weigh
          rw [fu, if_pos rfl]
        replace HV2 := Lib.hid HV2
        have u1 : IntKind.u64.wrap ((c.miss : Int) / 2) = ((c.miss / 2 : Nat) : Int) := by rw [IntKind.wrap_u64]; omega
        have u2 : IntKind.u64.wrap ((c.hits : Int) / 2) = ((c.hits / 2 : Nat) : Int) := by rw [IntKind.wrap_u64]; omega
        clear fu t1
        go_wp2_with fail
        go_end0
        rw [HV2.out]
        exact ⟨rfl, (RA.out.setM (c.miss / 2)).setH (c.hits / 2), (OA.out.into (.inl rfl) _ _).into (.inl rfl) _ _⟩
      | false =>
        have d1 : decide ((64 : Int) ≤ (c.miss : Int)) = false := decide_eq_false (by have := of_decide_eq_false t1; omega)
        cases t2 : decide (64 ≤ c.hits) with
        | true =>
          have fu : c.full = true := by rw [full_split, t2, Bool.or_true]
          have d2 : decide ((64 : Int) ≤ (c.hits : Int)) = true := decide_eq_true (by have := of_decide_eq_true t2; omega)
          have HV2 : c.weigh = ⟨c.s, c.us, c.newWant, c.miss / 2, c.hits / 2⟩ := by
            unfold Sc.weigh
            rw [fu, if_pos rfl]
          replace HV2 := Lib.hid HV2
          have u1 : IntKind.u64.wrap ((c.miss : Int) / 2) = ((c.miss / 2 : Nat) : Int) := by rw [IntKind.wrap_u64]; omega
          have u2 : IntKind.u64.wrap ((c.hits : Int) / 2) = ((c.hits / 2 : Nat) : Int) := by rw [IntKind.wrap_u64]; omega
          clear fu t1
          go_wp2_with fail
          go_end0
          rw [HV2.out]
          exact ⟨rfl, (RA.out.setM (c.miss / 2)).setH (c.hits / 2), (OA.out.into (.inl rfl) _ _).into (.inl rfl) _ _⟩
        | false =>
          have fu : c.full = false := by rw [full_split, t1, t2]; rfl
          have d2 : decide ((64 : Int) ≤ (c.hits : Int)) = false := decide_eq_false (by have := of_decide_eq_false t2; omega)
          have HV2 : c.weigh = ⟨c.s, c.us, c.newWant, c.miss, c.hits⟩ := by
            unfold Sc.weigh
            rw [fu, if_neg (by decide)]
          replace HV2 := Lib.hid HV2
          clear fu t1 t2
          go_wp2_with fail
          go_end0
          rw [HV2.out]
          exact ⟨rfl, RA.out, OA.out⟩
  · have nw : c.newWant = c.want := by
      rw [NW.out, if_neg (by omega), if_neg (by omega)]
    have R2 := Lib.hid (show RRaw w1 r q hb ro ⟨c.s, c.us, c.newWant, c.miss, c.hits⟩ from by rw [nw]; exact HS1.out)
    clear SD NW sd1 nw
    go_wp2_with fail
    go_quiet (fail)
    generalize hq : w1.drewN _ = wa at *
    have RA := Lib.hid (show RRaw wa r q hb ro _ from hq ▸ R2.out.still ((Only.refl none_ w1).drewN _))
    have OA := Lib.hid (show Only (rset r q hb ro) w wa from hq ▸ O1'.out.drewN _)
    clear hq
    clear c0 c1 c2 c3 d0 z lr
    have c0 := RA.out.r0
    have c1 := RA.out.r1
    have c2 := RA.out.r2
    have c3 := RA.out.r3
    have d0 := RA.out.q0
    have z := RA.out.frz
    have lr := RA.out.lt
    simp only at c0 c1 c2 c3 d0
    clear WH
    cases t1 : decide (64 ≤ c.miss) with
    | true =>
      have fu : c.full = true := by rw [full_split, t1]; rfl
      have d1 : decide ((64 : Int) ≤ (c.miss : Int)) = true := decide_eq_true (by have := of_decide_eq_true t1; omega)
      have HV2 : c.weigh = ⟨c.s, c.us, c.newWant, c.miss / 2, c.hits / 2⟩ := by
        unfold Sc.weigh
        rw [fu, if_pos rfl]
      replace HV2 := Lib.hid HV2
      have u1 : IntKind.u64.wrap ((c.miss : Int) / 2) = ((c.miss / 2 : Nat) : Int) := by rw [IntKind.wrap_u64]; omega
      have u2 : IntKind.u64.wrap ((c.hits : Int) / 2) = ((c.hits / 2 : Nat) : Int) := by rw [IntKind.wrap_u64]; omega
      clear fu t1
      go_wp2_with fail
      go_end0
      rw [HV2.out]
      exact ⟨rfl, (RA.out.setM (c.miss / 2)).setH (c.hits / 2), (OA.out.into (.inl rfl) _ _).into (.inl rfl) _ _⟩
    | false =>
      have d1 : decide ((64 : Int) ≤ (c.miss : Int)) = false := decide_eq_false (by have := of_decide_eq_false t1; omega)
      cases t2 : decide (64 ≤ c.hits) with
      | true =>
        have fu : c.full = true := by rw [full_split, t2, Bool.or_true]
        have d2 : decide ((64 : Int) ≤ (c.hits : Int)) = true := decide_eq_true (by have := of_decide_eq_true t2; omega)
        have HV2 : c.weigh = ⟨c.s, c.us, c.newWant, c.miss / 2, c.hits / 2⟩ := by
          unfold Sc.weigh
          rw [fu, if_pos rfl]
        replace HV2 := Lib.hid HV2
        have u1 : IntKind.u64.wrap ((c.miss : Int) / 2) = ((c.miss / 2 : Nat) : Int) := by rw [IntKind.wrap_u64]; omega
        have u2 : IntKind.u64.wrap ((c.hits : Int) / 2) = ((c.hits / 2 : Nat) : Int) := by rw [IntKind.wrap_u64]; omega
        clear fu t1
        go_wp2_with fail
        go_end0
        rw [HV2.out]
        exact ⟨rfl, (RA.out.setM (c.miss / 2)).setH (c.hits / 2), (OA.out.into (.inl rfl) _ _).into (.inl rfl) _ _⟩
      | false =>
        have fu : c.full = false := by rw [full_split, t1, t2]; rfl
        have d2 : decide ((64 : Int) ≤ (c.hits : Int)) = false := decide_eq_false (by have := of_decide_eq_false t2; omega)
        have HV2 : c.weigh = ⟨c.s, c.us, c.newWant, c.miss, c.hits⟩ := by
          unfold Sc.weigh
          rw [fu, if_neg (by decide)]
        replace HV2 := Lib.hid HV2
        clear fu t1 t2
        go_wp2_with fail
        go_end0
        rw [HV2.out]
        exact ⟨rfl, RA.out, OA.out⟩
end Go.Proofs.Ytpmhpamajkhhiaa

/- The document's own policy: Miss_, Hit. -/
import Derived.Test.YtpmhpamajkhhiaaRscV
import Derived.Test.YtpmhpamajkhhiaaSarcC
namespace Go.Proofs.Ytpmhpamajkhhiaa
open Go.RowKit
set_option linter.unusedVariables false

set_option maxRecDepth 100000 in
set_option maxHeartbeats 400000 in
theorem miss_ref (r q hb : Nat) (ro : Nat → Prop) (c : Sc) (k : Int) (w : World) (h : RSc w r q hb ro c) :
    Calls Try.prog 32 #[.pointer (some ⟨r, 0, none⟩), .int .i64 k] w fun e w' => e = .returned (.int .i64 (missC k)) ∧ RSc w' r q hb ro (c.missS k) ∧ Only (rset r q hb ro) w w' := by
  have H := Lib.hid h
  have c2 := h.raw.r2
  have z := h.raw.frz
  have lr := h.raw.lt
  have m64 := h.fine.miss
  clear h
  by_cases k0 : k < 0
  · have eL : hasL k = false := by unfold hasL; simp; omega
    have e1 : missC k = 1 := by unfold missC; rw [eL]; rfl
    have e2 : c.missS k = c := by unfold Sc.missS; rw [if_neg (by omega)]
    rw [e1, e2]
    have d1 : decide (k < 0) = true := by simp [k0]
    clear eL e1 e2 k0
    go_enter Try.func32, Try.ntmps32
    go_wp2
    go_ret
    exact ⟨rfl, H.out, Only.refl _ _⟩
  · have d1 : decide (k < 0) = false := by simp; omega
    by_cases k1 : 1 < k
    · have eL : hasL k = false := by unfold hasL; simp; omega
      have e1 : missC k = 1 := by unfold missC; rw [eL]; rfl
      have e2 : c.missS k = c := by unfold Sc.missS; rw [if_neg (by omega)]
      rw [e1, e2]
      have d2 : decide (1 < k) = true := by simp [k1]
      clear eL e1 e2 k0 k1
      go_enter Try.func32, Try.ntmps32
      go_wp2
      go_ret
      exact ⟨rfl, H.out, Only.refl _ _⟩
    · have k01 : k = 0 ∨ k = 1 := by omega
      clear d1 k0 k1
      rcases k01 with rfl | rfl
      · rw [show missC 0 = 0 from by decide, show c.missS 0 = (Sc.mk c.s c.us c.want (c.miss + 1) c.hits).weigh from rfl]
        have FE := Lib.hid (show (Sc.mk c.s c.us c.want (c.miss + 1) c.hits).weigh.Fine from H.out.fine.missS 0)
        have u1 : IntKind.u64.wrap ((c.miss : Int) + 1) = (c.miss : Int) + 1 := by rw [IntKind.wrap_u64]; omega
        have R1 := Lib.hid (show RRaw (w.setCell ⟨r, 2, none⟩ (.int .u64 ((c.miss : Int) + 1))) r q hb ro ⟨c.s, c.us, c.want, c.miss + 1, c.hits⟩ from H.out.raw.setM (c.miss + 1))
        have WG := Lib.hid (weigh_ref r q hb ro _ _ R1.out H.out.fine.want (by show c.miss + 1 ≤ 64; omega) (Nat.le_of_lt H.out.fine.hits))
        have OP := Lib.hid ((Only.refl (rset r q hb ro) w).into (.inl rfl) 2 (.int .u64 ((c.miss : Int) + 1)))
        go_enter Try.func32, Try.ntmps32
        go_wp2_with fail
        (with_reducible refine (WG.out).mono ?_)
        rintro e w2 ⟨rfl, h2, o2⟩
        have R2 := Lib.hid h2
        have O2 := Lib.hid (OP.out.same o2)
        clear h2 o2 WG c2 z
        go_wp2
        go_ret
        exact ⟨rfl, ⟨R2.out, FE.out⟩, O2.out⟩
      · rw [show missC 1 = 0 from by decide, show c.missS 1 = c from rfl]
        go_enter Try.func32, Try.ntmps32
        go_wp2
        go_ret
        exact ⟨rfl, H.out, Only.refl _ _⟩

theorem hit_yes' {c : Sc} {i k : Nat} (h : c.hitC i k = 0) : c.hitS i k = (c.hitW i).use k i := by
  unfold Sc.hitS
  rw [if_pos h, Int.toNat_natCast, Int.toNat_natCast]
set_option maxRecDepth 100000 in
set_option maxHeartbeats 400000 in
theorem hit_ref (r q hb : Nat) (ro : Nat → Prop) (c : Sc) (i k : Int) (w : World) (h : RSc w r q hb ro c) (hu : c.us.length < 1000000) :
    Calls Try.prog 31 #[.pointer (some ⟨r, 0, none⟩), .int .i64 i, .int .i64 k] w fun e w' => e = .returned (.int .i64 (c.hitC i k)) ∧ RSc w' r q hb ro (c.hitS i k) ∧ Only (rset r q hb ro) w w' := by
  have H := Lib.hid h
  have HM := smay_ref r q hb ro c i k w h.raw
  cases em : (hasN c.s.n i && hasL k) with
  | false =>
    have e1 : c.hitC i k = 1 := by unfold Sc.hitC; rw [em]; rfl
    have e2 : c.hitS i k = c := by unfold Sc.hitS; rw [if_neg (by rw [e1]; decide)]
    rw [e1, e2]
    rw [em] at HM
    replace HM := Lib.hid HM
    clear h em e1 e2
    go_enter Try.func31, Try.ntmps31
    go_wp2_with fail
    (with_reducible refine (HM.out).mono ?_)
    rintro e w' ⟨rfl, rfl⟩
    go_wp2
    go_ret
    exact ⟨rfl, H.out, Only.refl _ _⟩
  | true =>
    rw [em] at HM
    replace HM := Lib.hid HM
    rw [Bool.and_eq_true] at em
    obtain ⟨j, rfl, hj⟩ := hasN_nat em.1
    obtain ⟨kn, rfl, hk⟩ : ∃ kn : Nat, k = kn ∧ kn < 2 := by
      rcases hasL_cases em.2 with rfl | rfl
      · exact ⟨0, rfl, by decide⟩
      · exact ⟨1, rfl, by decide⟩
    have c0 := h.raw.r0
    obtain ⟨ok, sk⟩ := h.raw.shelf
    have WR := where_ref q hb ok c.s j w sk
    by_cases ql : c.s.lst j = -1
    · have e1 : c.hitC j kn = 3 := by unfold Sc.hitC; rw [em.1, em.2, Int.toNat_natCast, if_pos ql]; rfl
      have e2 : c.hitS j kn = c := by unfold Sc.hitS; rw [if_neg (by rw [e1]; decide)]
      rw [e1, e2]
      rw [where_no ql] at WR
      replace WR := Lib.hid WR
      clear h em e1 e2 ql sk
      go_enter Try.func31, Try.ntmps31
      go_wp2_with fail
      (with_reducible refine (HM.out).mono ?_)
      rintro e w' ⟨rfl, rfl⟩
      go_wp2_with fail
      (with_reducible refine (WR.out).mono ?_)
      rintro e w1 ⟨rfl, o1⟩
      have O1 := Lib.hid o1
      clear o1
      go_wp2
      go_ret
      exact ⟨rfl, H.out.still O1.out, O1.out.up⟩
    · have e1 : c.hitC j kn = 0 := by unfold Sc.hitC; rw [em.1, em.2, Int.toNat_natCast, if_neg ql]; rfl
      have e2 := hit_yes' e1
      have FE := h.fine.hitS j kn
      rw [e2] at FE
      rw [e1, e2]
      replace FE := Lib.hid FE
      rw [where_yes hj ql] at WR
      have FR := Lib.hid (show c.s.frontC kn j = 0 ∧ c.s.frontS kn j = c.s.front kn j from by
        unfold Sh.frontC Sh.frontS
        rw [em.1, em.2]
        exact ⟨rfl, rfl⟩)
      obtain ⟨i0, hi0, hz0, hz1, hz2⟩ := info_parts info_int8
      have I0 := Lib.hid hi0
      have I1 := Lib.hid hz0
      have I2 := Lib.hid hz1
      have I3 := Lib.hid hz2
      obtain ⟨f1, s1, u1⟩ := h.fine.hitW j
      have lc := lst_cases ql
      have h64 := h.fine.hits
      clear hi0 hz0 hz1 hz2 sk h em e1 e2 f1
      by_cases hc : c.s.lst j = 1 ∧ c.s.low j = true
      · have ew : c.hitW j = (Sc.mk c.s c.us c.want c.miss (c.hits + 1)).weigh := by unfold Sc.hitW; rw [if_pos hc]
        rw [hc.1, hc.2] at WR
        replace WR := Lib.hid WR
        rw [← s1] at FR
        have LU := Lib.hid (show (ints (c.hitW j).us).length < 1000001 from by rw [ints_len, u1]; omega)
        have uh : IntKind.u64.wrap ((c.hits : Int) + 1) = (c.hits : Int) + 1 := by rw [IntKind.wrap_u64]; omega
        clear hc ql lc s1 u1
        go_enter Try.func31, Try.ntmps31
        go_wp2_with fail
        (with_reducible refine (HM.out).mono ?_)
        rintro e w' ⟨rfl, rfl⟩
        go_wp2_with fail
        (with_reducible refine (WR.out).mono ?_)
        rintro e w1 ⟨rfl, o1⟩
        have O1 := Lib.hid o1
        have H1 := Lib.hid (H.out.still o1)
        have c3 := H1.out.raw.r3
        have z := H1.out.raw.frz
        have lr := H1.out.raw.lt
        have R1 := Lib.hid (show RRaw (w1.setCell ⟨r, 3, none⟩ (.int .u64 ((c.hits : Int) + 1))) r q hb ro ⟨c.s, c.us, c.want, c.miss, c.hits + 1⟩ from H1.out.raw.setH (c.hits + 1))
        have WG := Lib.hid (weigh_ref r q hb ro _ _ R1.out H.out.fine.want (Nat.le_of_lt H.out.fine.miss) (by show c.hits + 1 ≤ 64; omega))
        have OP := Lib.hid (O1.out.then_ ((Only.refl (rset r q hb ro) w1).into (.inl rfl) 3 (.int .u64 ((c.hits : Int) + 1))))
        clear o1 WR c0
        go_wp2_with fail
        (with_reducible refine (WG.out).mono ?_)
        rintro e wa ⟨rfl, h2, o2⟩
        rw [← ew] at h2
        have RA := Lib.hid h2
        have OA := Lib.hid (OP.out.same o2)
        clear h2 o2 WG c3 z ew
        obtain ⟨⟨vu, rw_, ou, s⟩, a1, a2, a3, a4, a5, a6⟩ := RA.out
        have RW := Lib.hid rw_
        have OU := Lib.hid ou
        have c0 : wa.cell? ⟨r, 0, none⟩ = some (.pointer (some ⟨q, 0, none⟩)) := (rw_.cell 0).trans rfl
        have F1 := front_ref q hb _ _ kn j wa s
        rw [FR.out.1, FR.out.2] at F1
        replace F1 := Lib.hid F1
        clear rw_ ou s
        go_wp2_with fail
        (with_reducible refine (F1.out).mono ?_)
        rintro e w2 ⟨rfl, s2, o2⟩
        have O2' := Lib.hid (o2.more (S' := fun k => k = q ∨ k = hb) (fun _ _ e => .inl e))
        have O2 := Lib.hid (OA.out.same O2'.out.qh)
        have R3 := rraw_turn RW.out OU.out s2 O2'.out a1 a2 a3 a4 a5 a6
        clear s2 o2 F1 c0 RW OU
        obtain ⟨⟨vx, rw3, ou3, s3⟩, _, _, _, _, _, a63⟩ := R3
        have RW := Lib.hid rw3
        have OU := Lib.hid ou3
        have SH := Lib.hid s3
        have c4 : w2.cell? ⟨r, 4, none⟩ = some vx := (rw3.cell 4).trans rfl
        obtain ⟨av, nv, kv, rfl⟩ := own_form ou3.1
        have OA2 := Lib.hid ((Only.refl none_ w2).alloc (.cells #[.int .i64 (j : Nat)] 3))
        have RF := Lib.hid (Row.fresh w2 3 #[.int .i64 (j : Nat)])
        have b3 : 0 ≤ (w2.alloc (.cells #[.int .i64 (j : Nat)] 3)).heap.size := Nat.zero_le _
        have lu := LU.out
        have nr : ¬ (some r = (Value.slice av nv kv).ownBlock) := fun e => a3 (OU.out.2 _ e.symm)
        have PSH := Lib.hid (fun (v5 : Value) (w5 : World) (hown5 : OwnsInts w5 0 v5 (ints (c.hitW j).us ++ [(j : Int)])) (hO5 : Only (fun i => some i = (Value.slice av nv kv).ownBlock) (w2.alloc (.cells #[.int .i64 (j : Nat)] 3)) w5) (hat5 : v5.ownBlock = (Value.slice av nv kv).ownBlock ∨ v5.ownBlock = some (w2.alloc (.cells #[.int .i64 (j : Nat)] 3)).heap.size) =>
          rraw_push (j := j) RW.out OU.out SH.out a1 a2 a3 a4 a5 a63 OA2.out hO5 (by rw [show ints ((c.hitW j).us ++ [j]) = ints (c.hitW j).us ++ [(j : Int)] from by simp [ints]]; exact hown5) hat5)
        have RW5 := Lib.hid (fun (w5 : World) (hO5 : Only (fun i => some i = (Value.slice av nv kv).ownBlock) (w2.alloc (.cells #[.int .i64 (j : Nat)] 3)) w5) => hO5.row (OA2.out.still RW.out) nr)
        clear rw3 ou3 s3
        go_wp2_with (at_builtin; go_loud (refine wpList_append_at rfl (.tmp 52) (.tmp 54) 35 rfl i0 _ Try.underlying35 I0.out I1.out I2.out I3.out rfl rfl (OU.out.1.still OA2.out) (y := (j : Int)) rfl RF.out lu b3 ?_; intro v5 w5 hown5 hO5 hat5; obtain ⟨a9, n9, k9, rfl⟩ := own_form hown5; have PU := Lib.hid (PSH.out _ _ hown5 hO5 hat5); have row5 := RW5.out _ hO5; have c45 : w5.cell? ⟨r, 4, none⟩ = some (.slice av nv kv) := (row5.cell 4).trans rfl; have z5 := row5.frozen; have lt5 := row5.lt; clear hown5 hO5 hat5 row5 PSH RW5))
        go_ret
        exact ⟨rfl, ⟨PU.out.1, FE.out⟩, (O2.out.same PU.out.2)⟩
      · have ew : c.hitW j = c := by unfold Sc.hitW; rw [if_neg hc]
        rw [ew] at FE ⊢
        have LU := Lib.hid (show (ints c.us).length < 1000001 from by rw [ints_len]; omega)
        clear s1 u1
        have l01 : c.s.lst j = 0 ∨ (c.s.lst j = 1 ∧ c.s.low j = false) := by
          rcases lc with ⟨e, _⟩ | ⟨e, _⟩
          · exact .inl e
          · exact .inr ⟨e, by cases q : c.s.low j with | false => rfl | true => exact absurd ⟨e, q⟩ hc⟩
        clear hc ql lc ew
        rcases l01 with e | ⟨e, e'⟩
        · rw [e] at WR
          replace WR := Lib.hid WR
          generalize c.s.low j = lw at *
          clear e
          go_enter Try.func31, Try.ntmps31
          go_wp2_with fail
          (with_reducible refine (HM.out).mono ?_)
          rintro e w' ⟨rfl, rfl⟩
          go_wp2_with fail
          (with_reducible refine (WR.out).mono ?_)
          rintro e wa ⟨rfl, o1⟩
          have RA := Lib.hid (H.out.raw.still o1)
          have OA := Lib.hid (o1.up (S := rset r q hb ro))
          clear o1 WR c0
          obtain ⟨⟨vu, rw_, ou, s⟩, a1, a2, a3, a4, a5, a6⟩ := RA.out
          have RW := Lib.hid rw_
          have OU := Lib.hid ou
          have c0 : wa.cell? ⟨r, 0, none⟩ = some (.pointer (some ⟨q, 0, none⟩)) := (rw_.cell 0).trans rfl
          have F1 := front_ref q hb _ _ kn j wa s
          rw [FR.out.1, FR.out.2] at F1
          replace F1 := Lib.hid F1
          clear rw_ ou s
          go_wp2_with fail
          (with_reducible refine (F1.out).mono ?_)
          rintro e w2 ⟨rfl, s2, o2⟩
          have O2' := Lib.hid (o2.more (S' := fun k => k = q ∨ k = hb) (fun _ _ e => .inl e))
          have O2 := Lib.hid (OA.out.same O2'.out.qh)
          have R3 := rraw_turn RW.out OU.out s2 O2'.out a1 a2 a3 a4 a5 a6
          clear s2 o2 F1 c0 RW OU
          obtain ⟨⟨vx, rw3, ou3, s3⟩, _, _, _, _, _, a63⟩ := R3
          have RW := Lib.hid rw3
          have OU := Lib.hid ou3
          have SH := Lib.hid s3
          have c4 : w2.cell? ⟨r, 4, none⟩ = some vx := (rw3.cell 4).trans rfl
          obtain ⟨av, nv, kv, rfl⟩ := own_form ou3.1
          have OA2 := Lib.hid ((Only.refl none_ w2).alloc (.cells #[.int .i64 (j : Nat)] 3))
          have RF := Lib.hid (Row.fresh w2 3 #[.int .i64 (j : Nat)])
          have b3 : 0 ≤ (w2.alloc (.cells #[.int .i64 (j : Nat)] 3)).heap.size := Nat.zero_le _
          have lu := LU.out
          have nr : ¬ (some r = (Value.slice av nv kv).ownBlock) := fun e => a3 (OU.out.2 _ e.symm)
          have PSH := Lib.hid (fun (v5 : Value) (w5 : World) (hown5 : OwnsInts w5 0 v5 (ints c.us ++ [(j : Int)])) (hO5 : Only (fun i => some i = (Value.slice av nv kv).ownBlock) (w2.alloc (.cells #[.int .i64 (j : Nat)] 3)) w5) (hat5 : v5.ownBlock = (Value.slice av nv kv).ownBlock ∨ v5.ownBlock = some (w2.alloc (.cells #[.int .i64 (j : Nat)] 3)).heap.size) =>
            rraw_push (j := j) RW.out OU.out SH.out a1 a2 a3 a4 a5 a63 OA2.out hO5 (by rw [show ints (c.us ++ [j]) = ints c.us ++ [(j : Int)] from by simp [ints]]; exact hown5) hat5)
          have RW5 := Lib.hid (fun (w5 : World) (hO5 : Only (fun i => some i = (Value.slice av nv kv).ownBlock) (w2.alloc (.cells #[.int .i64 (j : Nat)] 3)) w5) => hO5.row (OA2.out.still RW.out) nr)
          clear rw3 ou3 s3
          go_wp2_with (at_builtin; go_loud (refine wpList_append_at rfl (.tmp 52) (.tmp 54) 35 rfl i0 _ Try.underlying35 I0.out I1.out I2.out I3.out rfl rfl (OU.out.1.still OA2.out) (y := (j : Int)) rfl RF.out lu b3 ?_; intro v5 w5 hown5 hO5 hat5; obtain ⟨a9, n9, k9, rfl⟩ := own_form hown5; have PU := Lib.hid (PSH.out _ _ hown5 hO5 hat5); have row5 := RW5.out _ hO5; have c45 : w5.cell? ⟨r, 4, none⟩ = some (.slice av nv kv) := (row5.cell 4).trans rfl; have z5 := row5.frozen; have lt5 := row5.lt; clear hown5 hO5 hat5 row5 PSH RW5))
          go_ret
          exact ⟨rfl, ⟨PU.out.1, FE.out⟩, (O2.out.same PU.out.2)⟩
        · rw [e, e'] at WR
          replace WR := Lib.hid WR
          clear e e'
          go_enter Try.func31, Try.ntmps31
          go_wp2_with fail
          (with_reducible refine (HM.out).mono ?_)
          rintro e w' ⟨rfl, rfl⟩
          go_wp2_with fail
          (with_reducible refine (WR.out).mono ?_)
          rintro e wa ⟨rfl, o1⟩
          have RA := Lib.hid (H.out.raw.still o1)
          have OA := Lib.hid (o1.up (S := rset r q hb ro))
          clear o1 WR c0
          obtain ⟨⟨vu, rw_, ou, s⟩, a1, a2, a3, a4, a5, a6⟩ := RA.out
          have RW := Lib.hid rw_
          have OU := Lib.hid ou
          have c0 : wa.cell? ⟨r, 0, none⟩ = some (.pointer (some ⟨q, 0, none⟩)) := (rw_.cell 0).trans rfl
          have F1 := front_ref q hb _ _ kn j wa s
          rw [FR.out.1, FR.out.2] at F1
          replace F1 := Lib.hid F1
          clear rw_ ou s
          go_wp2_with fail
          (with_reducible refine (F1.out).mono ?_)
          rintro e w2 ⟨rfl, s2, o2⟩
          have O2' := Lib.hid (o2.more (S' := fun k => k = q ∨ k = hb) (fun _ _ e => .inl e))
          have O2 := Lib.hid (OA.out.same O2'.out.qh)
          have R3 := rraw_turn RW.out OU.out s2 O2'.out a1 a2 a3 a4 a5 a6
          clear s2 o2 F1 c0 RW OU
          obtain ⟨⟨vx, rw3, ou3, s3⟩, _, _, _, _, _, a63⟩ := R3
          have RW := Lib.hid rw3
          have OU := Lib.hid ou3
          have SH := Lib.hid s3
          have c4 : w2.cell? ⟨r, 4, none⟩ = some vx := (rw3.cell 4).trans rfl
          obtain ⟨av, nv, kv, rfl⟩ := own_form ou3.1
          have OA2 := Lib.hid ((Only.refl none_ w2).alloc (.cells #[.int .i64 (j : Nat)] 3))
          have RF := Lib.hid (Row.fresh w2 3 #[.int .i64 (j : Nat)])
          have b3 : 0 ≤ (w2.alloc (.cells #[.int .i64 (j : Nat)] 3)).heap.size := Nat.zero_le _
          have lu := LU.out
          have nr : ¬ (some r = (Value.slice av nv kv).ownBlock) := fun e => a3 (OU.out.2 _ e.symm)
          have PSH := Lib.hid (fun (v5 : Value) (w5 : World) (hown5 : OwnsInts w5 0 v5 (ints c.us ++ [(j : Int)])) (hO5 : Only (fun i => some i = (Value.slice av nv kv).ownBlock) (w2.alloc (.cells #[.int .i64 (j : Nat)] 3)) w5) (hat5 : v5.ownBlock = (Value.slice av nv kv).ownBlock ∨ v5.ownBlock = some (w2.alloc (.cells #[.int .i64 (j : Nat)] 3)).heap.size) =>
            rraw_push (j := j) RW.out OU.out SH.out a1 a2 a3 a4 a5 a63 OA2.out hO5 (by rw [show ints (c.us ++ [j]) = ints c.us ++ [(j : Int)] from by simp [ints]]; exact hown5) hat5)
          have RW5 := Lib.hid (fun (w5 : World) (hO5 : Only (fun i => some i = (Value.slice av nv kv).ownBlock) (w2.alloc (.cells #[.int .i64 (j : Nat)] 3)) w5) => hO5.row (OA2.out.still RW.out) nr)
          clear rw3 ou3 s3
          go_wp2_with (at_builtin; go_loud (refine wpList_append_at rfl (.tmp 52) (.tmp 54) 35 rfl i0 _ Try.underlying35 I0.out I1.out I2.out I3.out rfl rfl (OU.out.1.still OA2.out) (y := (j : Int)) rfl RF.out lu b3 ?_; intro v5 w5 hown5 hO5 hat5; obtain ⟨a9, n9, k9, rfl⟩ := own_form hown5; have PU := Lib.hid (PSH.out _ _ hown5 hO5 hat5); have row5 := RW5.out _ hO5; have c45 : w5.cell? ⟨r, 4, none⟩ = some (.slice av nv kv) := (row5.cell 4).trans rfl; have z5 := row5.frozen; have lt5 := row5.lt; clear hown5 hO5 hat5 row5 PSH RW5))
          go_ret
          exact ⟨rfl, ⟨PU.out.1, FE.out⟩, (O2.out.same PU.out.2)⟩
end Go.Proofs.Ytpmhpamajkhhiaa

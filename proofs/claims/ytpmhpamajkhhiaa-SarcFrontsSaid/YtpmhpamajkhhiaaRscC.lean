/- The document's own policy: Enter, Ready, Hit, Miss_, Gone. -/
import Derived.Test.YtpmhpamajkhhiaaRsc
import Derived.Maps.AppendAt
namespace Go.Proofs.Ytpmhpamajkhhiaa
open Go.RowKit
set_option linter.unusedVariables false

/-- append of one number to a slice of the call's own: which block turns, and where the slice lies then -/
theorem wpList_append_at {P : Program} {w : World} {ops : Array Oper} {rest : List Oper} {o : Oper} {a : Act} {Q : Exit → Act → World → Prop} (hgd : o.guard = none) (s x : Operand) (t : TypeId)
    (ho : o.op = .call { callee := .builtin .append, args := #[s, x], argTypes := #[t, t] }) {base : Nat} (i : TypeInfo) (z : Value) (ht : P.underlying t = some (.slice 3)) (hi : P.info? 3 = some i) (hz : i.zero = some z)
    (hsize : i.size = 1) (hby : i.bytes = 8) (hzs : z.cells.size = 1) {v : Value} {xs : List Int} (hs : a.eval s = v) (hown : OwnsInts w base v xs) {g cc : Nat} {y : Int} (hx : a.eval x = .slice (some ⟨g, 0, none⟩) 1 cc) (hrow : Row w g 3 #[.int .i64 y])
    (hlen : xs.length < 1000001) (hbase : base ≤ w.heap.size)
    (h : ∀ v' w', OwnsInts w' base v' (xs ++ [y]) → Only (fun j => some j = v.ownBlock) w w' → (v'.ownBlock = v.ownBlock ∨ v'.ownBlock = some w.heap.size) → wpList P ops Q rest (a.put o.dst v') w') : wpList P ops Q (o :: rest) a w := by
  refine wpList_append_own_at w hgd s x t ho base 3 i z 1 8 ht hi hz hsize hby hzs (by decide) v xs.length (xs.flatMap one) hs hown ⟨g, 0, none⟩ 1 cc (one y) hx rfl ?_ (one_one y) (by unfold maxLen; omega) (by omega) hbase ?_
  · intro j u hj
    have : (Addr.mk g 0 none).add j = ⟨g, j, none⟩ := by
      unfold Addr.add
      split
      · rename_i q; rw [q]
      · simp
    rw [this, hrow.cell]
    show (one y).toArray[j]? = _
    rw [List.getElem?_toArray]
    exact hj
  · intro v' w' h2 h3 _ h5
    refine h v' w' ?_ (Only.of_grown h3) h5
    show World.ownsRow _ _ _ _ _ _ _
    rw [List.flatMap_append, List.length_append]
    simpa using h2

theorem rraw_turn {w w' : World} {r q hb : Nat} {ro : Nat → Prop} {c : Sc} {vu : Value} {s' : Sh} (rw_ : Row w r 67 #[.pointer (some ⟨q, 0, none⟩), .int .i64 c.want, .int .u64 c.miss, .int .u64 c.hits, vu]) (o : OwnsOk w ro vu (ints c.us))
    (hs : RSh w' q hb (okB ro vu) s') (k : Only (fun k => k = q ∨ k = hb) w w') (a1 : r ≠ q) (a2 : r ≠ hb) (a3 : ¬ ro r) (a4 : ¬ ro q) (a5 : ¬ ro hb) (a6 : ∀ g, w.heap.size ≤ g → ro g) : RRaw w' r q hb ro ⟨s', c.us, c.want, c.miss, c.hits⟩ :=
  ⟨⟨vu, k.row rw_ (fun e => e.elim a1 a2), o.keep k (fun g hg e => e.elim (fun e => a4 (e ▸ hg)) (fun e => a5 (e ▸ hg))), hs⟩, a1, a2, a3, a4, a5, fun g hg => a6 g (Nat.le_trans k.size hg)⟩

theorem rraw_push {w w1 w2 : World} {r q hb : Nat} {ro : Nat → Prop} {c : Sc} {vu v' : Value} {j : Nat} (rw_ : Row w r 67 #[.pointer (some ⟨q, 0, none⟩), .int .i64 c.want, .int .u64 c.miss, .int .u64 c.hits, vu]) (o : OwnsOk w ro vu (ints c.us))
    (hs : RSh w q hb (okB ro vu) c.s) (a1 : r ≠ q) (a2 : r ≠ hb) (a3 : ¬ ro r) (a4 : ¬ ro q) (a5 : ¬ ro hb) (a6 : ∀ g, w.heap.size ≤ g → ro g)
    (o1 : Only none_ w w1) (o2 : Only (fun j => some j = vu.ownBlock) w1 w2) (own' : OwnsInts w2 0 v' (ints (c.us ++ [j]))) (hat : v'.ownBlock = vu.ownBlock ∨ v'.ownBlock = some w1.heap.size) :
    RRaw (w2.setCell ⟨r, 4, none⟩ v') r q hb ro ⟨c.s, c.us ++ [j], c.want, c.miss, c.hits⟩ ∧ Only (rset r q hb ro) w (w2.setCell ⟨r, 4, none⟩ v') := by
  have nb : ∀ g, ¬ ro g → ¬ (some g = vu.ownBlock) := fun g hg e => hg (o.2 g e.symm)
  have k : Only (fun k => k = r) w2 (w2.setCell ⟨r, 4, none⟩ v') := (Only.refl (fun k => k = r) w2).into rfl _ _
  have row2 := (o2.row (o1.still rw_) (nb r a3)).put 4 v'
  have own2 : OwnsOk w2 ro v' (ints (c.us ++ [j])) := ⟨own', fun g hg => by
    rcases hat with e2 | e2
    · exact o.2 g (e2 ▸ hg)
    · rw [e2] at hg
      injection hg with hg
      exact a6 g (by have := o1.size; omega)⟩
  obtain ⟨f, ⟨v0, v1, x, p0, p1⟩, hr, ne, l1, l2, l3⟩ := hs.still o1
  have fine : ∀ {v : Value} {xs : List Int}, OwnsOk w1 (okB ro vu) v xs → OwnsOk w2 (okB ro v') v xs := fun {v xs} p => by
    refine ⟨p.1.keep o2 (fun g hg e => (p.2 g hg).2 e.symm), fun g hg => ⟨(p.2 g hg).1, fun e => ?_⟩⟩
    have lt := p.lt hg
    rcases hat with e2 | e2
    · exact (p.2 g hg).2 (e2 ▸ e)
    · rw [e2] at e
      injection e with e
      omega
  have sh2 : RSh w2 q hb (okB ro v') c.s := ⟨f, ⟨v0, v1, o2.row x (nb q a4), fine p0, fine p1⟩, o2.row hr (nb hb a5), ne, fun e => a4 e.1, fun e => a5 e.1, fun g hg => ⟨a6 g (Nat.le_trans (Nat.le_trans o1.size o2.size) hg), fun e => by have := own2.lt e; omega⟩⟩
  refine ⟨⟨⟨v', row2, own2.keep k (fun g hg e => a3 (e ▸ hg)), sh2.keep k (fun e => a1 e.symm) (fun e => a2 e.symm) (fun g hg e => a3 (e ▸ hg.1))⟩, a1, a2, a3, a4, a5, fun g hg => a6 g (Nat.le_trans (Nat.le_trans o1.size (Nat.le_trans o2.size k.size)) hg)⟩, ?_⟩
  refine ((o1.up (S := rset r q hb ro)).same (o2.more (S' := rset r q hb ro) (fun i hi e => .inr (.inr (.inr (o.2 i e.symm)))))).same (k.more (fun i hi e => .inl e))

theorem hasL_nat {k : Nat} (h : k < 2) : hasL k = true := by unfold hasL; simp; omega
set_option maxRecDepth 100000 in
set_option maxHeartbeats 400000 in
theorem enter_ref (r q hb : Nat) (ro : Nat → Prop) (c : Sc) (i k : Int) (w : World) (h : RSc w r q hb ro c) (hu : c.us.length < 1000000) :
    Calls Try.prog 29 #[.pointer (some ⟨r, 0, none⟩), .int .i64 i, .int .i64 k] w fun e w' => e = .returned (.int .i64 (c.enterC i k)) ∧ RSc w' r q hb ro (c.enterS i k) ∧ Only (rset r q hb ro) w w' := by
  have H := Lib.hid h
  have HM := smay_ref r q hb ro c i k w h.raw
  cases em : (hasN c.s.n i && hasL k) with
  | false =>
    have e1 : c.enterC i k = 1 := by unfold Sc.enterC; rw [em]; rfl
    have e2 : c.enterS i k = c := by unfold Sc.enterS; rw [if_neg (by rw [e1]; decide)]
    rw [e1, e2]
    rw [em] at HM
    have HM := Lib.hid HM
    clear h em e1 e2
    go_enter Try.func29, Try.ntmps29
    go_wp2_with fail
    (with_reducible refine (HM.out).mono ?_)
    rintro e w' ⟨rfl, rfl⟩
    go_wp2
    go_ret
    exact ⟨rfl, H.out, Only.refl _ _⟩
  | true =>
    rw [em] at HM
    rw [Bool.and_eq_true] at em
    obtain ⟨j, rfl, hj⟩ := hasN_nat em.1
    obtain ⟨kn, rfl, hk⟩ : ∃ kn : Nat, k = kn ∧ kn < 2 := by
      rcases hasL_cases em.2 with rfl | rfl
      · exact ⟨0, rfl, by decide⟩
      · exact ⟨1, rfl, by decide⟩
    have HI := sin_ref r q hb ro c j w h.raw hj
    by_cases ql : c.s.lst j = -1
    · have e1 : c.enterC j kn = 0 := by unfold Sc.enterC; rw [em.1, em.2, Int.toNat_natCast, if_pos ql]; rfl
      have e2 : c.enterS j kn = ⟨(c.s.front kn j).hold j true, c.us ++ [j], c.want, c.miss, c.hits⟩ := by
        unfold Sc.enterS
        rw [if_pos e1, Int.toNat_natCast, Int.toNat_natCast]
      rw [show c.s.liesB j = false from by unfold Sh.liesB; simp [ql]] at HI
      have FE := h.fine.enterS j kn
      rw [e2] at FE
      rw [e1, e2]
      have FE := Lib.hid FE
      have HM := Lib.hid HM
      have HI := Lib.hid HI
      have FR := Lib.hid (show c.s.frontC kn j = 0 ∧ c.s.frontS kn j = c.s.front kn j from by
        unfold Sh.frontC Sh.frontS
        rw [em.1, em.2]
        exact ⟨rfl, rfl⟩)
      have HO := Lib.hid (show (c.s.front kn j).liesC j = 0 ∧ (c.s.front kn j).holdS j true = (c.s.front kn j).hold j true from by
        have h1 : (c.s.front kn j).liesC j = 0 := by
          unfold Sh.liesC
          have h2 : hasN (c.s.front kn j).n j = true := by rw [(front_nb _ _ _).1]; exact em.1
          rw [h2, if_pos rfl, Int.toNat_natCast, if_neg]
          exact (front_mem h.fine.s kn j j).2 (.inl rfl)
        refine ⟨h1, ?_⟩
        unfold Sh.holdS
        rw [if_pos h1, Int.toNat_natCast])
      obtain ⟨i0, hi0, hz0, hz1, hz2⟩ := info_parts info_int8
      have I0 := Lib.hid hi0
      have I1 := Lib.hid hz0
      have I2 := Lib.hid hz1
      have I3 := Lib.hid hz2
      clear hi0 hz0 hz1 hz2
      obtain ⟨⟨vu, rw_, ou, s⟩, a1, a2, a3, a4, a5, a6⟩ := h.raw
      have RW := Lib.hid rw_
      have OU := Lib.hid ou
      have SH := Lib.hid s
      clear rw_ ou s h em e1 e2 ql
      go_enter Try.func29, Try.ntmps29
      go_wp2_with fail
      (with_reducible refine (HM.out).mono ?_)
      rintro e w' ⟨rfl, rfl⟩
      go_wp2_with fail
      (with_reducible refine (HI.out).mono ?_)
      rintro e w1 ⟨rfl, o1⟩
      have O1 := Lib.hid o1
      have c0 : w1.cell? ⟨r, 0, none⟩ = some (.pointer (some ⟨q, 0, none⟩)) := ((o1.still RW.out).cell 0).trans rfl
      have F1 := front_ref q hb _ c.s kn j w1 (SH.out.still o1)
      rw [FR.out.1, FR.out.2] at F1
      have F1 := Lib.hid F1
      clear o1
      go_wp2_with fail
      (with_reducible refine (F1.out).mono ?_)
      rintro e w2 ⟨rfl, s2, o2⟩
      have O2 := Lib.hid (O1.out.then_ (o2.more (S' := fun k => k = q ∨ k = hb) (fun _ _ e => .inl e)))
      have H2 := hold_ref q hb _ _ j true w2 s2
      rw [HO.out.1, HO.out.2] at H2
      have H2 := Lib.hid H2
      replace c0 := o2.cell c0 a1
      clear s2 o2 F1
      go_wp2_with fail
      (with_reducible refine (H2.out).mono ?_)
      rintro e w3 ⟨rfl, s3, o3⟩
      have O3 := Lib.hid (O2.out.same o3)
      have R3 := rraw_turn RW.out OU.out s3 O3.out a1 a2 a3 a4 a5 a6
      clear s3 o3 H2 c0 RW OU SH
      obtain ⟨⟨vx, rw3, ou3, s3⟩, _, _, _, _, _, a63⟩ := R3
      have RW := Lib.hid rw3
      have OU := Lib.hid ou3
      have SH := Lib.hid s3
      have c4 : w3.cell? ⟨r, 4, none⟩ = some vx := (rw3.cell 4).trans rfl
      obtain ⟨av, nv, kv, rfl⟩ := own_form ou3.1
      have OA := Lib.hid ((Only.refl none_ w3).alloc (.cells #[.int .i64 (j : Nat)] 3))
      have RF := Lib.hid (Row.fresh w3 3 #[.int .i64 (j : Nat)])
      have b3 : 0 ≤ (w3.alloc (.cells #[.int .i64 (j : Nat)] 3)).heap.size := Nat.zero_le _
      have lu : (ints c.us).length < 1000001 := by rw [ints_len]; omega
      clear rw3 ou3 s3
      have nr : ¬ (some r = (Value.slice av nv kv).ownBlock) := fun e => a3 (OU.out.2 _ e.symm)
      have PSH := Lib.hid (fun (v5 : Value) (w5 : World) (hown5 : OwnsInts w5 0 v5 (ints c.us ++ [(j : Int)])) (hO5 : Only (fun i => some i = (Value.slice av nv kv).ownBlock) (w3.alloc (.cells #[.int .i64 (j : Nat)] 3)) w5) (hat5 : v5.ownBlock = (Value.slice av nv kv).ownBlock ∨ v5.ownBlock = some (w3.alloc (.cells #[.int .i64 (j : Nat)] 3)).heap.size) =>
        rraw_push (j := j) RW.out OU.out SH.out a1 a2 a3 a4 a5 a63 OA.out hO5 (by rw [show ints (c.us ++ [j]) = ints c.us ++ [(j : Int)] from by simp [ints]]; exact hown5) hat5)
      have RW5 := Lib.hid (fun (w5 : World) (hO5 : Only (fun i => some i = (Value.slice av nv kv).ownBlock) (w3.alloc (.cells #[.int .i64 (j : Nat)] 3)) w5) => hO5.row (OA.out.still RW.out) nr)
      go_wp2_with (at_builtin; go_loud (refine wpList_append_at rfl (.tmp 32) (.tmp 34) 35 rfl i0 _ Try.underlying35 I0.out I1.out I2.out I3.out rfl rfl (OU.out.1.still OA.out) (y := (j : Int)) rfl RF.out lu b3 ?_; intro v5 w5 hown5 hO5 hat5; obtain ⟨a9, n9, k9, rfl⟩ := own_form hown5; have PU := Lib.hid (PSH.out _ _ hown5 hO5 hat5); have row5 := RW5.out _ hO5; have c45 : w5.cell? ⟨r, 4, none⟩ = some (.slice av nv kv) := (row5.cell 4).trans rfl; have z5 := row5.frozen; have lt5 := row5.lt; clear hown5 hO5 hat5 row5 PSH RW5))
      go_ret
      exact ⟨rfl, ⟨PU.out.1, FE.out⟩, (O3.out.qh.same PU.out.2)⟩
    · have e1 : c.enterC j kn = 4 := by unfold Sc.enterC; rw [em.1, em.2, Int.toNat_natCast, if_neg ql]; rfl
      have e2 : c.enterS j kn = c := by unfold Sc.enterS; rw [if_neg (by rw [e1]; decide)]
      rw [show c.s.liesB j = true from by unfold Sh.liesB; simp [ql]] at HI
      rw [e1, e2]
      have HM := Lib.hid HM
      have HI := Lib.hid HI
      clear h em e1 e2 ql
      go_enter Try.func29, Try.ntmps29
      go_wp2_with fail
      (with_reducible refine (HM.out).mono ?_)
      rintro e w' ⟨rfl, rfl⟩
      go_wp2_with fail
      (with_reducible refine (HI.out).mono ?_)
      rintro e w1 ⟨rfl, o1⟩
      have O1 := Lib.hid o1
      clear o1
      go_wp2
      go_ret
      exact ⟨rfl, H.out.still O1.out, O1.out.up⟩
end Go.Proofs.Ytpmhpamajkhhiaa

/- The walk through TallyNothing's own text. -/
import Derived.WalkKit
import Derived.ProofKit
import Derived.OpenShut
import Derived.Below
import Derived.Test.YtofmbipedljdkaaArgs
import Derived.Test.YtofmbipedljdkaaOp18
import Derived.Deep.Cut
import Derived.Deep.DeepCutAuto
namespace Go.Proofs.Ytofmbipedljdkaa.tallyNothing
open Go.ChangeShapes Go.WideShapes Go.ChangeAt Go.RowKit
set_option linter.unusedVariables false


set_option maxHeartbeats 2000000 in
set_option maxRecDepth 100000 in
theorem walk (w : World) (t : Ta) (ht : t.Wf) (which : Int) (_ : (Lit.int .i64 which).wf = true) :
    Calls Try.prog 6 #[t.val, .int .i64 which] w fun e w' => e = .returned (.bool true) ∧ Below w.heap.size w w' := by
  have eu := eq_ta t
  have AD : ∀ w, Calls Try.prog 9 #[t.val, .int .i64 which, .int .u64 0] w fun e w' => e = .returned (.tuple #[(t.more which 0).val, .int .i64 (codeA which)]) ∧ Only none_ w w' := fun w => addk_any t ht which 0 (by omega) w
  rw [Ta.more_nil ht] at AD
  have AD := Lib.hid AD
  have SU := fun w => sum_any t ⟨fun _ => 0⟩ ht (fun _ => by show (0 : Nat) < _; omega) w
  rw [Ta.sum_nil ht] at SU
  have SU : Hid (∀ w, Calls Try.prog 17 #[t.val, .agg #[.int .u64 0, .int .u64 0, .int .u64 0, .int .u64 0, .int .u64 0, .int .u64 0, .int .u64 0, .int .u64 0, .int .u64 0, .int .u64 0]] w fun e w' => e = .returned t.val ∧ Only none_ w w') := Lib.hid SU
  have CO := Lib.hid (fun w => counts_any t w)
  have HT := Lib.hid ht
  clear ht
  obtain ⟨ck, hc⟩ : ∃ ck, ck = codeA which := ⟨_, rfl⟩
  have AD := AD.out
  rw [← hc] at AD
  have AD := Lib.hid AD
  unfold codeA at hc
  by_cases g1 : 0 ≤ which
  · by_cases g2 : which < 10
    · rw [if_pos ⟨g1, g2⟩] at hc
      subst hc
      obtain ⟨W0, hW0⟩ : ∃ W0, W0 = (w.alloc (.cells #[.int .u64 (t.n 0), .int .u64 (t.n 1), .int .u64 (t.n 2), .int .u64 (t.n 3), .int .u64 (t.n 4), .int .u64 (t.n 5), .int .u64 (t.n 6), .int .u64 (t.n 7), .int .u64 (t.n 8), .int .u64 (t.n 9)] 24)) := ⟨_, rfl⟩
      have OA := Lib.hid (show Only none_ w W0 by rw [hW0]; exact ((Only.refl none_ w).alloc _))
      have R0 := Lib.hid (show Row W0 (w.heap.size) 24 #[.int .u64 (t.n 0), .int .u64 (t.n 1), .int .u64 (t.n 2), .int .u64 (t.n 3), .int .u64 (t.n 4), .int .u64 (t.n 5), .int .u64 (t.n 6), .int .u64 (t.n 7), .int .u64 (t.n 8), .int .u64 (t.n 9)] by rw [hW0]; have h := (Row.fresh w 24 #[.int .u64 (t.n 0), .int .u64 (t.n 1), .int .u64 (t.n 2), .int .u64 (t.n 3), .int .u64 (t.n 4), .int .u64 (t.n 5), .int .u64 (t.n 6), .int .u64 (t.n 7), .int .u64 (t.n 8), .int .u64 (t.n 9)]); exact h)
      go_enter Try.func6, Try.ntmps6
      go_upto_region 1 with fail
      rw [← hW0]
      clear hW0
      go_wp2_with fail
      (with_reducible refine (awake_any _).mono ?_)
      rintro e w1 ⟨rfl, o⟩
      have OB := Lib.hid (OA.out.same o)
      have S0 := Lib.hid (o.still R0.out)
      clear OA o R0
      have LB := Lib.hid (OB.out.size)
      have LC := Lib.hid (S0.out.lt)
      generalize hb0 : w.heap.size = b0 at *
      go_upto_region 3 with fail
      obtain ⟨c0, c1, c2, c3, c4, c5, c6, c7, c8, c9⟩ := S0.out.ten
      go_wp2_with fail
      (with_reducible refine (AD.out _).mono ?_)
      rintro e w2 ⟨rfl, o⟩
      have OC := Lib.hid ((OB.out.same o).alloc (.cells #[.int .u64 (t.n 0), .int .u64 (t.n 1), .int .u64 (t.n 2), .int .u64 (t.n 3), .int .u64 (t.n 4), .int .u64 (t.n 5), .int .u64 (t.n 6), .int .u64 (t.n 7), .int .u64 (t.n 8), .int .u64 (t.n 9)] 24))
      have S0' := Lib.hid ((o.still S0.out).alloc (.cells #[.int .u64 (t.n 0), .int .u64 (t.n 1), .int .u64 (t.n 2), .int .u64 (t.n 3), .int .u64 (t.n 4), .int .u64 (t.n 5), .int .u64 (t.n 6), .int .u64 (t.n 7), .int .u64 (t.n 8), .int .u64 (t.n 9)] 24))
      have SA := Lib.hid (Row.fresh w2 24 #[.int .u64 (t.n 0), .int .u64 (t.n 1), .int .u64 (t.n 2), .int .u64 (t.n 3), .int .u64 (t.n 4), .int .u64 (t.n 5), .int .u64 (t.n 6), .int .u64 (t.n 7), .int .u64 (t.n 8), .int .u64 (t.n 9)])
      clear o OB S0 c0 c1 c2 c3 c4 c5 c6 c7 c8 c9 AD
      go_upto_region 4 with fail
      generalize w2.alloc (.cells #[.int .u64 (t.n 0), .int .u64 (t.n 1), .int .u64 (t.n 2), .int .u64 (t.n 3), .int .u64 (t.n 4), .int .u64 (t.n 5), .int .u64 (t.n 6), .int .u64 (t.n 7), .int .u64 (t.n 8), .int .u64 (t.n 9)] 24) = W2 at *
      generalize w2.heap.size = b2 at *
      have rr := S0'.out
      have p0 : ∀ i : After W2, i.val.cell? ⟨b0, 0, none⟩ = some (.int .u64 (t.n 0)) := fun i => by rw [(i.only.still rr).cell]; rfl
      have p1 : ∀ i : After W2, i.val.cell? ⟨b0, 1, none⟩ = some (.int .u64 (t.n 1)) := fun i => by rw [(i.only.still rr).cell]; rfl
      have p2 : ∀ i : After W2, i.val.cell? ⟨b0, 2, none⟩ = some (.int .u64 (t.n 2)) := fun i => by rw [(i.only.still rr).cell]; rfl
      have p3 : ∀ i : After W2, i.val.cell? ⟨b0, 3, none⟩ = some (.int .u64 (t.n 3)) := fun i => by rw [(i.only.still rr).cell]; rfl
      have p4 : ∀ i : After W2, i.val.cell? ⟨b0, 4, none⟩ = some (.int .u64 (t.n 4)) := fun i => by rw [(i.only.still rr).cell]; rfl
      have p5 : ∀ i : After W2, i.val.cell? ⟨b0, 5, none⟩ = some (.int .u64 (t.n 5)) := fun i => by rw [(i.only.still rr).cell]; rfl
      have p6 : ∀ i : After W2, i.val.cell? ⟨b0, 6, none⟩ = some (.int .u64 (t.n 6)) := fun i => by rw [(i.only.still rr).cell]; rfl
      have p7 : ∀ i : After W2, i.val.cell? ⟨b0, 7, none⟩ = some (.int .u64 (t.n 7)) := fun i => by rw [(i.only.still rr).cell]; rfl
      have p8 : ∀ i : After W2, i.val.cell? ⟨b0, 8, none⟩ = some (.int .u64 (t.n 8)) := fun i => by rw [(i.only.still rr).cell]; rfl
      have p9 : ∀ i : After W2, i.val.cell? ⟨b0, 9, none⟩ = some (.int .u64 (t.n 9)) := fun i => by rw [(i.only.still rr).cell]; rfl
      clear rr
      have rr := SA.out
      have k0 : ∀ i : After W2, i.val.cell? ⟨b2, 0, none⟩ = some (.int .u64 (t.n 0)) := fun i => by rw [(i.only.still rr).cell]; rfl
      have k1 : ∀ i : After W2, i.val.cell? ⟨b2, 1, none⟩ = some (.int .u64 (t.n 1)) := fun i => by rw [(i.only.still rr).cell]; rfl
      have k2 : ∀ i : After W2, i.val.cell? ⟨b2, 2, none⟩ = some (.int .u64 (t.n 2)) := fun i => by rw [(i.only.still rr).cell]; rfl
      have k3 : ∀ i : After W2, i.val.cell? ⟨b2, 3, none⟩ = some (.int .u64 (t.n 3)) := fun i => by rw [(i.only.still rr).cell]; rfl
      have k4 : ∀ i : After W2, i.val.cell? ⟨b2, 4, none⟩ = some (.int .u64 (t.n 4)) := fun i => by rw [(i.only.still rr).cell]; rfl
      have k5 : ∀ i : After W2, i.val.cell? ⟨b2, 5, none⟩ = some (.int .u64 (t.n 5)) := fun i => by rw [(i.only.still rr).cell]; rfl
      have k6 : ∀ i : After W2, i.val.cell? ⟨b2, 6, none⟩ = some (.int .u64 (t.n 6)) := fun i => by rw [(i.only.still rr).cell]; rfl
      have k7 : ∀ i : After W2, i.val.cell? ⟨b2, 7, none⟩ = some (.int .u64 (t.n 7)) := fun i => by rw [(i.only.still rr).cell]; rfl
      have k8 : ∀ i : After W2, i.val.cell? ⟨b2, 8, none⟩ = some (.int .u64 (t.n 8)) := fun i => by rw [(i.only.still rr).cell]; rfl
      have k9 : ∀ i : After W2, i.val.cell? ⟨b2, 9, none⟩ = some (.int .u64 (t.n 9)) := fun i => by rw [(i.only.still rr).cell]; rfl
      clear rr
      refine wp_region_after (w0 := W2) (by kernel_rfl) (lex_from lexNothing (by kernel_rfl)) (Only.refl _ _) ?_
      repeat (go_big_quiet_step (first | (with_reducible exact Calls.after _ (SU.out _))))
      refine wpQuiet_nil ?_
      intro w3 hw'
      obtain ⟨i1, e1⟩ := hw'
      have oz := i1.only
      rw [← e1] at oz
      clear e1 i1
      have OD := Lib.hid (OC.out.same oz)
      have S0 := Lib.hid (oz.still S0'.out)
      clear p0 p1 p2 p3 p4 p5 p6 p7 p8 p9 k0 k1 k2 k3 k4 k5 k6 k7 k8 k9 oz OC S0' SA SU
      obtain ⟨c0, c1, c2, c3, c4, c5, c6, c7, c8, c9⟩ := S0.out.ten
      go_wp2_with fail
      (with_reducible refine (CO.out _).mono ?_)
      rintro e w4 ⟨rfl, o⟩
      have L0 := Lib.hid (Nat.le_trans OD.out.size o.size)
      have OE := Lib.hid ((OD.out.same o).alloc (.cells #[.int .u64 (t.n 0), .int .u64 (t.n 1), .int .u64 (t.n 2), .int .u64 (t.n 3), .int .u64 (t.n 4), .int .u64 (t.n 5), .int .u64 (t.n 6), .int .u64 (t.n 7), .int .u64 (t.n 8), .int .u64 (t.n 9)] 31))
      have S0' := Lib.hid ((o.still S0.out).alloc (.cells #[.int .u64 (t.n 0), .int .u64 (t.n 1), .int .u64 (t.n 2), .int .u64 (t.n 3), .int .u64 (t.n 4), .int .u64 (t.n 5), .int .u64 (t.n 6), .int .u64 (t.n 7), .int .u64 (t.n 8), .int .u64 (t.n 9)] 31))
      have SC := Lib.hid (Row.fresh w4 31 #[.int .u64 (t.n 0), .int .u64 (t.n 1), .int .u64 (t.n 2), .int .u64 (t.n 3), .int .u64 (t.n 4), .int .u64 (t.n 5), .int .u64 (t.n 6), .int .u64 (t.n 7), .int .u64 (t.n 8), .int .u64 (t.n 9)])
      clear o OD S0 c0 c1 c2 c3 c4 c5 c6 c7 c8 c9 CO
      go_upto_region 7 with fail
      generalize w4.alloc (.cells #[.int .u64 (t.n 0), .int .u64 (t.n 1), .int .u64 (t.n 2), .int .u64 (t.n 3), .int .u64 (t.n 4), .int .u64 (t.n 5), .int .u64 (t.n 6), .int .u64 (t.n 7), .int .u64 (t.n 8), .int .u64 (t.n 9)] 31) = W4 at *
      generalize w4.heap.size = b4 at *
      go_wp2_with fail
      have LS := Lib.hid S0'.out.lt
      go_loopw [9] (fun i wr => ∃ k : Nat, k ≤ 10 ∧ i = .int .i64 k ∧ Only none_ w wr ∧ Row wr b0 24 t.cs ∧ Row wr b4 31 t.cs ∧ Row wr W4.heap.size 24 (t.upto k).cs) (fun i _ => 10 - (intOf i).toNat)
      case atStart => exact ⟨0, by omega, rfl, OE.out.alloc _, S0'.out.alloc _, SC.out.alloc _, by rw [Ta.upto_nil]; exact Row.fresh _ _ _⟩
      case round =>
        obtain ⟨k, hk, rfl, o, ra, rc, rv⟩ := hrel
        have O := Lib.hid o
        have RA := Lib.hid ra
        have RC := Lib.hid rc
        have RV := Lib.hid rv
        clear o ra rc rv S0' SC
        by_cases hlt : k < 10
        · have AP := Lib.hid (show b4 ≠ W4.heap.size from fun e => by
            have h := RC.out.one (e ▸ RV.out)
            exact absurd h.1 (by decide))
          have AQ := Lib.hid (show b0 ≠ W4.heap.size from fun e => by have := LS.out; omega)
          have AD := fun w => addk_any (t.upto k) (Ta.upto_wf HT.out k) k (t.n k) (HT.out k) w
          rw [Ta.upto_next HT.out k hlt] at AD
          have AD := Lib.hid AD
          have lw := RV.out.lt
          generalize hq : t.upto k = q at *
          generalize hq' : t.upto (k + 1) = q' at *
          generalize codeA k = ck at *
          obtain ⟨c0, c1, c2, c3, c4, c5, c6, c7, c8, c9⟩ := RV.out.ten
          have cb := (RC.out.cell k).trans (Ta.cs_get t k hlt)
          have Od := Lib.hid ((Only.refl none_ wr).drew)
          have wn : w.heap.size ≤ W4.heap.size := OE.out.size
          go_wp2_with fail
          go_region_with (first
            | (go_at_call 9; (with_reducible refine (AD.out _).mono ?_); rintro e w5 ⟨rfl, o5⟩; have O5 := Lib.hid (Od.out.same o5); have R5 := Lib.hid (O5.out.still RV.out); obtain ⟨d0, d1, d2, d3, d4, d5, d6, d7, d8, d9⟩ := R5.out.ten; have zf := R5.out.frozen)
            | fail)
          all_goals
            have R6 := Lib.hid (R5.out.put_ten (.int .u64 (q'.n 0)) (.int .u64 (q'.n 1)) (.int .u64 (q'.n 2)) (.int .u64 (q'.n 3)) (.int .u64 (q'.n 4)) (.int .u64 (q'.n 5)) (.int .u64 (q'.n 6)) (.int .u64 (q'.n 7)) (.int .u64 (q'.n 8)) (.int .u64 (q'.n 9)))
            have O6 := only_ten w5 W4.heap.size (q'.n 0) (q'.n 1) (q'.n 2) (q'.n 3) (q'.n 4) (q'.n 5) (q'.n 6) (q'.n 7) (q'.n 8) (q'.n 9)
            have RA6 := Lib.hid (O6.row (O5.out.still RA.out) (fun e => AQ.out e))
            have RC6 := Lib.hid (O6.row (O5.out.still RC.out) (fun e => AP.out e))
            have O7 := Lib.hid ((O.out.same O5.out).trans (O6.more (S' := fun k => w.heap.size ≤ k) (fun _ _ e => by rw [e]; exact wn)) (fun i hi s => absurd hi (by omega)))
            clear O6 d0 d1 d2 d3 d4 d5 d6 d7 d8 d9 zf c0 c1 c2 c3 c4 c5 c6 c7 c8 c9 cb
            generalize ((((((((((w5.setCell ⟨W4.heap.size, 0, none⟩ (.int .u64 (q'.n 0))).setCell ⟨W4.heap.size, 1, none⟩ (.int .u64 (q'.n 1))).setCell ⟨W4.heap.size, 2, none⟩ (.int .u64 (q'.n 2))).setCell ⟨W4.heap.size, 3, none⟩ (.int .u64 (q'.n 3))).setCell ⟨W4.heap.size, 4, none⟩ (.int .u64 (q'.n 4))).setCell ⟨W4.heap.size, 5, none⟩ (.int .u64 (q'.n 5))).setCell ⟨W4.heap.size, 6, none⟩ (.int .u64 (q'.n 6))).setCell ⟨W4.heap.size, 7, none⟩ (.int .u64 (q'.n 7))).setCell ⟨W4.heap.size, 8, none⟩ (.int .u64 (q'.n 8))).setCell ⟨W4.heap.size, 9, none⟩ (.int .u64 (q'.n 9))) = w6 at *
            go_wp2_with fail
            go_roundw
            case rel => exact ⟨k + 1, by omega, by go_num, O7.out, RA6.out, RC6.out, by rw [hq']; exact R6.out⟩
            case measure => simp [intOf]; omega
        · have e : k = 10 := by omega
          subst e
          have R2 := RV.out
          rw [Ta.upto_all] at R2
          obtain ⟨c0, c1, c2, c3, c4, c5, c6, c7, c8, c9⟩ := RA.out.ten
          obtain ⟨d0, d1, d2, d3, d4, d5, d6, d7, d8, d9⟩ := R2.ten
          clear R2
          go_wp2_with fail
          go_ret
          exact ⟨rfl, O.out.to_below⟩
    · rw [if_neg (fun h => g2 h.2)] at hc
      subst hc
      have d2 : decide (which < 10) = false := decide_eq_false g2
      have g2 : 10 ≤ which := by omega
      obtain ⟨W0, hW0⟩ : ∃ W0, W0 = (w.alloc (.cells #[.int .u64 (t.n 0), .int .u64 (t.n 1), .int .u64 (t.n 2), .int .u64 (t.n 3), .int .u64 (t.n 4), .int .u64 (t.n 5), .int .u64 (t.n 6), .int .u64 (t.n 7), .int .u64 (t.n 8), .int .u64 (t.n 9)] 24)) := ⟨_, rfl⟩
      have OA := Lib.hid (show Only none_ w W0 by rw [hW0]; exact ((Only.refl none_ w).alloc _))
      have R0 := Lib.hid (show Row W0 (w.heap.size) 24 #[.int .u64 (t.n 0), .int .u64 (t.n 1), .int .u64 (t.n 2), .int .u64 (t.n 3), .int .u64 (t.n 4), .int .u64 (t.n 5), .int .u64 (t.n 6), .int .u64 (t.n 7), .int .u64 (t.n 8), .int .u64 (t.n 9)] by rw [hW0]; have h := (Row.fresh w 24 #[.int .u64 (t.n 0), .int .u64 (t.n 1), .int .u64 (t.n 2), .int .u64 (t.n 3), .int .u64 (t.n 4), .int .u64 (t.n 5), .int .u64 (t.n 6), .int .u64 (t.n 7), .int .u64 (t.n 8), .int .u64 (t.n 9)]); exact h)
      go_enter Try.func6, Try.ntmps6
      go_upto_region 1 with fail
      rw [← hW0]
      clear hW0
      go_wp2_with fail
      (with_reducible refine (awake_any _).mono ?_)
      rintro e w1 ⟨rfl, o⟩
      have OB := Lib.hid (OA.out.same o)
      have S0 := Lib.hid (o.still R0.out)
      clear OA o R0
      have LB := Lib.hid (OB.out.size)
      have LC := Lib.hid (S0.out.lt)
      generalize hb0 : w.heap.size = b0 at *
      go_upto_region 3 with fail
      obtain ⟨c0, c1, c2, c3, c4, c5, c6, c7, c8, c9⟩ := S0.out.ten
      go_wp2_with fail
      (with_reducible refine (AD.out _).mono ?_)
      rintro e w2 ⟨rfl, o⟩
      have OC := Lib.hid ((OB.out.same o).alloc (.cells #[.int .u64 (t.n 0), .int .u64 (t.n 1), .int .u64 (t.n 2), .int .u64 (t.n 3), .int .u64 (t.n 4), .int .u64 (t.n 5), .int .u64 (t.n 6), .int .u64 (t.n 7), .int .u64 (t.n 8), .int .u64 (t.n 9)] 24))
      have S0' := Lib.hid ((o.still S0.out).alloc (.cells #[.int .u64 (t.n 0), .int .u64 (t.n 1), .int .u64 (t.n 2), .int .u64 (t.n 3), .int .u64 (t.n 4), .int .u64 (t.n 5), .int .u64 (t.n 6), .int .u64 (t.n 7), .int .u64 (t.n 8), .int .u64 (t.n 9)] 24))
      have SA := Lib.hid (Row.fresh w2 24 #[.int .u64 (t.n 0), .int .u64 (t.n 1), .int .u64 (t.n 2), .int .u64 (t.n 3), .int .u64 (t.n 4), .int .u64 (t.n 5), .int .u64 (t.n 6), .int .u64 (t.n 7), .int .u64 (t.n 8), .int .u64 (t.n 9)])
      clear o OB S0 c0 c1 c2 c3 c4 c5 c6 c7 c8 c9 AD
      go_upto_region 4 with fail
      generalize w2.alloc (.cells #[.int .u64 (t.n 0), .int .u64 (t.n 1), .int .u64 (t.n 2), .int .u64 (t.n 3), .int .u64 (t.n 4), .int .u64 (t.n 5), .int .u64 (t.n 6), .int .u64 (t.n 7), .int .u64 (t.n 8), .int .u64 (t.n 9)] 24) = W2 at *
      generalize w2.heap.size = b2 at *
      have rr := S0'.out
      have p0 : ∀ i : After W2, i.val.cell? ⟨b0, 0, none⟩ = some (.int .u64 (t.n 0)) := fun i => by rw [(i.only.still rr).cell]; rfl
      have p1 : ∀ i : After W2, i.val.cell? ⟨b0, 1, none⟩ = some (.int .u64 (t.n 1)) := fun i => by rw [(i.only.still rr).cell]; rfl
      have p2 : ∀ i : After W2, i.val.cell? ⟨b0, 2, none⟩ = some (.int .u64 (t.n 2)) := fun i => by rw [(i.only.still rr).cell]; rfl
      have p3 : ∀ i : After W2, i.val.cell? ⟨b0, 3, none⟩ = some (.int .u64 (t.n 3)) := fun i => by rw [(i.only.still rr).cell]; rfl
      have p4 : ∀ i : After W2, i.val.cell? ⟨b0, 4, none⟩ = some (.int .u64 (t.n 4)) := fun i => by rw [(i.only.still rr).cell]; rfl
      have p5 : ∀ i : After W2, i.val.cell? ⟨b0, 5, none⟩ = some (.int .u64 (t.n 5)) := fun i => by rw [(i.only.still rr).cell]; rfl
      have p6 : ∀ i : After W2, i.val.cell? ⟨b0, 6, none⟩ = some (.int .u64 (t.n 6)) := fun i => by rw [(i.only.still rr).cell]; rfl
      have p7 : ∀ i : After W2, i.val.cell? ⟨b0, 7, none⟩ = some (.int .u64 (t.n 7)) := fun i => by rw [(i.only.still rr).cell]; rfl
      have p8 : ∀ i : After W2, i.val.cell? ⟨b0, 8, none⟩ = some (.int .u64 (t.n 8)) := fun i => by rw [(i.only.still rr).cell]; rfl
      have p9 : ∀ i : After W2, i.val.cell? ⟨b0, 9, none⟩ = some (.int .u64 (t.n 9)) := fun i => by rw [(i.only.still rr).cell]; rfl
      clear rr
      have rr := SA.out
      have k0 : ∀ i : After W2, i.val.cell? ⟨b2, 0, none⟩ = some (.int .u64 (t.n 0)) := fun i => by rw [(i.only.still rr).cell]; rfl
      have k1 : ∀ i : After W2, i.val.cell? ⟨b2, 1, none⟩ = some (.int .u64 (t.n 1)) := fun i => by rw [(i.only.still rr).cell]; rfl
      have k2 : ∀ i : After W2, i.val.cell? ⟨b2, 2, none⟩ = some (.int .u64 (t.n 2)) := fun i => by rw [(i.only.still rr).cell]; rfl
      have k3 : ∀ i : After W2, i.val.cell? ⟨b2, 3, none⟩ = some (.int .u64 (t.n 3)) := fun i => by rw [(i.only.still rr).cell]; rfl
      have k4 : ∀ i : After W2, i.val.cell? ⟨b2, 4, none⟩ = some (.int .u64 (t.n 4)) := fun i => by rw [(i.only.still rr).cell]; rfl
      have k5 : ∀ i : After W2, i.val.cell? ⟨b2, 5, none⟩ = some (.int .u64 (t.n 5)) := fun i => by rw [(i.only.still rr).cell]; rfl
      have k6 : ∀ i : After W2, i.val.cell? ⟨b2, 6, none⟩ = some (.int .u64 (t.n 6)) := fun i => by rw [(i.only.still rr).cell]; rfl
      have k7 : ∀ i : After W2, i.val.cell? ⟨b2, 7, none⟩ = some (.int .u64 (t.n 7)) := fun i => by rw [(i.only.still rr).cell]; rfl
      have k8 : ∀ i : After W2, i.val.cell? ⟨b2, 8, none⟩ = some (.int .u64 (t.n 8)) := fun i => by rw [(i.only.still rr).cell]; rfl
      have k9 : ∀ i : After W2, i.val.cell? ⟨b2, 9, none⟩ = some (.int .u64 (t.n 9)) := fun i => by rw [(i.only.still rr).cell]; rfl
      clear rr
      refine wp_region_after (w0 := W2) (by kernel_rfl) (lex_from lexNothing (by kernel_rfl)) (Only.refl _ _) ?_
      repeat (go_big_quiet_step (first | (with_reducible exact Calls.after _ (SU.out _))))
      refine wpQuiet_nil ?_
      intro w3 hw'
      obtain ⟨i1, e1⟩ := hw'
      have oz := i1.only
      rw [← e1] at oz
      clear e1 i1
      have OD := Lib.hid (OC.out.same oz)
      have S0 := Lib.hid (oz.still S0'.out)
      clear p0 p1 p2 p3 p4 p5 p6 p7 p8 p9 k0 k1 k2 k3 k4 k5 k6 k7 k8 k9 oz OC S0' SA SU
      obtain ⟨c0, c1, c2, c3, c4, c5, c6, c7, c8, c9⟩ := S0.out.ten
      go_wp2_with fail
      (with_reducible refine (CO.out _).mono ?_)
      rintro e w4 ⟨rfl, o⟩
      have L0 := Lib.hid (Nat.le_trans OD.out.size o.size)
      have OE := Lib.hid ((OD.out.same o).alloc (.cells #[.int .u64 (t.n 0), .int .u64 (t.n 1), .int .u64 (t.n 2), .int .u64 (t.n 3), .int .u64 (t.n 4), .int .u64 (t.n 5), .int .u64 (t.n 6), .int .u64 (t.n 7), .int .u64 (t.n 8), .int .u64 (t.n 9)] 31))
      have S0' := Lib.hid ((o.still S0.out).alloc (.cells #[.int .u64 (t.n 0), .int .u64 (t.n 1), .int .u64 (t.n 2), .int .u64 (t.n 3), .int .u64 (t.n 4), .int .u64 (t.n 5), .int .u64 (t.n 6), .int .u64 (t.n 7), .int .u64 (t.n 8), .int .u64 (t.n 9)] 31))
      have SC := Lib.hid (Row.fresh w4 31 #[.int .u64 (t.n 0), .int .u64 (t.n 1), .int .u64 (t.n 2), .int .u64 (t.n 3), .int .u64 (t.n 4), .int .u64 (t.n 5), .int .u64 (t.n 6), .int .u64 (t.n 7), .int .u64 (t.n 8), .int .u64 (t.n 9)])
      clear o OD S0 c0 c1 c2 c3 c4 c5 c6 c7 c8 c9 CO
      go_upto_region 7 with fail
      generalize w4.alloc (.cells #[.int .u64 (t.n 0), .int .u64 (t.n 1), .int .u64 (t.n 2), .int .u64 (t.n 3), .int .u64 (t.n 4), .int .u64 (t.n 5), .int .u64 (t.n 6), .int .u64 (t.n 7), .int .u64 (t.n 8), .int .u64 (t.n 9)] 31) = W4 at *
      generalize w4.heap.size = b4 at *
      go_wp2_with fail
      have LS := Lib.hid S0'.out.lt
      go_loopw [9] (fun i wr => ∃ k : Nat, k ≤ 10 ∧ i = .int .i64 k ∧ Only none_ w wr ∧ Row wr b0 24 t.cs ∧ Row wr b4 31 t.cs ∧ Row wr W4.heap.size 24 (t.upto k).cs) (fun i _ => 10 - (intOf i).toNat)
      case atStart => exact ⟨0, by omega, rfl, OE.out.alloc _, S0'.out.alloc _, SC.out.alloc _, by rw [Ta.upto_nil]; exact Row.fresh _ _ _⟩
      case round =>
        obtain ⟨k, hk, rfl, o, ra, rc, rv⟩ := hrel
        have O := Lib.hid o
        have RA := Lib.hid ra
        have RC := Lib.hid rc
        have RV := Lib.hid rv
        clear o ra rc rv S0' SC
        by_cases hlt : k < 10
        · have AP := Lib.hid (show b4 ≠ W4.heap.size from fun e => by
            have h := RC.out.one (e ▸ RV.out)
            exact absurd h.1 (by decide))
          have AQ := Lib.hid (show b0 ≠ W4.heap.size from fun e => by have := LS.out; omega)
          have AD := fun w => addk_any (t.upto k) (Ta.upto_wf HT.out k) k (t.n k) (HT.out k) w
          rw [Ta.upto_next HT.out k hlt] at AD
          have AD := Lib.hid AD
          have lw := RV.out.lt
          generalize hq : t.upto k = q at *
          generalize hq' : t.upto (k + 1) = q' at *
          generalize codeA k = ck at *
          obtain ⟨c0, c1, c2, c3, c4, c5, c6, c7, c8, c9⟩ := RV.out.ten
          have cb := (RC.out.cell k).trans (Ta.cs_get t k hlt)
          have Od := Lib.hid ((Only.refl none_ wr).drew)
          have wn : w.heap.size ≤ W4.heap.size := OE.out.size
          go_wp2_with fail
          go_region_with (first
            | (go_at_call 9; (with_reducible refine (AD.out _).mono ?_); rintro e w5 ⟨rfl, o5⟩; have O5 := Lib.hid (Od.out.same o5); have R5 := Lib.hid (O5.out.still RV.out); obtain ⟨d0, d1, d2, d3, d4, d5, d6, d7, d8, d9⟩ := R5.out.ten; have zf := R5.out.frozen)
            | fail)
          all_goals
            have R6 := Lib.hid (R5.out.put_ten (.int .u64 (q'.n 0)) (.int .u64 (q'.n 1)) (.int .u64 (q'.n 2)) (.int .u64 (q'.n 3)) (.int .u64 (q'.n 4)) (.int .u64 (q'.n 5)) (.int .u64 (q'.n 6)) (.int .u64 (q'.n 7)) (.int .u64 (q'.n 8)) (.int .u64 (q'.n 9)))
            have O6 := only_ten w5 W4.heap.size (q'.n 0) (q'.n 1) (q'.n 2) (q'.n 3) (q'.n 4) (q'.n 5) (q'.n 6) (q'.n 7) (q'.n 8) (q'.n 9)
            have RA6 := Lib.hid (O6.row (O5.out.still RA.out) (fun e => AQ.out e))
            have RC6 := Lib.hid (O6.row (O5.out.still RC.out) (fun e => AP.out e))
            have O7 := Lib.hid ((O.out.same O5.out).trans (O6.more (S' := fun k => w.heap.size ≤ k) (fun _ _ e => by rw [e]; exact wn)) (fun i hi s => absurd hi (by omega)))
            clear O6 d0 d1 d2 d3 d4 d5 d6 d7 d8 d9 zf c0 c1 c2 c3 c4 c5 c6 c7 c8 c9 cb
            generalize ((((((((((w5.setCell ⟨W4.heap.size, 0, none⟩ (.int .u64 (q'.n 0))).setCell ⟨W4.heap.size, 1, none⟩ (.int .u64 (q'.n 1))).setCell ⟨W4.heap.size, 2, none⟩ (.int .u64 (q'.n 2))).setCell ⟨W4.heap.size, 3, none⟩ (.int .u64 (q'.n 3))).setCell ⟨W4.heap.size, 4, none⟩ (.int .u64 (q'.n 4))).setCell ⟨W4.heap.size, 5, none⟩ (.int .u64 (q'.n 5))).setCell ⟨W4.heap.size, 6, none⟩ (.int .u64 (q'.n 6))).setCell ⟨W4.heap.size, 7, none⟩ (.int .u64 (q'.n 7))).setCell ⟨W4.heap.size, 8, none⟩ (.int .u64 (q'.n 8))).setCell ⟨W4.heap.size, 9, none⟩ (.int .u64 (q'.n 9))) = w6 at *
            go_wp2_with fail
            go_roundw
            case rel => exact ⟨k + 1, by omega, by go_num, O7.out, RA6.out, RC6.out, by rw [hq']; exact R6.out⟩
            case measure => simp [intOf]; omega
        · have e : k = 10 := by omega
          subst e
          have R2 := RV.out
          rw [Ta.upto_all] at R2
          obtain ⟨c0, c1, c2, c3, c4, c5, c6, c7, c8, c9⟩ := RA.out.ten
          obtain ⟨d0, d1, d2, d3, d4, d5, d6, d7, d8, d9⟩ := R2.ten
          clear R2
          go_wp2_with fail
          go_ret
          exact ⟨rfl, O.out.to_below⟩
  · rw [if_neg (fun h => g1 h.1)] at hc
    subst hc
    have d1 : decide (0 ≤ which) = false := decide_eq_false g1
    have g1 : which < 0 := by omega
    obtain ⟨W0, hW0⟩ : ∃ W0, W0 = (w.alloc (.cells #[.int .u64 (t.n 0), .int .u64 (t.n 1), .int .u64 (t.n 2), .int .u64 (t.n 3), .int .u64 (t.n 4), .int .u64 (t.n 5), .int .u64 (t.n 6), .int .u64 (t.n 7), .int .u64 (t.n 8), .int .u64 (t.n 9)] 24)) := ⟨_, rfl⟩
    have OA := Lib.hid (show Only none_ w W0 by rw [hW0]; exact ((Only.refl none_ w).alloc _))
    have R0 := Lib.hid (show Row W0 (w.heap.size) 24 #[.int .u64 (t.n 0), .int .u64 (t.n 1), .int .u64 (t.n 2), .int .u64 (t.n 3), .int .u64 (t.n 4), .int .u64 (t.n 5), .int .u64 (t.n 6), .int .u64 (t.n 7), .int .u64 (t.n 8), .int .u64 (t.n 9)] by rw [hW0]; have h := (Row.fresh w 24 #[.int .u64 (t.n 0), .int .u64 (t.n 1), .int .u64 (t.n 2), .int .u64 (t.n 3), .int .u64 (t.n 4), .int .u64 (t.n 5), .int .u64 (t.n 6), .int .u64 (t.n 7), .int .u64 (t.n 8), .int .u64 (t.n 9)]); exact h)
    go_enter Try.func6, Try.ntmps6
    go_upto_region 1 with fail
    rw [← hW0]
    clear hW0
    go_wp2_with fail
    (with_reducible refine (awake_any _).mono ?_)
    rintro e w1 ⟨rfl, o⟩
    have OB := Lib.hid (OA.out.same o)
    have S0 := Lib.hid (o.still R0.out)
    clear OA o R0
    have LB := Lib.hid (OB.out.size)
    have LC := Lib.hid (S0.out.lt)
    generalize hb0 : w.heap.size = b0 at *
    go_upto_region 3 with fail
    obtain ⟨c0, c1, c2, c3, c4, c5, c6, c7, c8, c9⟩ := S0.out.ten
    go_wp2_with fail
    (with_reducible refine (AD.out _).mono ?_)
    rintro e w2 ⟨rfl, o⟩
    have OC := Lib.hid ((OB.out.same o).alloc (.cells #[.int .u64 (t.n 0), .int .u64 (t.n 1), .int .u64 (t.n 2), .int .u64 (t.n 3), .int .u64 (t.n 4), .int .u64 (t.n 5), .int .u64 (t.n 6), .int .u64 (t.n 7), .int .u64 (t.n 8), .int .u64 (t.n 9)] 24))
    have S0' := Lib.hid ((o.still S0.out).alloc (.cells #[.int .u64 (t.n 0), .int .u64 (t.n 1), .int .u64 (t.n 2), .int .u64 (t.n 3), .int .u64 (t.n 4), .int .u64 (t.n 5), .int .u64 (t.n 6), .int .u64 (t.n 7), .int .u64 (t.n 8), .int .u64 (t.n 9)] 24))
    have SA := Lib.hid (Row.fresh w2 24 #[.int .u64 (t.n 0), .int .u64 (t.n 1), .int .u64 (t.n 2), .int .u64 (t.n 3), .int .u64 (t.n 4), .int .u64 (t.n 5), .int .u64 (t.n 6), .int .u64 (t.n 7), .int .u64 (t.n 8), .int .u64 (t.n 9)])
    clear o OB S0 c0 c1 c2 c3 c4 c5 c6 c7 c8 c9 AD
    go_upto_region 4 with fail
    generalize w2.alloc (.cells #[.int .u64 (t.n 0), .int .u64 (t.n 1), .int .u64 (t.n 2), .int .u64 (t.n 3), .int .u64 (t.n 4), .int .u64 (t.n 5), .int .u64 (t.n 6), .int .u64 (t.n 7), .int .u64 (t.n 8), .int .u64 (t.n 9)] 24) = W2 at *
    generalize w2.heap.size = b2 at *
    have rr := S0'.out
    have p0 : ∀ i : After W2, i.val.cell? ⟨b0, 0, none⟩ = some (.int .u64 (t.n 0)) := fun i => by rw [(i.only.still rr).cell]; rfl
    have p1 : ∀ i : After W2, i.val.cell? ⟨b0, 1, none⟩ = some (.int .u64 (t.n 1)) := fun i => by rw [(i.only.still rr).cell]; rfl
    have p2 : ∀ i : After W2, i.val.cell? ⟨b0, 2, none⟩ = some (.int .u64 (t.n 2)) := fun i => by rw [(i.only.still rr).cell]; rfl
    have p3 : ∀ i : After W2, i.val.cell? ⟨b0, 3, none⟩ = some (.int .u64 (t.n 3)) := fun i => by rw [(i.only.still rr).cell]; rfl
    have p4 : ∀ i : After W2, i.val.cell? ⟨b0, 4, none⟩ = some (.int .u64 (t.n 4)) := fun i => by rw [(i.only.still rr).cell]; rfl
    have p5 : ∀ i : After W2, i.val.cell? ⟨b0, 5, none⟩ = some (.int .u64 (t.n 5)) := fun i => by rw [(i.only.still rr).cell]; rfl
    have p6 : ∀ i : After W2, i.val.cell? ⟨b0, 6, none⟩ = some (.int .u64 (t.n 6)) := fun i => by rw [(i.only.still rr).cell]; rfl
    have p7 : ∀ i : After W2, i.val.cell? ⟨b0, 7, none⟩ = some (.int .u64 (t.n 7)) := fun i => by rw [(i.only.still rr).cell]; rfl
    have p8 : ∀ i : After W2, i.val.cell? ⟨b0, 8, none⟩ = some (.int .u64 (t.n 8)) := fun i => by rw [(i.only.still rr).cell]; rfl
    have p9 : ∀ i : After W2, i.val.cell? ⟨b0, 9, none⟩ = some (.int .u64 (t.n 9)) := fun i => by rw [(i.only.still rr).cell]; rfl
    clear rr
    have rr := SA.out
    have k0 : ∀ i : After W2, i.val.cell? ⟨b2, 0, none⟩ = some (.int .u64 (t.n 0)) := fun i => by rw [(i.only.still rr).cell]; rfl
    have k1 : ∀ i : After W2, i.val.cell? ⟨b2, 1, none⟩ = some (.int .u64 (t.n 1)) := fun i => by rw [(i.only.still rr).cell]; rfl
    have k2 : ∀ i : After W2, i.val.cell? ⟨b2, 2, none⟩ = some (.int .u64 (t.n 2)) := fun i => by rw [(i.only.still rr).cell]; rfl
    have k3 : ∀ i : After W2, i.val.cell? ⟨b2, 3, none⟩ = some (.int .u64 (t.n 3)) := fun i => by rw [(i.only.still rr).cell]; rfl
    have k4 : ∀ i : After W2, i.val.cell? ⟨b2, 4, none⟩ = some (.int .u64 (t.n 4)) := fun i => by rw [(i.only.still rr).cell]; rfl
    have k5 : ∀ i : After W2, i.val.cell? ⟨b2, 5, none⟩ = some (.int .u64 (t.n 5)) := fun i => by rw [(i.only.still rr).cell]; rfl
    have k6 : ∀ i : After W2, i.val.cell? ⟨b2, 6, none⟩ = some (.int .u64 (t.n 6)) := fun i => by rw [(i.only.still rr).cell]; rfl
    have k7 : ∀ i : After W2, i.val.cell? ⟨b2, 7, none⟩ = some (.int .u64 (t.n 7)) := fun i => by rw [(i.only.still rr).cell]; rfl
    have k8 : ∀ i : After W2, i.val.cell? ⟨b2, 8, none⟩ = some (.int .u64 (t.n 8)) := fun i => by rw [(i.only.still rr).cell]; rfl
    have k9 : ∀ i : After W2, i.val.cell? ⟨b2, 9, none⟩ = some (.int .u64 (t.n 9)) := fun i => by rw [(i.only.still rr).cell]; rfl
    clear rr
    refine wp_region_after (w0 := W2) (by kernel_rfl) (lex_from lexNothing (by kernel_rfl)) (Only.refl _ _) ?_
    repeat (go_big_quiet_step (first | (with_reducible exact Calls.after _ (SU.out _))))
    refine wpQuiet_nil ?_
    intro w3 hw'
    obtain ⟨i1, e1⟩ := hw'
    have oz := i1.only
    rw [← e1] at oz
    clear e1 i1
    have OD := Lib.hid (OC.out.same oz)
    have S0 := Lib.hid (oz.still S0'.out)
    clear p0 p1 p2 p3 p4 p5 p6 p7 p8 p9 k0 k1 k2 k3 k4 k5 k6 k7 k8 k9 oz OC S0' SA SU
    obtain ⟨c0, c1, c2, c3, c4, c5, c6, c7, c8, c9⟩ := S0.out.ten
    go_wp2_with fail
    (with_reducible refine (CO.out _).mono ?_)
    rintro e w4 ⟨rfl, o⟩
    have L0 := Lib.hid (Nat.le_trans OD.out.size o.size)
    have OE := Lib.hid ((OD.out.same o).alloc (.cells #[.int .u64 (t.n 0), .int .u64 (t.n 1), .int .u64 (t.n 2), .int .u64 (t.n 3), .int .u64 (t.n 4), .int .u64 (t.n 5), .int .u64 (t.n 6), .int .u64 (t.n 7), .int .u64 (t.n 8), .int .u64 (t.n 9)] 31))
    have S0' := Lib.hid ((o.still S0.out).alloc (.cells #[.int .u64 (t.n 0), .int .u64 (t.n 1), .int .u64 (t.n 2), .int .u64 (t.n 3), .int .u64 (t.n 4), .int .u64 (t.n 5), .int .u64 (t.n 6), .int .u64 (t.n 7), .int .u64 (t.n 8), .int .u64 (t.n 9)] 31))
    have SC := Lib.hid (Row.fresh w4 31 #[.int .u64 (t.n 0), .int .u64 (t.n 1), .int .u64 (t.n 2), .int .u64 (t.n 3), .int .u64 (t.n 4), .int .u64 (t.n 5), .int .u64 (t.n 6), .int .u64 (t.n 7), .int .u64 (t.n 8), .int .u64 (t.n 9)])
    clear o OD S0 c0 c1 c2 c3 c4 c5 c6 c7 c8 c9 CO
    go_upto_region 7 with fail
    generalize w4.alloc (.cells #[.int .u64 (t.n 0), .int .u64 (t.n 1), .int .u64 (t.n 2), .int .u64 (t.n 3), .int .u64 (t.n 4), .int .u64 (t.n 5), .int .u64 (t.n 6), .int .u64 (t.n 7), .int .u64 (t.n 8), .int .u64 (t.n 9)] 31) = W4 at *
    generalize w4.heap.size = b4 at *
    go_wp2_with fail
    have LS := Lib.hid S0'.out.lt
    go_loopw [9] (fun i wr => ∃ k : Nat, k ≤ 10 ∧ i = .int .i64 k ∧ Only none_ w wr ∧ Row wr b0 24 t.cs ∧ Row wr b4 31 t.cs ∧ Row wr W4.heap.size 24 (t.upto k).cs) (fun i _ => 10 - (intOf i).toNat)
    case atStart => exact ⟨0, by omega, rfl, OE.out.alloc _, S0'.out.alloc _, SC.out.alloc _, by rw [Ta.upto_nil]; exact Row.fresh _ _ _⟩
    case round =>
      obtain ⟨k, hk, rfl, o, ra, rc, rv⟩ := hrel
      have O := Lib.hid o
      have RA := Lib.hid ra
      have RC := Lib.hid rc
      have RV := Lib.hid rv
      clear o ra rc rv S0' SC
      by_cases hlt : k < 10
      · have AP := Lib.hid (show b4 ≠ W4.heap.size from fun e => by
          have h := RC.out.one (e ▸ RV.out)
          exact absurd h.1 (by decide))
        have AQ := Lib.hid (show b0 ≠ W4.heap.size from fun e => by have := LS.out; omega)
        have AD := fun w => addk_any (t.upto k) (Ta.upto_wf HT.out k) k (t.n k) (HT.out k) w
        rw [Ta.upto_next HT.out k hlt] at AD
        have AD := Lib.hid AD
        have lw := RV.out.lt
        generalize hq : t.upto k = q at *
        generalize hq' : t.upto (k + 1) = q' at *
        generalize codeA k = ck at *
        obtain ⟨c0, c1, c2, c3, c4, c5, c6, c7, c8, c9⟩ := RV.out.ten
        have cb := (RC.out.cell k).trans (Ta.cs_get t k hlt)
        have Od := Lib.hid ((Only.refl none_ wr).drew)
        have wn : w.heap.size ≤ W4.heap.size := OE.out.size
        go_wp2_with fail
        go_region_with (first
          | (go_at_call 9; (with_reducible refine (AD.out _).mono ?_); rintro e w5 ⟨rfl, o5⟩; have O5 := Lib.hid (Od.out.same o5); have R5 := Lib.hid (O5.out.still RV.out); obtain ⟨d0, d1, d2, d3, d4, d5, d6, d7, d8, d9⟩ := R5.out.ten; have zf := R5.out.frozen)
          | fail)
        all_goals
          have R6 := Lib.hid (R5.out.put_ten (.int .u64 (q'.n 0)) (.int .u64 (q'.n 1)) (.int .u64 (q'.n 2)) (.int .u64 (q'.n 3)) (.int .u64 (q'.n 4)) (.int .u64 (q'.n 5)) (.int .u64 (q'.n 6)) (.int .u64 (q'.n 7)) (.int .u64 (q'.n 8)) (.int .u64 (q'.n 9)))
          have O6 := only_ten w5 W4.heap.size (q'.n 0) (q'.n 1) (q'.n 2) (q'.n 3) (q'.n 4) (q'.n 5) (q'.n 6) (q'.n 7) (q'.n 8) (q'.n 9)
          have RA6 := Lib.hid (O6.row (O5.out.still RA.out) (fun e => AQ.out e))
          have RC6 := Lib.hid (O6.row (O5.out.still RC.out) (fun e => AP.out e))
          have O7 := Lib.hid ((O.out.same O5.out).trans (O6.more (S' := fun k => w.heap.size ≤ k) (fun _ _ e => by rw [e]; exact wn)) (fun i hi s => absurd hi (by omega)))
          clear O6 d0 d1 d2 d3 d4 d5 d6 d7 d8 d9 zf c0 c1 c2 c3 c4 c5 c6 c7 c8 c9 cb
          generalize ((((((((((w5.setCell ⟨W4.heap.size, 0, none⟩ (.int .u64 (q'.n 0))).setCell ⟨W4.heap.size, 1, none⟩ (.int .u64 (q'.n 1))).setCell ⟨W4.heap.size, 2, none⟩ (.int .u64 (q'.n 2))).setCell ⟨W4.heap.size, 3, none⟩ (.int .u64 (q'.n 3))).setCell ⟨W4.heap.size, 4, none⟩ (.int .u64 (q'.n 4))).setCell ⟨W4.heap.size, 5, none⟩ (.int .u64 (q'.n 5))).setCell ⟨W4.heap.size, 6, none⟩ (.int .u64 (q'.n 6))).setCell ⟨W4.heap.size, 7, none⟩ (.int .u64 (q'.n 7))).setCell ⟨W4.heap.size, 8, none⟩ (.int .u64 (q'.n 8))).setCell ⟨W4.heap.size, 9, none⟩ (.int .u64 (q'.n 9))) = w6 at *
          go_wp2_with fail
          go_roundw
          case rel => exact ⟨k + 1, by omega, by go_num, O7.out, RA6.out, RC6.out, by rw [hq']; exact R6.out⟩
          case measure => simp [intOf]; omega
      · have e : k = 10 := by omega
        subst e
        have R2 := RV.out
        rw [Ta.upto_all] at R2
        obtain ⟨c0, c1, c2, c3, c4, c5, c6, c7, c8, c9⟩ := RA.out.ten
        obtain ⟨d0, d1, d2, d3, d4, d5, d6, d7, d8, d9⟩ := R2.ten
        clear R2
        go_wp2_with fail
        go_ret
        exact ⟨rfl, O.out.to_below⟩



end Go.Proofs.Ytofmbipedljdkaa.tallyNothing

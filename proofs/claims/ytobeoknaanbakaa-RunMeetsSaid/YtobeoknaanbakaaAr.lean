/- The run around a block: the code's own. -/
import Derived.Test.YtobeoknaanbakaaGr2
import Derived.StillTailTactics
namespace Go.Proofs.Ytobeoknaanbakaa
open Go.RowKit
set_option linter.unusedVariables false

/-- a whole row, read in a region that draws -/
theorem still_load_row {P : Program} {ops : Array Oper} {w : World} {Q : Act → Prop} {o : Oper} {rest : List Oper} {a : Act} (hgd : o.guard = none) (ty : TypeId) (x : Operand) (ho : o.op = .load ty x)
    (g : Nat) (hx : a.eval x = .pointer (some ⟨g, 0, none⟩)) (t : TypeId) (cs : Array Value) (fr : Nat × Nat) (d : TypeDesc) (hg : w.heap[g]? = some (.cells cs t fr))
    (hu : P.underlying ty = some d) (hd : (match d with | .struct _ | .array _ _ => true | _ => false) = true) (hi : (P.info? ty).map (·.size) = some cs.size)
    (h : wpStill P ops w Q rest (a.put o.dst (.agg cs))) : wpStill P ops w Q (o :: rest) a := by
  refine wpStill_step (fun K hK => ?_)
  have hw : Region.wanted o (yielded ops a.tmps) = true := by simp [Region.wanted, hgd]
  rw [if_pos hw]
  unfold Oper.still execOp
  simp only [ho, hx, Instr.loadAt, Instr.sureAddr, Sem.run_bind, Sem.run_pure, Result.andThen_ok, run_loadVar_row w g t ty cs fr d hg hu hd hi]
  rw [Oper.stillUpon_value]
  exact hK _ h

set_option maxHeartbeats 2000000 in
theorem around_any (v u : Value) (xs ys : List Int) (b most room : Int) (w : World) (hv : Reads w v xs) (hu : Reads w u ys) (hx : xs.length ≤ 1000000) (hy : ys.length ≤ 1000000) (hr : room ≤ 9223372036854775807) :
    Calls Try.prog 8 #[v, u, .int .i64 b, .int .i64 most, .int .i64 room] w fun e w' => e = .returned (.tuple #[(aroundR xs ys b most room).val, .int .i64 (aroundC xs ys b most room)]) ∧ Only none_ w w' := by
  have SX := Lib.hid (fun (w' : World) (o : Only none_ w w') => setOf_any v xs w' (hv.still o) hx)
  have SY := Lib.hid (fun (w' : World) (o : Only none_ w w') => setOf_any u ys w' (hu.still o) hy)
  have MM := Lib.hid (fun w => may_any most w)
  have HS := Lib.hid (fun (g : Nat) (w' : World) (h : SetAt w' g (hasB xs)) => has_set g xs b w' h)
  have CS := Lib.hid (fun (g : Nat) (w' : World) (h : SetAt w' g (hasB ys)) => costq_set g ys b w' h)
  have ZS := zero_set
  have AA := Lib.hid (fun (h : argB xs b most room) => around_arg (ys := ys) h)
  have AF := Lib.hid (fun (h : ¬ argB xs b most room) (k : room < costB (hasB ys) b) => around_full h k)
  have AO := Lib.hid (fun (h : ¬ argB xs b most room) (k : costB (hasB ys) b ≤ room) => around_ok h k)
  generalize aroundR xs ys b most room = R at *
  generalize aroundC xs ys b most room = C at *
  clear hv hu hx hy
  go_enter Try.func8, Try.ntmps8
  go_wp2_with fail
  have C0 := Lib.hid (Row.fresh w 27 #[.int .i64 0, .int .i64 0])
  have O0 := Lib.hid ((Only.refl none_ w).alloc (.cells #[.int .i64 0, .int .i64 0] 27))
  revert C0 O0
  generalize w.alloc (.cells #[.int .i64 0, .int .i64 0] 27) = W1
  generalize hg : w.heap.size = g
  intro C0 O0
  have GW := Lib.hid hg
  clear hg
  (with_reducible refine (SX.out _ O0.out).mono ?_)
  rintro e w2 ⟨rfl, o⟩
  have C2 := Lib.hid (o.still C0.out)
  have O2 := Lib.hid (O0.out.same o)
  clear o C0 O0
  go_wp2_with (refine wpList_store_row rfl 46 _ _ rfl _ (bits (hasB xs)) rfl rfl 46 (bits fun x => false) (Row.fresh _ _ _) (size_set _) (by rw [bits_size, bits_size]) (bits_one _) ?_)
  have C3 := Lib.hid ((C2.out.alloc (.cells (bits fun x => false) 46)))
  have C4 := Lib.hid (show Row ((w2.alloc (.cells (bits fun x => false) 46)).setRow w2.heap.size (bits (hasB xs))) g 27 #[.int .i64 0, .int .i64 0] from (setRow_other _ _ _ _ (Nat.ne_of_lt C2.out.lt)).trans C3.out)
  have S4 := Lib.hid (show SetAt ((w2.alloc (.cells (bits fun x => false) 46)).setRow w2.heap.size (bits (hasB xs))) w2.heap.size (hasB xs) from SetAt.store (p := fun _ => false) (Row.fresh _ _ _) _)
  have O4 := Lib.hid (show Only none_ w ((w2.alloc (.cells (bits fun x => false) 46)).setRow w2.heap.size (bits (hasB xs))) from (O2.out.alloc _).whole (fun q => by have := O2.out.size; omega) _)
  have L4 := Lib.hid (show g < w2.heap.size from C2.out.lt)
  clear C2 O2 C3
  revert C4 S4 O4 L4
  generalize (w2.alloc (.cells (bits fun x => false) 46)).setRow w2.heap.size (bits (hasB xs)) = W4
  generalize w2.heap.size = g1
  intro C4 S4 O4 L4
  (with_reducible refine (SY.out _ O4.out).mono ?_)
  rintro e w5 ⟨rfl, o⟩
  have C5 := Lib.hid (o.still C4.out)
  have S5 := Lib.hid (S4.out.still o)
  have O5 := Lib.hid (O4.out.same o)
  clear o C4 S4 O4
  go_wp2_with (refine wpList_store_row rfl 46 _ _ rfl _ (bits (hasB ys)) rfl rfl 46 (bits fun x => false) (Row.fresh _ _ _) (size_set _) (by rw [bits_size, bits_size]) (bits_one _) ?_)
  have C6 := Lib.hid (show Row ((w5.alloc (.cells (bits fun x => false) 46)).setRow w5.heap.size (bits (hasB ys))) g 27 #[.int .i64 0, .int .i64 0] from (setRow_other _ _ _ _ (Nat.ne_of_lt C5.out.lt)).trans (C5.out.alloc _))
  have S6 := Lib.hid (show SetAt ((w5.alloc (.cells (bits fun x => false) 46)).setRow w5.heap.size (bits (hasB ys))) g1 (hasB xs) from (setRow_other _ _ _ _ (Nat.ne_of_lt (Row.lt S5.out))).trans (Row.alloc S5.out _))
  have T6 := Lib.hid (show SetAt ((w5.alloc (.cells (bits fun x => false) 46)).setRow w5.heap.size (bits (hasB ys))) w5.heap.size (hasB ys) from SetAt.store (p := fun _ => false) (Row.fresh _ _ _) _)
  have O6 := Lib.hid (show Only none_ w ((w5.alloc (.cells (bits fun x => false) 46)).setRow w5.heap.size (bits (hasB ys))) from (O5.out.alloc _).whole (fun q => by have := O5.out.size; omega) _)
  clear C5 S5 O5
  revert C6 S6 T6 O6
  generalize (w5.alloc (.cells (bits fun x => false) 46)).setRow w5.heap.size (bits (hasB ys)) = W6
  generalize w5.heap.size = g2
  intro C6 S6 T6 O6
  clear SX SY ZS
  by_cases q1 : mayMost most
  · rw [decide_eq_true q1] at MM
    (with_reducible refine (MM.out _).mono ?_)
    rintro e w7 ⟨rfl, o⟩
    have C7 := Lib.hid (o.still C6.out)
    have S7 := Lib.hid (S6.out.still o)
    have T7 := Lib.hid (T6.out.still o)
    have O7 := Lib.hid (O6.out.same o)
    clear o C6 S6 T6 O6 MM
    by_cases q2 : room < 0
    · have t : decide (room < 0) = true := decide_eq_true q2
      obtain ⟨rfl, rfl⟩ := AA.out (.inr (.inl q2))
      have f0 := C7.out.frozen 0
      have f1 := C7.out.frozen 1
      obtain ⟨c0, c1⟩ := C7.out.two
      clear q1 q2 hr
      go_wp2_with fail
      exact bodyPost_ret (results_run2 rfl _ _ g ⟨0, 0⟩ rfl ((C7.out.put 0 _).put 1 _)) rfl ⟨rfl, (O7.out.new (by have := GW.out; omega) _ _).new (by have := GW.out; omega) _ _⟩
    · have t : decide (room < 0) = false := decide_eq_false q2
      go_wp2_with fail
      cases q3 : hasB xs b with
      | false =>
        rw [q3] at HS
        obtain ⟨rfl, rfl⟩ := AA.out (.inr (.inr q3))
        (with_reducible refine (HS.out _ _ S7.out).mono ?_)
        rintro e w8 ⟨rfl, o⟩
        have C8 := Lib.hid (o.still C7.out)
        have O8 := Lib.hid (O7.out.same o)
        clear o C7 S7 T7 O7 HS q1 q2 q3 hr
        have f0 := C8.out.frozen 0
        have f1 := C8.out.frozen 1
        obtain ⟨c0, c1⟩ := C8.out.two
        go_wp2_with fail
        exact bodyPost_ret (results_run2 rfl _ _ g ⟨0, 0⟩ rfl ((C8.out.put 0 _).put 1 _)) rfl ⟨rfl, (O8.out.new (by have := GW.out; omega) _ _).new (by have := GW.out; omega) _ _⟩
      | true =>
        rw [q3] at HS
        have NA := Lib.hid (show ¬ argB xs b most room from fun h => by
          rcases h with h | h | h
          · exact h q1
          · exact absurd h (by omega)
          · rw [q3] at h; cases h)
        (with_reducible refine (HS.out _ _ S7.out).mono ?_)
        rintro e w8 ⟨rfl, o⟩
        have C8 := Lib.hid (o.still C7.out)
        have S8 := Lib.hid (S7.out.still o)
        have T8 := Lib.hid (T7.out.still o)
        have O8 := Lib.hid (O7.out.same o)
        clear o C7 S7 T7 O7 HS
        go_wp2_with fail
        (with_reducible refine (CS.out _ _ T8.out).mono ?_)
        rintro e w9 ⟨rfl, rfl⟩
        by_cases q4 : costB (hasB ys) b ≤ room
        · have GB := Lib.hid (fun w => grown_any xs ys b most (room - costB (hasB ys) b) w q3 q1 (by have := costB_cases (hasB ys) b; omega))
          obtain ⟨rfl, hR⟩ := AO.out NA.out q4
          have HRR := Lib.hid hR
          have v2 : IntKind.i64.wrap (room - costB (hasB ys) b) = room - costB (hasB ys) b := by
            have := costB_cases (hasB ys) b
            rw [IntKind.wrap_i64]; omega
          have t2 : decide (room < costB (hasB ys) b) = false := decide_eq_false (by omega)
          unfold growTo at hR
          rw [← hR] at GB
          clear hR
          generalize costB (hasB ys) b = cv at *
          clear AA AF AO q1 q2 q3 q4 hr
          go_wp2_with fail
          refine wp_region_still_tail 8 (by kernel_rfl) (by kernel_rfl) ?_
          change wpStill _ _ (World.drew w9) (fun a' => wpList _ _ _ _ a' (World.drew w9)) _ _
          simp only [List.take_succ_cons, List.take_zero]
          simp only [List.drop_succ_cons, List.drop_zero]
          have C9 := Lib.hid (show Row w9.drew g 27 #[.int .i64 0, .int .i64 0] from C8.out)
          have S9 := Lib.hid (show SetAt w9.drew g1 (hasB xs) from S8.out)
          have T9 := Lib.hid (show SetAt w9.drew g2 (hasB ys) from T8.out)
          have O9 := Lib.hid (O8.out.drew)
          clear C8 S8 T8 O8
          generalize World.drew w9 = W2 at *
          have cs := CS.out _ _ T9.out
          refine still_load_row rfl 46 _ rfl g1 rfl 46 (bits (hasB xs)) (0, 0) _ S9.out Try.underlying46 rfl (size_set _) ?_
          refine still_load_row rfl 46 _ rfl g2 rfl 46 (bits (hasB ys)) (0, 0) _ T9.out Try.underlying46 rfl (size_set _) ?_
          still_step
          still_step
          still_step
          still_step
          still_call cs
          still_step
          refine wpStill_nil ?_
          unfold Rn.val at GB
          go_wp2_with fail
          (with_reducible refine (GB.out _).mono ?_)
          rintro e w10 ⟨rfl, o⟩
          have C10 := Lib.hid (o.still C9.out)
          have O10 := Lib.hid (O9.out.same o)
          clear o C9 S9 T9 O9 GB cs CS
          have f0 := C10.out.frozen 0
          have f1 := C10.out.frozen 1
          obtain ⟨c0, c1⟩ := C10.out.two
          go_wp2_with fail
          exact bodyPost_ret (results_run2 rfl _ _ g R rfl ((C10.out.put 0 _).put 1 _)) rfl ⟨rfl, (O10.out.new (by have := GW.out; omega) _ _).new (by have := GW.out; omega) _ _⟩
        · obtain ⟨rfl, rfl⟩ := AF.out NA.out (by omega)
          have t2 : decide (room < costB (hasB ys) b) = true := decide_eq_true (by omega)
          generalize costB (hasB ys) b = cv at *
          clear AA AF AO q1 q2 q3 q4 hr
          have f0 := C8.out.frozen 0
          have f1 := C8.out.frozen 1
          obtain ⟨c0, c1⟩ := C8.out.two
          go_wp2_with fail
          exact bodyPost_ret (results_run2 rfl _ _ g ⟨0, 0⟩ rfl ((C8.out.put 0 _).put 1 _)) rfl ⟨rfl, (O8.out.new (by have := GW.out; omega) _ _).new (by have := GW.out; omega) _ _⟩
  · rw [decide_eq_false q1] at MM
    obtain ⟨rfl, rfl⟩ := AA.out (.inl q1)
    (with_reducible refine (MM.out _).mono ?_)
    rintro e w7 ⟨rfl, o⟩
    have C7 := Lib.hid (o.still C6.out)
    have O7 := Lib.hid (O6.out.same o)
    clear o C6 S6 T6 O6 q1
    have f0 := C7.out.frozen 0
    have f1 := C7.out.frozen 1
    obtain ⟨c0, c1⟩ := C7.out.two
    go_wp2_with fail
    exact bodyPost_ret (results_run2 rfl _ _ g ⟨0, 0⟩ rfl ((C7.out.put 0 _).put 1 _)) rfl ⟨rfl, (O7.out.new (by have := GW.out; omega) _ _).new (by have := GW.out; omega) _ _⟩
end Go.Proofs.Ytobeoknaanbakaa

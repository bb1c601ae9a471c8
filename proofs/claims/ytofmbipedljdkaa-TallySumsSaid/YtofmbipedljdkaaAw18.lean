/- What the laws of layer 18 share: tallies that are alike, and what 'awake' comes to. -/
import Derived.Test.YtofmbipedljdkaaRs18
namespace Go.Proofs.Ytofmbipedljdkaa
open Go.RowKit
set_option linter.unusedVariables false

theorem eq_ta (t : Ta) (w : World) : (Op.equalIn 10000 24 t.val t.val).run Try.prog w = .ok true w := by simp [go_sem]
theorem info_u64 : (Try.prog.info? 22).map (fun i => (i.zero, i.size, i.bytes)) = some (some (.int .u64 0), 1, 8) := by kernel_rfl
theorem run_part_u64 (xs : Array Value) (i : Nat) (a : Int) (h : xs[i]? = some (.int .u64 a)) (w : World) : (part 22 xs i).run Try.prog w = .ok (.int .u64 a) w := by
  unfold part
  simp [h]
theorem run_eq_u64 (d : Nat) (a b : Int) (w : World) : (Op.equalIn (d + 1) 22 (.int .u64 a) (.int .u64 b)).run Try.prog w = .ok (a == b) w := by
  simp [Op.equalIn, run_underlying Try.underlying22]
theorem eq_co (t : Ta) (w : World) : (Op.equalIn 10000 31 t.val t.val).run Try.prog w = .ok true w := by
  obtain ⟨i0, hi, hz0, hz1, hz2⟩ := info_parts info_u64
  have p := fun (i : Nat) (hi : i < 10) w => run_part_u64 t.cs i (t.n i) (Ta.cs_get t i hi) w
  have e := fun a w => (run_eq_u64 9998 a a w).trans (by rw [BEq.rfl])
  have p0 := fun w => p 0 (by omega) w
  have p1 := fun w => p 1 (by omega) w
  have p2 := fun w => p 2 (by omega) w
  have p3 := fun w => p 3 (by omega) w
  have p4 := fun w => p 4 (by omega) w
  have p5 := fun w => p 5 (by omega) w
  have p6 := fun w => p 6 (by omega) w
  have p7 := fun w => p 7 (by omega) w
  have p8 := fun w => p 8 (by omega) w
  have p9 := fun w => p 9 (by omega) w
  clear p
  show (Op.equalIn (9999 + 1) _ _ _).run Try.prog w = _
  unfold Op.equalIn
  simp only [Sem.run_bind, run_underlying Try.underlying31]
  simp [sizeOf, typeInfo, hi, hz1, List.range', p0, p1, p2, p3, p4, p5, p6, p7, p8, p9, e]
theorem index_co (cs : Array Value) (i : Nat) (a : Int) (hl : i < 10) (h : cs[i]? = some (.int .u64 a)) (w : World) : (Instr.index 31 (.agg cs) (.int .i64 i)).run Try.prog w = .ok (.int .u64 a) w := by
  have u := Try.underlying31
  obtain ⟨i0, hi, hz0, hz1, hz2⟩ := info_parts info_u64
  have p := run_part_u64 cs i a h w
  unfold Instr.index
  simp [Sem.run_bind, run_underlying u, hl, sizeOf, typeInfo, asIntOf, hi, hz1, p]
theorem field_ta (v0 v1 v2 v3 v4 v5 v6 v7 v8 v9 : Value) (w : World) : (Instr.field 24 (.agg #[v0, v1, v2, v3, v4, v5, v6, v7, v8, v9]) 0).run Try.prog w = .ok v0 w := by kernel_rfl

def Ta.of (l : List Nat) : Ta := ⟨fun i => l.getD i 0⟩
theorem Ta.of_wf {l : List Nat} (h : ∀ x ∈ l, x < 18446744073709551616) : (Ta.of l).Wf := fun i => by
  unfold Ta.of
  show l.getD i 0 < _
  rw [List.getD_eq_getElem?_getD]
  cases e : l[i]? with
  | none => show (0 : Nat) < _; omega
  | some x => exact h x (List.mem_of_getElem? e)
theorem k_add1 (w : World) : Calls Try.prog 9 #[.agg #[.int .u64 0, .int .u64 0, .int .u64 0, .int .u64 0, .int .u64 0, .int .u64 0, .int .u64 0, .int .u64 0, .int .u64 0, .int .u64 0], .int .i64 0, .int .u64 3] w fun e w' => e = .returned (.tuple #[.agg #[.int .u64 3, .int .u64 0, .int .u64 0, .int .u64 0, .int .u64 0, .int .u64 0, .int .u64 0, .int .u64 0, .int .u64 0, .int .u64 0], .int .i64 0]) ∧ Only none_ w w' := by
  have h := add_in (Ta.of [0, 0, 0, 0, 0, 0, 0, 0, 0, 0]) (Ta.of_wf (by decide)) 0 3 (by decide) (by decide) w
  rw [Ta.val_congr (a := (Ta.of [0, 0, 0, 0, 0, 0, 0, 0, 0, 0]).sum (.one 0 3)) (b := (Ta.of [3, 0, 0, 0, 0, 0, 0, 0, 0, 0])) (by decide)] at h
  exact h
theorem k_add2 (w : World) : Calls Try.prog 9 #[.agg #[.int .u64 3, .int .u64 0, .int .u64 0, .int .u64 0, .int .u64 0, .int .u64 0, .int .u64 0, .int .u64 0, .int .u64 0, .int .u64 0], .int .i64 1, .int .u64 2] w fun e w' => e = .returned (.tuple #[.agg #[.int .u64 3, .int .u64 2, .int .u64 0, .int .u64 0, .int .u64 0, .int .u64 0, .int .u64 0, .int .u64 0, .int .u64 0, .int .u64 0], .int .i64 0]) ∧ Only none_ w w' := by
  have h := add_in (Ta.of [3, 0, 0, 0, 0, 0, 0, 0, 0, 0]) (Ta.of_wf (by decide)) 1 2 (by decide) (by decide) w
  rw [Ta.val_congr (a := (Ta.of [3, 0, 0, 0, 0, 0, 0, 0, 0, 0]).sum (.one 1 2)) (b := (Ta.of [3, 2, 0, 0, 0, 0, 0, 0, 0, 0])) (by decide)] at h
  exact h
theorem k_add3 (w : World) : Calls Try.prog 9 #[.agg #[.int .u64 3, .int .u64 2, .int .u64 0, .int .u64 0, .int .u64 0, .int .u64 0, .int .u64 0, .int .u64 0, .int .u64 0, .int .u64 0], .int .i64 3, .int .u64 1] w fun e w' => e = .returned (.tuple #[.agg #[.int .u64 3, .int .u64 2, .int .u64 0, .int .u64 1, .int .u64 0, .int .u64 0, .int .u64 0, .int .u64 0, .int .u64 0, .int .u64 0], .int .i64 0]) ∧ Only none_ w w' := by
  have h := add_in (Ta.of [3, 2, 0, 0, 0, 0, 0, 0, 0, 0]) (Ta.of_wf (by decide)) 3 1 (by decide) (by decide) w
  rw [Ta.val_congr (a := (Ta.of [3, 2, 0, 0, 0, 0, 0, 0, 0, 0]).sum (.one 3 1)) (b := (Ta.of [3, 2, 0, 1, 0, 0, 0, 0, 0, 0])) (by decide)] at h
  exact h
theorem k_add4 (w : World) : Calls Try.prog 9 #[.agg #[.int .u64 3, .int .u64 2, .int .u64 0, .int .u64 1, .int .u64 0, .int .u64 0, .int .u64 0, .int .u64 0, .int .u64 0, .int .u64 0], .int .i64 10, .int .u64 1] w fun e w' => e = .returned (.tuple #[.agg #[.int .u64 3, .int .u64 2, .int .u64 0, .int .u64 1, .int .u64 0, .int .u64 0, .int .u64 0, .int .u64 0, .int .u64 0, .int .u64 0], .int .i64 1]) ∧ Only none_ w w' := add_out (Ta.of [3, 2, 0, 1, 0, 0, 0, 0, 0, 0]) 10 1 (by decide) w
theorem k_snd1 (w : World) : Calls Try.prog 15 #[.agg #[.int .u64 3, .int .u64 2, .int .u64 0, .int .u64 1, .int .u64 0, .int .u64 0, .int .u64 0, .int .u64 0, .int .u64 0, .int .u64 0], .int .u64 0, .int .u64 0] w fun e w' => e = .returned (.tuple #[.bool true, .bool true]) ∧ Only none_ w w' := by
  have h := sound_any (Ta.of [3, 2, 0, 1, 0, 0, 0, 0, 0, 0]) (Ta.of_wf (by decide)) 0 0 (by decide) (by decide) w
  rw [show (Ta.of [3, 2, 0, 1, 0, 0, 0, 0, 0, 0]).adds = true by decide, show (Ta.of [3, 2, 0, 1, 0, 0, 0, 0, 0, 0]).gone 0 0 = true by decide] at h
  exact h
theorem k_snd2 (w : World) : Calls Try.prog 15 #[.agg #[.int .u64 3, .int .u64 2, .int .u64 0, .int .u64 0, .int .u64 0, .int .u64 0, .int .u64 0, .int .u64 0, .int .u64 0, .int .u64 0], .int .u64 0, .int .u64 0] w fun e w' => e = .returned (.tuple #[.bool false, .bool true]) ∧ Only none_ w w' := by
  have h := sound_any (Ta.of [3, 2, 0, 0, 0, 0, 0, 0, 0, 0]) (Ta.of_wf (by decide)) 0 0 (by decide) (by decide) w
  rw [show (Ta.of [3, 2, 0, 0, 0, 0, 0, 0, 0, 0]).adds = false by decide, show (Ta.of [3, 2, 0, 0, 0, 0, 0, 0, 0, 0]).gone 0 0 = true by decide] at h
  exact h
theorem k_snd3 (w : World) : Calls Try.prog 15 #[.agg #[.int .u64 3, .int .u64 2, .int .u64 0, .int .u64 1, .int .u64 0, .int .u64 0, .int .u64 0, .int .u64 0, .int .u64 0, .int .u64 0], .int .u64 0, .int .u64 1] w fun e w' => e = .returned (.tuple #[.bool true, .bool false]) ∧ Only none_ w w' := by
  have h := sound_any (Ta.of [3, 2, 0, 1, 0, 0, 0, 0, 0, 0]) (Ta.of_wf (by decide)) 0 1 (by decide) (by decide) w
  rw [show (Ta.of [3, 2, 0, 1, 0, 0, 0, 0, 0, 0]).adds = true by decide, show (Ta.of [3, 2, 0, 1, 0, 0, 0, 0, 0, 0]).gone 0 1 = false by decide] at h
  exact h
theorem k_held (w : World) : Calls Try.prog 13 #[.agg #[.int .u64 3, .int .u64 2, .int .u64 0, .int .u64 1, .int .u64 0, .int .u64 0, .int .u64 0, .int .u64 0, .int .u64 0, .int .u64 0]] w fun e w' => e = .returned (.bool false) ∧ Only none_ w w' := by
  have h := isheld_any (Ta.of [3, 2, 0, 1, 0, 0, 0, 0, 0, 0]) w
  rw [show (Ta.of [3, 2, 0, 1, 0, 0, 0, 0, 0, 0]).isHeld = false by decide] at h
  exact h
theorem k_counts (w : World) : Calls Try.prog 11 #[.agg #[.int .u64 3, .int .u64 2, .int .u64 0, .int .u64 1, .int .u64 0, .int .u64 0, .int .u64 0, .int .u64 0, .int .u64 0, .int .u64 0]] w fun e w' => e = .returned (.agg #[.int .u64 3, .int .u64 2, .int .u64 0, .int .u64 1, .int .u64 0, .int .u64 0, .int .u64 0, .int .u64 0, .int .u64 0, .int .u64 0]) ∧ Only none_ w w' := counts_any (Ta.of [3, 2, 0, 1, 0, 0, 0, 0, 0, 0]) w
theorem k_sum (w : World) : Calls Try.prog 17 #[.agg #[.int .u64 3, .int .u64 2, .int .u64 0, .int .u64 1, .int .u64 0, .int .u64 0, .int .u64 0, .int .u64 0, .int .u64 0, .int .u64 0], .agg #[.int .u64 3, .int .u64 2, .int .u64 0, .int .u64 1, .int .u64 0, .int .u64 0, .int .u64 0, .int .u64 0, .int .u64 0, .int .u64 0]] w fun e w' => e = .returned (.agg #[.int .u64 6, .int .u64 4, .int .u64 0, .int .u64 2, .int .u64 0, .int .u64 0, .int .u64 0, .int .u64 0, .int .u64 0, .int .u64 0]) ∧ Only none_ w w' := by
  have h := sum_any (Ta.of [3, 2, 0, 1, 0, 0, 0, 0, 0, 0]) (Ta.of [3, 2, 0, 1, 0, 0, 0, 0, 0, 0]) (Ta.of_wf (by decide)) (Ta.of_wf (by decide)) w
  rw [Ta.val_congr (a := (Ta.of [3, 2, 0, 1, 0, 0, 0, 0, 0, 0]).sum (Ta.of [3, 2, 0, 1, 0, 0, 0, 0, 0, 0])) (b := (Ta.of [6, 4, 0, 2, 0, 0, 0, 0, 0, 0])) (by decide)] at h
  exact h
theorem eq_u (w : World) : (Op.equalIn 10000 24 (.agg #[.int .u64 3, .int .u64 2, .int .u64 0, .int .u64 1, .int .u64 0, .int .u64 0, .int .u64 0, .int .u64 0, .int .u64 0, .int .u64 0]) (.agg #[.int .u64 3, .int .u64 2, .int .u64 0, .int .u64 1, .int .u64 0, .int .u64 0, .int .u64 0, .int .u64 0, .int .u64 0, .int .u64 0])).run Try.prog w = .ok true w := by simp [go_sem]

set_option maxHeartbeats 4000000 in
theorem awake_any (w : World) : Calls Try.prog 8 #[] w fun e w' => e = .returned (.bool true) ∧ Only none_ w w' := by
  have E := eq_u
  have FX := field_ta
  have IX := fun w => index_co #[.int .u64 3, .int .u64 2, .int .u64 0, .int .u64 1, .int .u64 0, .int .u64 0, .int .u64 0, .int .u64 0, .int .u64 0, .int .u64 0] 3 1 (by omega) rfl w
  have IX : ∀ w, (Instr.index 31 (.agg #[.int .u64 3, .int .u64 2, .int .u64 0, .int .u64 1, .int .u64 0, .int .u64 0, .int .u64 0, .int .u64 0, .int .u64 0, .int .u64 0]) (.int .i64 3)).run Try.prog w = .ok (.int .u64 1) w := IX
  have K1 := Lib.hid k_add1
  have K2 := Lib.hid k_add2
  have K3 := Lib.hid k_add3
  have K4 := Lib.hid k_add4
  have S1 := Lib.hid k_snd1
  have S2 := Lib.hid k_snd2
  have S3 := Lib.hid k_snd3
  have H1 := Lib.hid k_held
  have H2 := Lib.hid k_counts
  have H3 := Lib.hid k_sum
  go_enter Try.func8, Try.ntmps8
  go_wp2_with fail
  (with_reducible refine (K1.out _).mono ?_)
  rintro e w1 ⟨rfl, o1⟩
  go_upto_region 2 with fail
  obtain ⟨n1, hn1⟩ : ∃ n1, n1 = w1.heap.size := ⟨_, rfl⟩
  have R1 := Row.fresh w1 24 #[.int .u64 3, .int .u64 0, .int .u64 0, .int .u64 0, .int .u64 0, .int .u64 0, .int .u64 0, .int .u64 0, .int .u64 0, .int .u64 0]
  have O1 := Lib.hid (o1.alloc (.cells #[.int .u64 3, .int .u64 0, .int .u64 0, .int .u64 0, .int .u64 0, .int .u64 0, .int .u64 0, .int .u64 0, .int .u64 0, .int .u64 0] 24))
  rw [← hn1] at R1
  have n1w : w.heap.size ≤ n1 := by rw [hn1]; exact o1.size
  rw [← hn1]
  clear hn1 o1
  generalize w1.alloc (.cells #[.int .u64 3, .int .u64 0, .int .u64 0, .int .u64 0, .int .u64 0, .int .u64 0, .int .u64 0, .int .u64 0, .int .u64 0, .int .u64 0] 24) = w2 at *
  obtain ⟨c0, c1, c2, c3, c4, c5, c6, c7, c8, c9⟩ := R1.ten
  go_wp2_with fail
  (with_reducible refine (K2.out _).mono ?_)
  rintro e w3 ⟨rfl, o3⟩
  have R3 := o3.still R1
  have O3 := Lib.hid (O1.out.same o3)
  clear c0 c1 c2 c3 c4 c5 c6 c7 c8 c9 R1 o3 O1
  obtain ⟨c0, c1, c2, c3, c4, c5, c6, c7, c8, c9⟩ := R3.ten
  have zf := R3.frozen
  go_upto_region 3 with fail
  have R4 := R3.put_ten (.int .u64 3) (.int .u64 2) (.int .u64 0) (.int .u64 0) (.int .u64 0) (.int .u64 0) (.int .u64 0) (.int .u64 0) (.int .u64 0) (.int .u64 0)
  have o4 := only_ten w3 n1 3 2 0 0 0 0 0 0 0 0
  have O4 := Lib.hid (O3.out.trans (o4.more (S' := fun k => w.heap.size ≤ k) (fun _ _ e => by rw [e]; exact n1w)) (fun i hi s => absurd hi (by omega)))
  clear c0 c1 c2 c3 c4 c5 c6 c7 c8 c9 zf R3 O3 o4
  generalize ((((((((((w3.setCell ⟨n1, 0, none⟩ (.int .u64 3)).setCell ⟨n1, 1, none⟩ (.int .u64 2)).setCell ⟨n1, 2, none⟩ (.int .u64 0)).setCell ⟨n1, 3, none⟩ (.int .u64 0)).setCell ⟨n1, 4, none⟩ (.int .u64 0)).setCell ⟨n1, 5, none⟩ (.int .u64 0)).setCell ⟨n1, 6, none⟩ (.int .u64 0)).setCell ⟨n1, 7, none⟩ (.int .u64 0)).setCell ⟨n1, 8, none⟩ (.int .u64 0)).setCell ⟨n1, 9, none⟩ (.int .u64 0)) = w4 at *
  obtain ⟨c0, c1, c2, c3, c4, c5, c6, c7, c8, c9⟩ := R4.ten
  go_wp2_with fail
  (with_reducible refine (K3.out _).mono ?_)
  rintro e w5 ⟨rfl, o5⟩
  have R5 := Lib.hid ((o5.still R4).alloc (.cells #[.int .u64 3, .int .u64 2, .int .u64 0, .int .u64 1, .int .u64 0, .int .u64 0, .int .u64 0, .int .u64 0, .int .u64 0, .int .u64 0] 24))
  have O5 := Lib.hid ((O4.out.same o5).alloc (.cells #[.int .u64 3, .int .u64 2, .int .u64 0, .int .u64 1, .int .u64 0, .int .u64 0, .int .u64 0, .int .u64 0, .int .u64 0, .int .u64 0] 24))
  clear c0 c1 c2 c3 c4 c5 c6 c7 c8 c9 R4 O4 o5
  go_upto_region 4 with fail
  have Q5 := Lib.hid (Row.fresh w5 24 #[.int .u64 3, .int .u64 2, .int .u64 0, .int .u64 1, .int .u64 0, .int .u64 0, .int .u64 0, .int .u64 0, .int .u64 0, .int .u64 0])
  generalize w5.alloc (.cells #[.int .u64 3, .int .u64 2, .int .u64 0, .int .u64 1, .int .u64 0, .int .u64 0, .int .u64 0, .int .u64 0, .int .u64 0, .int .u64 0] 24) = w6 at *
  generalize w5.heap.size = n2 at *
  obtain ⟨c0, c1, c2, c3, c4, c5, c6, c7, c8, c9⟩ := Q5.out.ten
  go_wp2_with fail
  (with_reducible refine (K4.out _).mono ?_)
  rintro e w7 ⟨rfl, o7⟩
  have R7 := Lib.hid ((o7.still R5.out).alloc (.cells #[.int .u64 3, .int .u64 2, .int .u64 0, .int .u64 1, .int .u64 0, .int .u64 0, .int .u64 0, .int .u64 0, .int .u64 0, .int .u64 0] 24))
  have Q7 := Lib.hid ((o7.still Q5.out).alloc (.cells #[.int .u64 3, .int .u64 2, .int .u64 0, .int .u64 1, .int .u64 0, .int .u64 0, .int .u64 0, .int .u64 0, .int .u64 0, .int .u64 0] 24))
  have O7 := Lib.hid ((O5.out.same o7).alloc (.cells #[.int .u64 3, .int .u64 2, .int .u64 0, .int .u64 1, .int .u64 0, .int .u64 0, .int .u64 0, .int .u64 0, .int .u64 0, .int .u64 0] 24))
  clear c0 c1 c2 c3 c4 c5 c6 c7 c8 c9 R5 Q5 O5 o7
  go_upto_region 5 with fail
  have P7 := Lib.hid (Row.fresh w7 24 #[.int .u64 3, .int .u64 2, .int .u64 0, .int .u64 1, .int .u64 0, .int .u64 0, .int .u64 0, .int .u64 0, .int .u64 0, .int .u64 0])
  generalize w7.alloc (.cells #[.int .u64 3, .int .u64 2, .int .u64 0, .int .u64 1, .int .u64 0, .int .u64 0, .int .u64 0, .int .u64 0, .int .u64 0, .int .u64 0] 24) = w8 at *
  generalize w7.heap.size = n3 at *
  obtain ⟨c0, c1, c2, c3, c4, c5, c6, c7, c8, c9⟩ := Q7.out.ten
  go_wp2_with fail
  (with_reducible refine (S1.out _).mono ?_)
  rintro e w9 ⟨rfl, o9⟩
  clear c0 c1 c2 c3 c4 c5 c6 c7 c8 c9
  have R9 := Lib.hid (o9.still R7.out)
  have Q9 := Lib.hid (o9.still Q7.out)
  have P9 := Lib.hid (o9.still P7.out)
  have O9 := Lib.hid (O7.out.same o9)
  clear R7 Q7 P7 O7 o9
  go_upto_region 6 with fail
  obtain ⟨c0, c1, c2, c3, c4, c5, c6, c7, c8, c9⟩ := R9.out.ten
  go_wp2_with fail
  (with_reducible refine (S2.out _).mono ?_)
  rintro e w10 ⟨rfl, o10⟩
  clear c0 c1 c2 c3 c4 c5 c6 c7 c8 c9
  have Q10 := Lib.hid (o10.still Q9.out)
  have P10 := Lib.hid (o10.still P9.out)
  have O10 := Lib.hid (O9.out.same o10)
  clear R9 Q9 P9 O9 o10
  go_upto_region 7 with fail
  obtain ⟨c0, c1, c2, c3, c4, c5, c6, c7, c8, c9⟩ := Q10.out.ten
  go_wp2_with fail
  (with_reducible refine (S3.out _).mono ?_)
  rintro e w11 ⟨rfl, o11⟩
  clear c0 c1 c2 c3 c4 c5 c6 c7 c8 c9
  have Q11 := Lib.hid (o11.still Q10.out)
  have P11 := Lib.hid (o11.still P10.out)
  have O11 := Lib.hid (O10.out.same o11)
  clear Q10 P10 O10 o11
  go_upto_region 8 with fail
  obtain ⟨c0, c1, c2, c3, c4, c5, c6, c7, c8, c9⟩ := Q11.out.ten
  obtain ⟨d0, d1, d2, d3, d4, d5, d6, d7, d8, d9⟩ := P11.out.ten
  go_wp2_with fail
  (with_reducible refine (H1.out _).mono ?_)
  rintro e w12 ⟨rfl, o12⟩
  clear c0 c1 c2 c3 c4 c5 c6 c7 c8 c9 d0 d1 d2 d3 d4 d5 d6 d7 d8 d9
  have Q12 := Lib.hid (o12.still Q11.out)
  have O12 := Lib.hid (O11.out.same o12)
  clear Q11 P11 O11 o12
  obtain ⟨c0, c1, c2, c3, c4, c5, c6, c7, c8, c9⟩ := Q12.out.ten
  go_wp2_with fail
  (with_reducible refine (H2.out _).mono ?_)
  rintro e w13 ⟨rfl, o13⟩
  clear c0 c1 c2 c3 c4 c5 c6 c7 c8 c9
  have Q13 := Lib.hid (o13.still Q12.out)
  have O13 := Lib.hid (O12.out.same o13)
  clear Q12 O12 o13
  obtain ⟨c0, c1, c2, c3, c4, c5, c6, c7, c8, c9⟩ := Q13.out.ten
  go_wp2_with fail
  (with_reducible refine (H3.out _).mono ?_)
  rintro e w14 ⟨rfl, o14⟩
  go_wp2_with fail
  go_ret
  exact ⟨rfl, O13.out.same o14⟩
end Go.Proofs.Ytofmbipedljdkaa

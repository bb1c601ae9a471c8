/- The fixed answers that every statement of layer 4 asks first: all are as asked. -/
import Derived.Test.YtllbdkjbcadeoaaFine
import Derived.Test.YtllbdkjbcadeoaaArr
namespace Go.Proofs.Ytllbdkjbcadeoaa
open Go.RowKit
set_option linter.unusedVariables false

theorem fine_two (f g : Fr) (h : f.Fine 1000000) (k : g.Fine 1000000) : Fine 1000000 [f, g] := fun x hx => by
  simp at hx
  rcases hx with rfl | rfl
  · exact h
  · exact k
theorem fine_a : Fr.Fine 1000000 ⟨0, 0, 0, 0, 0⟩ := ⟨by decide, by decide, by decide, by decide, by decide, by decide, fun _ => ⟨rfl, rfl, rfl⟩, fun h => by simp at h⟩
theorem fine_b : Fr.Fine 1000000 ⟨1, 9, 1, 0, 0⟩ := ⟨by decide, by decide, by decide, by decide, by decide, by decide, fun h => by simp at h, fun h => by simp at h⟩
theorem fine_c : Fr.Fine 1000000 ⟨3, 9, 1, 1, 5⟩ := ⟨by decide, by decide, by decide, by decide, by decide, by decide, fun h => by simp at h, fun h => by decide⟩
theorem fine_d : Fr.Fine 1000000 ⟨0, 0, 1, 0, 0⟩ := ⟨by decide, by decide, by decide, by decide, by decide, by decide, fun _ => ⟨rfl, rfl, rfl⟩, fun h => by simp at h⟩

theorem fine_e : Fr.Fine 1000000 ⟨1, 9, 1, 1, 0⟩ := ⟨by decide, by decide, by decide, by decide, by decide, by decide, fun h => by simp at h, fun h => by simp at h⟩
theorem new_two (w : World) : Calls Try.prog 9 #[.int .i64 2] w fun e w' => ∃ p b, e = .returned (.tuple #[.pointer (some ⟨p, 0, none⟩), .int .i64 0]) ∧ PoolIs w' p b (fresh 2) ∧ w.heap.size ≤ p ∧ w.heap.size ≤ b ∧ Only none_ w w' := new_yes 2 w (by decide) (by decide)
theorem aw1 (p b : Nat) (w : World) (h : PoolIs w p b (fresh 2)) : Calls Try.prog 17 #[.pointer (some ⟨p, 0, none⟩), .int .i64 9] w fun e w' => e = .returned (.tuple #[.int .i64 0, .int .i64 0]) ∧ PoolIs w' p b ([⟨1, 9, 1, 0, 0⟩, ⟨0, 0, 0, 0, 0⟩]) ∧ Only (fun k => k = b) w w' := by
  have H := take_any p b (fresh 2) 9 w h (fine_two _ _ fine_a fine_a)
  rw [show takeS (fresh 2) 9 = (0, 0, [⟨1, 9, 1, 0, 0⟩, ⟨0, 0, 0, 0, 0⟩]) from rfl] at H
  exact H
theorem aw2 (p b : Nat) (w : World) (h : PoolIs w p b ([⟨1, 9, 1, 0, 0⟩, ⟨0, 0, 0, 0, 0⟩])) : Calls Try.prog 19 #[.pointer (some ⟨p, 0, none⟩), .int .i64 0, .int .i64 1] w fun e w' => e = .returned (.int .i64 0) ∧ PoolIs w' p b ([⟨1, 9, 1, 1, 0⟩, ⟨0, 0, 0, 0, 0⟩]) ∧ Only (fun k => k = b) w w' := by
  have H := pin_any p b [⟨1, 9, 1, 0, 0⟩, ⟨0, 0, 0, 0, 0⟩] 0 1 w h (fine_two _ _ fine_b fine_a)
  rw [show pinS [⟨1, 9, 1, 0, 0⟩, ⟨0, 0, 0, 0, 0⟩] 0 1 = (0, [⟨1, 9, 1, 1, 0⟩, ⟨0, 0, 0, 0, 0⟩]) from rfl] at H
  exact H
theorem aw3 (p b : Nat) (w : World) (h : PoolIs w p b ([⟨1, 9, 1, 1, 0⟩, ⟨0, 0, 0, 0, 0⟩])) : Calls Try.prog 20 #[.pointer (some ⟨p, 0, none⟩), .int .i64 0, .int .u64 5] w fun e w' => e = .returned (.int .i64 0) ∧ PoolIs w' p b ([⟨2, 9, 1, 1, 5⟩, ⟨0, 0, 0, 0, 0⟩]) ∧ Only (fun k => k = b) w w' := by
  have H := fill_any p b [⟨1, 9, 1, 1, 0⟩, ⟨0, 0, 0, 0, 0⟩] 0 5 w h
  rw [show fillS [⟨1, 9, 1, 1, 0⟩, ⟨0, 0, 0, 0, 0⟩] 0 5 = (0, [⟨2, 9, 1, 1, 5⟩, ⟨0, 0, 0, 0, 0⟩]) from rfl] at H
  exact H
theorem aw4 (p b : Nat) (w : World) (h : PoolIs w p b ([⟨2, 9, 1, 1, 5⟩, ⟨0, 0, 0, 0, 0⟩])) : Calls Try.prog 18 #[.pointer (some ⟨p, 0, none⟩), .int .i64 0] w fun e w' => e = .returned (.int .i64 0) ∧ PoolIs w' p b ([⟨3, 9, 1, 1, 5⟩, ⟨0, 0, 0, 0, 0⟩]) ∧ Only (fun k => k = b) w w' := by
  have H := doom_any p b [⟨2, 9, 1, 1, 5⟩, ⟨0, 0, 0, 0, 0⟩] 0 w h
  rw [show doomS [⟨2, 9, 1, 1, 5⟩, ⟨0, 0, 0, 0, 0⟩] 0 = (0, [⟨3, 9, 1, 1, 5⟩, ⟨0, 0, 0, 0, 0⟩]) from rfl] at H
  exact H
theorem aw5 (p b : Nat) (w : World) (h : PoolIs w p b ([⟨3, 9, 1, 1, 5⟩, ⟨0, 0, 0, 0, 0⟩])) : Calls Try.prog 21 #[.pointer (some ⟨p, 0, none⟩), .int .i64 0, .int .i64 1] w fun e w' => e = .returned (.int .i64 0) ∧ PoolIs w' p b ([⟨0, 0, 1, 0, 0⟩, ⟨0, 0, 0, 0, 0⟩]) ∧ Only (fun k => k = b) w w' := by
  have H := unpin_any p b [⟨3, 9, 1, 1, 5⟩, ⟨0, 0, 0, 0, 0⟩] 0 1 w h (fine_two _ _ fine_c fine_a)
  rw [show unpinS [⟨3, 9, 1, 1, 5⟩, ⟨0, 0, 0, 0, 0⟩] 0 1 = (0, [⟨0, 0, 1, 0, 0⟩, ⟨0, 0, 0, 0, 0⟩]) from rfl] at H
  exact H
theorem aw6 (p b : Nat) (w : World) (h : PoolIs w p b [⟨3, 9, 1, 1, 5⟩, ⟨0, 0, 0, 0, 0⟩]) : Calls Try.prog 16 #[.pointer (some ⟨p, 0, none⟩), .int .i64 0] w fun e w' => e = .returned (.tuple #[.agg #[.int .i64 3, .int .i64 9, .int .i64 1, .int .i64 1, .int .u64 5], .bool true]) ∧ Only none_ w w' := frame_yes p b _ 0 ⟨3, 9, 1, 1, 5⟩ w h rfl
theorem aw7 (p b : Nat) (w : World) (h : PoolIs w p b [⟨0, 0, 1, 0, 0⟩, ⟨0, 0, 0, 0, 0⟩]) : Calls Try.prog 16 #[.pointer (some ⟨p, 0, none⟩), .int .i64 0] w fun e w' => e = .returned (.tuple #[.agg #[.int .i64 0, .int .i64 0, .int .i64 1, .int .i64 0, .int .u64 0], .bool true]) ∧ Only none_ w w' := frame_yes p b _ 0 ⟨0, 0, 1, 0, 0⟩ w h rfl
theorem aw8 (p b : Nat) (w : World) (h : PoolIs w p b [⟨0, 0, 1, 0, 0⟩, ⟨0, 0, 0, 0, 0⟩]) : Calls Try.prog 12 #[.pointer (some ⟨p, 0, none⟩)] w fun e w' => e = .returned (.agg #[.int .i64 2, .int .i64 0, .int .i64 0, .int .i64 0]) ∧ Only none_ w w' := count_any p b _ w h (fine_two _ _ fine_d fine_a)
theorem aw9 (p b : Nat) (w : World) (h : PoolIs w p b [⟨0, 0, 1, 0, 0⟩, ⟨0, 0, 0, 0, 0⟩]) : Calls Try.prog 14 #[.pointer (some ⟨p, 0, none⟩)] w fun e w' => e = .returned (.int .i64 0) ∧ Only none_ w w' := pins_any p b _ w h (fine_two _ _ fine_d fine_a)

set_option maxHeartbeats 4000000 in
set_option maxRecDepth 100000 in
theorem awake_any (w : World) : Calls Try.prog 8 #[] w fun e w' => e = .returned (.bool true) ∧ Below w.heap.size w w' := by
  have qa := run_eq_arr4 9998
  go_enter Try.func8, Try.ntmps8
  go_wp2_with fail
  (with_reducible refine (new_two _).mono ?_)
  rintro e w1 ⟨p, b, rfl, h1, kp, kb, o1⟩
  have H1 := Lib.hid h1
  have O1 := Lib.hid (o1.below (Nat.le_refl _) (fun _ _ s => s))
  clear h1 o1
  go_wp2_with fail
  (with_reducible refine (new_no 0 _ (.inl (by decide))).mono ?_)
  rintro e w2 ⟨rfl, o2⟩
  have H2 := Lib.hid (H1.out.still o2)
  have O2 := Lib.hid (Only.below_to O1.out o2 (Nat.le_refl _) (fun _ _ s => s))
  clear H1 O1 o2
  go_wp2_with fail
  (with_reducible refine (aw1 p b _ H2.out).mono ?_)
  rintro e w3 ⟨rfl, h, o⟩
  have H3 := Lib.hid h
  have O3 := Lib.hid (Only.below_to O2.out o (Nat.le_refl _) (fun i hi => by omega))
  clear h o H2 O2
  go_wp2_with fail
  (with_reducible refine (aw2 p b _ H3.out).mono ?_)
  rintro e w4 ⟨rfl, h, o⟩
  have H4 := Lib.hid h
  have O4 := Lib.hid (Only.below_to O3.out o (Nat.le_refl _) (fun i hi => by omega))
  clear h o H3 O3
  go_wp2_with fail
  (with_reducible refine (aw3 p b _ H4.out).mono ?_)
  rintro e w5 ⟨rfl, h, o⟩
  have H5 := Lib.hid h
  have O5 := Lib.hid (Only.below_to O4.out o (Nat.le_refl _) (fun i hi => by omega))
  clear h o H4 O4
  go_wp2_with fail
  (with_reducible refine (aw4 p b _ H5.out).mono ?_)
  rintro e w6 ⟨rfl, h, o⟩
  have H6 := Lib.hid h
  have O6 := Lib.hid (Only.below_to O5.out o (Nat.le_refl _) (fun i hi => by omega))
  clear h o H5 O5
  go_wp2_with fail
  (with_reducible refine (aw6 p b _ H6.out).mono ?_)
  rintro e w7 ⟨rfl, o⟩
  have H7 := Lib.hid (H6.out.still o)
  have O7 := Lib.hid (Only.below_to O6.out o (Nat.le_refl _) (fun _ _ s => s))
  clear o H6 O6
  have X8 := Lib.hid (Row.fresh w7 38 #[.int .i64 3, .int .i64 9, .int .i64 1, .int .i64 1, .int .u64 5])
  have H8 := Lib.hid (H7.out.still ((Only.refl none_ w7).alloc (.cells #[.int .i64 3, .int .i64 9, .int .i64 1, .int .i64 1, .int .u64 5] 38)))
  have O8 := Lib.hid (O7.out.alloc O7.out.size (.cells #[.int .i64 3, .int .i64 9, .int .i64 1, .int .i64 1, .int .u64 5] 38))
  have bl := H7.out.bl
  have sz := O7.out.size
  clear H7 O7
  go_wp2_with fail
  generalize w7.alloc (.cells #[.int .i64 3, .int .i64 9, .int .i64 1, .int .i64 1, .int .u64 5] 38) = w8 at *
  generalize w7.heap.size = nx at *
  (with_reducible refine (aw5 p b _ H8.out).mono ?_)
  rintro e w9 ⟨rfl, h, o⟩
  have H9 := Lib.hid h
  have O9 := Lib.hid (Only.below_to O8.out o (Nat.le_refl _) (fun i hi => by omega))
  have X9 := Lib.hid (o.row X8.out (by omega))
  clear h o H8 O8 X8
  go_wp2_with fail
  (with_reducible refine (aw7 p b _ H9.out).mono ?_)
  rintro e w10 ⟨rfl, o⟩
  have H10 := Lib.hid (H9.out.still o)
  have O10 := Lib.hid (Only.below_to O9.out o (Nat.le_refl _) (fun _ _ s => s))
  have X10 := Lib.hid (o.still X9.out)
  clear o H9 O9 X9
  have X11 := Lib.hid (X10.out.alloc (.cells #[.int .i64 0, .int .i64 0, .int .i64 1, .int .i64 0, .int .u64 0] 38))
  have Y11 := Lib.hid (Row.fresh w10 38 #[.int .i64 0, .int .i64 0, .int .i64 1, .int .i64 0, .int .u64 0])
  have H11 := Lib.hid (H10.out.still ((Only.refl none_ w10).alloc (.cells #[.int .i64 0, .int .i64 0, .int .i64 1, .int .i64 0, .int .u64 0] 38)))
  have O11 := Lib.hid (O10.out.alloc O10.out.size (.cells #[.int .i64 0, .int .i64 0, .int .i64 1, .int .i64 0, .int .u64 0] 38))
  have q0 := fun o => (X10.out.alloc o).five.1
  have q1 := fun o => (X10.out.alloc o).five.2.1
  have q2 := fun o => (X10.out.alloc o).five.2.2.1
  have q3 := fun o => (X10.out.alloc o).five.2.2.2.1
  have q4 := fun o => (X10.out.alloc o).five.2.2.2.2
  clear H10 O10 X10 X11 Y11
  go_wp2_with fail
  (with_reducible refine (aw8 p b _ H11.out).mono ?_)
  rintro e w12 ⟨rfl, o⟩
  have H12 := Lib.hid (H11.out.still o)
  have O12 := Lib.hid (Only.below_to O11.out o (Nat.le_refl _) (fun _ _ s => s))
  clear o H11 O11 q0 q1 q2 q3 q4
  go_wp2_with fail
  (with_reducible refine (aw9 p b _ H12.out).mono ?_)
  rintro e w13 ⟨rfl, o⟩
  have O13 := Lib.hid (Only.below_to O12.out o (Nat.le_refl _) (fun _ _ s => s))
  clear o
  go_wp2_with fail
  go_ret
  exact ⟨rfl, O13.out⟩
end Go.Proofs.Ytllbdkjbcadeoaa

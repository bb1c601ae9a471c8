/- awake answers true: fixed answers, step by step. -/
import Derived.Test.YtgbccaplmafgkaaRefFront
import Derived.Test.YtgbccaplmafgkaaRefQ
import Derived.Test.YtgbccaplmafgkaaRingNew
namespace Go.Proofs.Ytgbccaplmafgkaa
open Go.RowKit
set_option linter.unusedVariables false

def AK (k : Nat) : Sh := ⟨3, 1, (List.range k).reverse, [], [false, false, false]⟩
def A4 : Sh := ⟨3, 1, [0, 2, 1], [], [false, false, false]⟩
def A5 : Sh := ⟨3, 1, [0, 2, 1], [], [false, true, false]⟩
def A6 : Sh := ⟨3, 1, [0, 2], [], [false, false, false]⟩
theorem ak_more : ∀ k : Fin 3, (AK k.val).frontC 0 (k.val : Nat) = 0 ∧ (AK k.val).frontS 0 (k.val : Nat) = AK (k.val + 1) := by decide +kernel
theorem q3 : (AK 3).listOf 0 = [2, 1, 0] := by decide +kernel
theorem q4 : (AK 3).frontS 0 0 = A4 ∧ (AK 3).frontC 0 0 = 0 := by decide +kernel
theorem q5 : A4.holdS 1 true = A5 := by decide +kernel
theorem q6 : A5.lastOk 0 = some 2 ∧ (A5.revL 0).length = 3 ∧ A5.heldL = [1] := by decide +kernel
theorem q7 : A5.dropS 1 = A6 ∧ A5.liesC 1 = 0 ∧ A6.dropS 1 = A6 ∧ A6.liesC 1 = 3 ∧ A6.dropS 3 = A6 ∧ A6.liesC 3 = 1 := by decide +kernel
theorem q8 : (A6.revL 0).length = 2 ∧ A6.heldL = [] := by decide +kernel
theorem q9 : A4.liesC 1 = 0 ∧ A4.lst 1 = 0 ∧ (A4.revL 0).idxOf 1 = 0 := by decide +kernel
theorem q10 : A4.whereV 1 = .tuple #[.int .i64 0, .bool true, .bool true] := by
  unfold Sh.whereV
  rw [if_pos q9.1, show (1 : Int).toNat = 1 from rfl, q9.2.1, q9.2.2]
  rfl

theorem new_31 (w : World) : Calls Try.prog 9 #[.int .i64 3, .int .i64 1] w (MakesSh 3 1 w) := new_yes 3 1 w (by decide) (by decide) (by decide)
theorem new_34 (w : World) : Calls Try.prog 9 #[.int .i64 3, .int .i64 4] w fun e w' => e = .returned (.tuple #[.pointer none, .int .i64 1]) ∧ w = w' := new_no 3 4 w (by omega)
theorem front_k (p b k : Nat) (w : World) (h : Lies w p b (AK k)) (hk : k < 3) : Calls Try.prog 20 #[.pointer (some ⟨p, 0, none⟩), .int .i64 0, .int .i64 k] w fun e w' => e = .returned (.int .i64 0) ∧ Lies w' p b (AK (k + 1)) ∧ Only (fun k => k = b) w w' := by
  have := front_any p b _ 0 k w h
  have q := ak_more ⟨k, hk⟩
  simp only at q
  rwa [q.1, q.2] at this
theorem front_0 (p b : Nat) (w : World) (h : Lies w p b (AK 3)) : Calls Try.prog 20 #[.pointer (some ⟨p, 0, none⟩), .int .i64 0, .int .i64 0] w fun e w' => e = .returned (.int .i64 0) ∧ Lies w' p b A4 ∧ Only (fun k => k = b) w w' := by
  have := front_any p b _ 0 0 w h
  rwa [q4.1, q4.2] at this
theorem list_0 (p b : Nat) (w : World) (h : Lies w p b (AK 3)) : Calls Try.prog 14 #[.pointer (some ⟨p, 0, none⟩), .int .i64 0] w fun e w' => ∃ v, e = .returned v ∧ OwnsInts w' w.heap.size v [2, 1, 0] ∧ Below w.heap.size w w' := by
  have := list_any p b _ 0 w h
  rw [q3] at this
  exact this
theorem where_1 (p b : Nat) (w : World) (h : Lies w p b A4) : Calls Try.prog 15 #[.pointer (some ⟨p, 0, none⟩), .int .i64 1] w fun e w' => e = .returned (.tuple #[.int .i64 0, .bool true, .bool true]) ∧ Below w.heap.size w w' := by
  have := where_any p b _ 1 w h
  rwa [q10] at this
theorem hold_1 (p b : Nat) (w : World) (h : Lies w p b A4) : Calls Try.prog 23 #[.pointer (some ⟨p, 0, none⟩), .int .i64 1, .bool true] w fun e w' => e = .returned (.int .i64 0) ∧ Lies w' p b A5 ∧ Only (fun k => k = b) w w' := by
  have := hold_any p b _ 1 true w h
  rwa [q5, q9.1] at this
theorem last_0 (p b : Nat) (w : World) (h : Lies w p b A5) : Calls Try.prog 17 #[.pointer (some ⟨p, 0, none⟩), .int .i64 0] w fun e w' => e = .returned (.tuple #[.int .i64 2, .bool true]) ∧ Below w.heap.size w w' := by
  have := (callsIn_wide (n := 5)).1 (last_in p b _ 0 w h)
  rwa [q6.1] at this
theorem len_3 (p b : Nat) (w : World) (h : Lies w p b A5) : Calls Try.prog 19 #[.pointer (some ⟨p, 0, none⟩), .int .i64 0] w fun e w' => e = .returned (.int .i64 3) ∧ Below w.heap.size w w' := by
  have := (callsIn_wide (n := 5)).1 (len_in p b _ 0 w h)
  rwa [q6.2.1] at this
theorem held_1 (p b : Nat) (w : World) (h : Lies w p b A5) : Calls Try.prog 18 #[.pointer (some ⟨p, 0, none⟩)] w fun e w' => ∃ v, e = .returned v ∧ OwnsInts w' w.heap.size v [1] ∧ Below w.heap.size w w' := by
  have := held_any p b _ w h
  rw [q6.2.2] at this
  exact this
theorem drop_1 (p b : Nat) (w : World) (h : Lies w p b A5) : Calls Try.prog 24 #[.pointer (some ⟨p, 0, none⟩), .int .i64 1] w fun e w' => e = .returned (.int .i64 0) ∧ Lies w' p b A6 ∧ Only (fun k => k = b) w w' := by
  have := drop_any p b _ 1 w h
  rwa [q7.1, q7.2.1] at this
theorem drop_2 (p b : Nat) (w : World) (h : Lies w p b A6) : Calls Try.prog 24 #[.pointer (some ⟨p, 0, none⟩), .int .i64 1] w fun e w' => e = .returned (.int .i64 3) ∧ Lies w' p b A6 ∧ Only (fun k => k = b) w w' := by
  have := drop_any p b _ 1 w h
  rwa [q7.2.2.1, q7.2.2.2.1] at this
theorem drop_3 (p b : Nat) (w : World) (h : Lies w p b A6) : Calls Try.prog 24 #[.pointer (some ⟨p, 0, none⟩), .int .i64 3] w fun e w' => e = .returned (.int .i64 1) ∧ Lies w' p b A6 ∧ Only (fun k => k = b) w w' := by
  have := drop_any p b _ 3 w h
  rwa [q7.2.2.2.2.1, q7.2.2.2.2.2] at this
theorem len_2 (p b : Nat) (w : World) (h : Lies w p b A6) : Calls Try.prog 19 #[.pointer (some ⟨p, 0, none⟩), .int .i64 0] w fun e w' => e = .returned (.int .i64 2) ∧ Below w.heap.size w w' := by
  have := (callsIn_wide (n := 5)).1 (len_in p b _ 0 w h)
  rwa [q8.1] at this
theorem held_0 (p b : Nat) (w : World) (h : Lies w p b A6) : Calls Try.prog 18 #[.pointer (some ⟨p, 0, none⟩)] w fun e w' => ∃ a c, e = .returned (.slice a 0 c) ∧ Below w.heap.size w w' := by
  have := held_any p b _ w h
  rw [q8.2] at this
  refine this.mono ?_
  rintro e w' ⟨v, rfl, hv, o⟩
  obtain ⟨a, c, rfl, _⟩ := Reads.of_owns hv
  exact ⟨a, c, rfl, o⟩

theorem below_put {w w1 w2 : World} {b : Nat} (h : Below w.heap.size w w1) (o : Only (fun k => k = b) w1 w2) (hb : w.heap.size ≤ b) : Below w.heap.size w w2 :=
  Only.below_to h o (Nat.le_refl _) (fun i hi q => by omega)
theorem below_on {w w1 w2 : World} (h : Below w.heap.size w w1) (o : Below w1.heap.size w1 w2) : Below w.heap.size w w2 := h.trans (o.mono h.size)
theorem Lies.on {w w' : World} {p b : Nat} {s : Sh} (h : Lies w p b s) (o : Below w.heap.size w w') : Lies w' p b s := h.below o h.lt.1 h.lt.2

set_option maxHeartbeats 4000000 in
set_option maxRecDepth 100000 in
theorem awake_any (w : World) : Calls Try.prog 8 #[] w fun e w' => e = .returned (.bool true) ∧ Below w.heap.size w w' := by
  go_enter Try.func8, Try.ntmps8
  go_wp2_with fail
  (with_reducible refine (new_31 _).mono ?_)
  rintro e w1 ⟨p, b, rfl, h1, lp, lb, o1⟩
  have B := Lib.hid (o1.to_below)
  have H := Lib.hid h1
  clear o1 h1
  go_wp2_with fail
  (with_reducible refine (new_34 _).mono ?_)
  rintro e w' ⟨rfl, rfl⟩
  go_wp2_with fail
  go_loopw [5] (fun i wr => ∃ k : Nat, k ≤ 3 ∧ i = .int .i64 k ∧ Lies wr p b (AK k) ∧ Below w.heap.size w wr) (fun i _ => 3 - (intOf i).toNat)
  case atStart => exact ⟨0, by decide, rfl, H.out, B.out⟩
  case round =>
    obtain ⟨k, hk, rfl, h, bl⟩ := hrel
    clear H B
    have H := Lib.hid h
    have B := Lib.hid bl
    clear h bl
    by_cases hlt : k < 3
    · have t : decide ((k : Int) < 3) = true := by simp; omega
      have F := Lib.hid (front_k p b k wr H.out hlt)
      go_wp2_with fail
      (with_reducible refine (F.out).mono ?_)
      rintro e w2 ⟨rfl, h2, o2⟩
      have H2 := Lib.hid h2
      have B2 := Lib.hid (below_put B.out o2 lb)
      clear h2 o2 F
      go_wp2_with fail
      go_roundw
      case rel => exact ⟨k + 1, by omega, by go_num, H2.out, B2.out⟩
      case measure => simp [intOf]; omega
    · have e3 : k = 3 := by omega
      subst e3
      go_wp2_with fail
      (with_reducible refine (list_0 p b _ H.out).mono ?_)
      rintro e w2 ⟨v, rfl, hv, o⟩
      have B2 := Lib.hid (below_on B.out o)
      have H2 := Lib.hid (H.out.on o)
      have V := Lib.hid (Reads.of_owns hv)
      clear hv o
      have IN : Calls Try.prog 22 #[v, .slice (some ⟨w2.heap.size, 0, none⟩) 3 3] (w2.alloc (.cells #[.int .i64 2, .int .i64 1, .int .i64 0] 3)) fun e w' => e = .returned (.bool true) ∧ Only none_ w2 w' := by
        have oa := (Only.refl none_ w2).alloc (.cells #[.int .i64 2, .int .i64 1, .int .i64 0] 3)
        have rf := Row.fresh w2 3 #[.int .i64 2, .int .i64 1, .int .i64 0]
        refine (ints_any v (.slice (some ⟨w2.heap.size, 0, none⟩) 3 3) [2, 1, 0] [2, 1, 0] _ (V.out.still oa) ⟨_, 3, rfl, fun i x hx => ⟨_, 0, rfl, ?_⟩⟩ (by decide) (by decide)).mono ?_
        · rw [Nat.zero_add, rf.cell]
          match i, hx with
          | 0, hx => simp at hx; subst hx; rfl
          | 1, hx => simp at hx; subst hx; rfl
          | 2, hx => simp at hx; subst hx; rfl
        · rintro e w' ⟨rfl, o⟩
          exact ⟨rfl, oa.same o⟩
      have IN := Lib.hid IN
      go_wp2_with fail
      (with_reducible refine (IN.out).mono ?_)
      rintro e w3 ⟨rfl, o⟩
      have B3 := Lib.hid (below_on B2.out o.to_below)
      have H3 := Lib.hid (H2.out.on o.to_below)
      clear o B2 H2 V IN B H
      go_wp2_with fail
      (with_reducible refine (front_0 p b _ H3.out).mono ?_)
      rintro e w4 ⟨rfl, h, o⟩
      have B4 := Lib.hid (below_put B3.out o lb)
      have H4 := Lib.hid h
      clear o h B3 H3
      go_wp2_with fail
      (with_reducible refine (where_1 p b _ H4.out).mono ?_)
      rintro e w5 ⟨rfl, o⟩
      have B5 := Lib.hid (below_on B4.out o)
      have H5 := Lib.hid (H4.out.on o)
      clear o B4 H4
      go_wp2_with fail
      (with_reducible refine (hold_1 p b _ H5.out).mono ?_)
      rintro e w6 ⟨rfl, h, o⟩
      have B6 := Lib.hid (below_put B5.out o lb)
      have H6 := Lib.hid h
      clear o h B5 H5
      go_wp2_with fail
      (with_reducible refine (last_0 p b _ H6.out).mono ?_)
      rintro e w7 ⟨rfl, o⟩
      have B7 := Lib.hid (below_on B6.out o)
      have H7 := Lib.hid (H6.out.on o)
      clear o B6 H6
      go_wp2_with fail
      (with_reducible refine (len_3 p b _ H7.out).mono ?_)
      rintro e w8 ⟨rfl, o⟩
      have B8 := Lib.hid (below_on B7.out o)
      have H8 := Lib.hid (H7.out.on o)
      clear o B7 H7
      go_wp2_with fail
      (with_reducible refine (held_1 p b _ H8.out).mono ?_)
      rintro e w9 ⟨v2, rfl, hv, o⟩
      have B9 := Lib.hid (below_on B8.out o)
      have H9 := Lib.hid (H8.out.on o)
      have V := Lib.hid (Reads.of_owns hv)
      clear hv o B8 H8
      have IN : Calls Try.prog 22 #[v2, .slice (some ⟨w9.heap.size, 0, none⟩) 1 1] (w9.alloc (.cells #[.int .i64 1] 3)) fun e w' => e = .returned (.bool true) ∧ Only none_ w9 w' := by
        have oa := (Only.refl none_ w9).alloc (.cells #[.int .i64 1] 3)
        have rf := Row.fresh w9 3 #[.int .i64 1]
        refine (ints_any v2 (.slice (some ⟨w9.heap.size, 0, none⟩) 1 1) [1] [1] _ (V.out.still oa) ⟨_, 1, rfl, fun i x hx => ⟨_, 0, rfl, ?_⟩⟩ (by decide) (by decide)).mono ?_
        · rw [Nat.zero_add, rf.cell]
          match i, hx with
          | 0, hx => simp at hx; subst hx; rfl
        · rintro e w' ⟨rfl, o⟩
          exact ⟨rfl, oa.same o⟩
      have IN := Lib.hid IN
      go_wp2_with fail
      (with_reducible refine (IN.out).mono ?_)
      rintro e w10 ⟨rfl, o⟩
      have B10 := Lib.hid (below_on B9.out o.to_below)
      have H10 := Lib.hid (H9.out.on o.to_below)
      clear o B9 H9 V IN
      go_wp2_with fail
      (with_reducible refine (drop_1 p b _ H10.out).mono ?_)
      rintro e w11 ⟨rfl, h, o⟩
      have B11 := Lib.hid (below_put B10.out o lb)
      have H11 := Lib.hid h
      clear o h B10 H10
      go_wp2_with fail
      (with_reducible refine (drop_2 p b _ H11.out).mono ?_)
      rintro e w12 ⟨rfl, h, o⟩
      have B12 := Lib.hid (below_put B11.out o lb)
      have H12 := Lib.hid h
      clear o h B11 H11
      go_wp2_with fail
      (with_reducible refine (drop_3 p b _ H12.out).mono ?_)
      rintro e w13 ⟨rfl, h, o⟩
      have B13 := Lib.hid (below_put B12.out o lb)
      have H13 := Lib.hid h
      clear o h B12 H12
      go_wp2_with fail
      (with_reducible refine (len_2 p b _ H13.out).mono ?_)
      rintro e w14 ⟨rfl, o⟩
      have B14 := Lib.hid (below_on B13.out o)
      have H14 := Lib.hid (H13.out.on o)
      clear o B13 H13
      go_wp2_with fail
      (with_reducible refine (held_0 p b _ H14.out).mono ?_)
      rintro e w15 ⟨a9, c9, rfl, o⟩
      have B15 := Lib.hid (below_on B14.out o)
      clear o B14 H14
      go_wp2
      go_ret
      exact ⟨rfl, B15.out⟩
end Go.Proofs.Ytgbccaplmafgkaa

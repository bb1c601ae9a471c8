/- awake answers true: fixed answers, step by step. -/
import Derived.Test.YtajphhalneaihaaInts
namespace Go.Proofs.Ytajphhalneaihaa
open Go.RowKit
set_option linter.unusedVariables false

theorem rise_eq : ∀ {l m : List Int}, l.Pairwise (fun a b => a < b) → m.Pairwise (fun a b => a < b) → (∀ x, x ∈ l ↔ x ∈ m) → l = m
  | [], [], _, _, _ => rfl
  | [], b :: m, _, _, h => by have := (h b).2 List.mem_cons_self; cases this
  | a :: l, [], _, _, h => by have := (h a).1 List.mem_cons_self; cases this
  | a :: l, b :: m, hl, hm, h => by
    rw [List.pairwise_cons] at hl hm
    have e : a = b := by
      rcases List.mem_cons.1 ((h a).1 List.mem_cons_self) with c | c
      · exact c
      · rcases List.mem_cons.1 ((h b).2 List.mem_cons_self) with d | d
        · exact d.symm
        · have := hm.1 a c
          have := hl.1 b d
          omega
    subst e
    rw [rise_eq hl.2 hm.2 (fun x => ?_)]
    constructor
    · intro hx
      rcases List.mem_cons.1 ((h x).1 (List.mem_cons_of_mem _ hx)) with c | c
      · have := hl.1 x hx; omega
      · exact c
    · intro hx
      rcases List.mem_cons.1 ((h x).2 (List.mem_cons_of_mem _ hx)) with c | c
      · have := hm.1 x hx; omega
      · exact c

def T1 : List Pl := [.none_, .none_, .none_, ⟨true,3,30⟩, .none_, .none_, .none_, .none_]
def T2 : List Pl := [.none_, .none_, .none_, ⟨true,3,30⟩, ⟨true,11,110⟩, .none_, .none_, .none_]
def T3 : List Pl := [.none_, .none_, .none_, ⟨true,3,30⟩, ⟨true,11,110⟩, ⟨true,4,40⟩, .none_, .none_]
def T4 : List Pl := [.none_, .none_, .none_, ⟨true,11,110⟩, ⟨true,4,40⟩, .none_, .none_, .none_]
theorem p1 : putP (fresh 8) 3 30 = (T1, 0) := by decide +kernel
theorem p2 : putP T1 11 110 = (T2, 0) := by decide +kernel
theorem p3 : putP T2 4 40 = (T3, 0) := by decide +kernel
theorem p4 : delP T3 3 = T4 ∧ hasP T3 3 = true := by decide +kernel
theorem p5 : putP T4 (-1) 0 = (T4, 1) ∧ delP T4 3 = T4 ∧ hasP T4 3 = false := by decide +kernel
theorem p6 : farP T3 4 = 1 ∧ farP T4 11 = 0 ∧ farP T4 4 = 0 ∧ numP T4 11 = 110 ∧ hasP T4 11 = true ∧ cnt T4 = 2 := by decide +kernel
theorem g0 : Good (fresh 8) := good_fresh (by decide)
theorem g1 : Good T1 := by have := (good_put g0 3 30).1; rwa [p1] at this
theorem g2 : Good T2 := by have := (good_put g1 11 110).1; rwa [p2] at this
theorem g3 : Good T3 := by have := (good_put g2 4 40).1; rwa [p3] at this
theorem g4 : Good T4 := by have := (good_del g3 3).1; rwa [p4.1] at this
theorem p7 : keysP T4 = [4, 11] := by
  refine rise_eq (keys_rise g4) (by decide) (fun x => ?_)
  rw [keys_mem]
  constructor
  · rintro ⟨n, h⟩
    simp [T4, Pl.none_] at h
    rcases h with ⟨rfl, _⟩ | ⟨rfl, _⟩ <;> decide
  · intro h
    simp only [List.mem_cons, List.not_mem_nil, or_false] at h
    rcases h with rfl | rfl
    · exact ⟨40, by decide⟩
    · exact ⟨110, by decide⟩

theorem new_eight (w : World) : Calls Try.prog 9 #[.int .i64 8] w (MakesIx 8 w) := new_yes 8 w ((pow_iff 8).2 (by decide))
theorem new_six (w : World) : Calls Try.prog 9 #[.int .i64 6] w fun e w' => e = .returned (.tuple #[.pointer none, .int .i64 1]) ∧ w = w' :=
  new_no 6 w (fun m hm h => by
    have : m = 6 := by omega
    subst this
    exact absurd ((pow_iff 6).1 h) (by decide))
theorem put1 (p b : Nat) (w : World) (h : Ix w p b (fresh 8)) : Calls Try.prog 12 #[.pointer (some ⟨p, 0, none⟩), .int .i64 3, .int .i64 30] w fun e w' => e = .returned (.int .i64 0) ∧ Puts p b T1 w w' := by
  have := put_any p b _ 3 30 w h g0; rwa [p1] at this
theorem put2 (p b : Nat) (w : World) (h : Ix w p b T1) : Calls Try.prog 12 #[.pointer (some ⟨p, 0, none⟩), .int .i64 11, .int .i64 110] w fun e w' => e = .returned (.int .i64 0) ∧ Puts p b T2 w w' := by
  have := put_any p b _ 11 110 w h g1; rwa [p2] at this
theorem put3 (p b : Nat) (w : World) (h : Ix w p b T2) : Calls Try.prog 12 #[.pointer (some ⟨p, 0, none⟩), .int .i64 4, .int .i64 40] w fun e w' => e = .returned (.int .i64 0) ∧ Puts p b T3 w w' := by
  have := put_any p b _ 4 40 w h g2; rwa [p3] at this
theorem put4 (p b : Nat) (w : World) (h : Ix w p b T4) : Calls Try.prog 12 #[.pointer (some ⟨p, 0, none⟩), .int .i64 (-1), .int .i64 0] w fun e w' => e = .returned (.int .i64 1) ∧ Puts p b T4 w w' := by
  have := put_any p b _ (-1) 0 w h g4; rwa [p5.1] at this
theorem del3 (p b : Nat) (w : World) (h : Ix w p b T3) : Calls Try.prog 14 #[.pointer (some ⟨p, 0, none⟩), .int .i64 3] w fun e w' => e = .returned (.bool true) ∧ Puts p b T4 w w' := by
  have := del_any p b _ 3 w h g3; rwa [p4.1, p4.2] at this
theorem del4 (p b : Nat) (w : World) (h : Ix w p b T4) : Calls Try.prog 14 #[.pointer (some ⟨p, 0, none⟩), .int .i64 3] w fun e w' => e = .returned (.bool false) ∧ Puts p b T4 w w' := by
  have := del_any p b _ 3 w h g4; rwa [p5.2.1, p5.2.2] at this
theorem far3 (p b : Nat) (w : World) (h : Ix w p b T3) : Calls Try.prog 23 #[.pointer (some ⟨p, 0, none⟩), .int .i64 4] w fun e w' => e = .returned (.int .i64 1) ∧ w = w' := by
  have := far_any p b _ 4 w h g3; rwa [p6.1] at this
theorem far11 (p b : Nat) (w : World) (h : Ix w p b T4) : Calls Try.prog 23 #[.pointer (some ⟨p, 0, none⟩), .int .i64 11] w fun e w' => e = .returned (.int .i64 0) ∧ w = w' := by
  have := far_any p b _ 11 w h g4; rwa [p6.2.1] at this
theorem far4 (p b : Nat) (w : World) (h : Ix w p b T4) : Calls Try.prog 23 #[.pointer (some ⟨p, 0, none⟩), .int .i64 4] w fun e w' => e = .returned (.int .i64 0) ∧ w = w' := by
  have := far_any p b _ 4 w h g4; rwa [p6.2.2.1] at this
theorem get11 (p b : Nat) (w : World) (h : Ix w p b T4) : Calls Try.prog 16 #[.pointer (some ⟨p, 0, none⟩), .int .i64 11] w fun e w' => e = .returned (.tuple #[.int .i64 110, .bool true]) ∧ Only none_ w w' := by
  have := get_any p b _ 11 w h g4; rwa [p6.2.2.2.1, p6.2.2.2.2.1] at this
theorem len2 (p b : Nat) (w : World) (h : Ix w p b T4) : Calls Try.prog 18 #[.pointer (some ⟨p, 0, none⟩)] w fun e w' => e = .returned (.int .i64 2) ∧ w = w' := by
  have := len_any p b _ w h; rwa [p6.2.2.2.2.2] at this
theorem keys4 (p b : Nat) (w : World) (h : Ix w p b T4) : Calls Try.prog 21 #[.pointer (some ⟨p, 0, none⟩)] w fun e w' => ∃ v, e = .returned v ∧ OwnsInts w' w.heap.size v [4, 11] ∧ Only none_ w w' := by
  have := keys_any p b _ w h g4.clean; rwa [p7] at this

set_option maxHeartbeats 4000000 in
set_option maxRecDepth 100000 in
theorem awake_any (w : World) : Calls Try.prog 8 #[] w fun e w' => e = .returned (.bool true) ∧ Below w.heap.size w w' := by
  go_enter Try.func8, Try.ntmps8
  go_wp2_with fail
  (with_reducible refine (new_eight _).mono ?_)
  rintro e w1 ⟨p, b, rfl, h1, lp, lb, o1⟩
  have O := Lib.hid (o1.up (S := fun k => w.heap.size ≤ k))
  have H := Lib.hid h1
  have up : ∀ k, two p b k → w.heap.size ≤ k := fun k q => by rcases q with q | q <;> omega
  have UP := Lib.hid up
  clear o1 h1 up
  go_wp2_with fail
  (with_reducible refine (new_six _).mono ?_)
  rintro e w' ⟨rfl, rfl⟩
  go_wp2_with fail
  (with_reducible refine (put1 p b _ H.out).mono ?_)
  rintro e w2 ⟨rfl, h, o⟩
  have O2 := Lib.hid (O.out.trans o (fun i hi s => UP.out i s))
  have H2 := Lib.hid h
  clear h o O H
  go_wp2_with fail
  (with_reducible refine (put2 p b _ H2.out).mono ?_)
  rintro e w3 ⟨rfl, h, o⟩
  have O3 := Lib.hid (O2.out.trans o (fun i hi s => UP.out i s))
  have H3 := Lib.hid h
  clear h o O2 H2
  go_wp2_with fail
  (with_reducible refine (put3 p b _ H3.out).mono ?_)
  rintro e w4 ⟨rfl, h, o⟩
  have O4 := Lib.hid (O3.out.trans o (fun i hi s => UP.out i s))
  have H4 := Lib.hid h
  clear h o O3 H3
  go_wp2_with fail
  (with_reducible refine (far3 p b _ H4.out).mono ?_)
  rintro e w' ⟨rfl, rfl⟩
  go_wp2_with fail
  (with_reducible refine (del3 p b _ H4.out).mono ?_)
  rintro e w5 ⟨rfl, h, o⟩
  have O5 := Lib.hid (O4.out.trans o (fun i hi s => UP.out i s))
  have H5 := Lib.hid h
  clear h o O4 H4
  go_wp2_with fail
  (with_reducible refine (get11 p b _ H5.out).mono ?_)
  rintro e w6 ⟨rfl, o⟩
  have O6 := Lib.hid (O5.out.idle o)
  have H6 := Lib.hid (H5.out.still o)
  clear o O5 H5
  go_wp2_with fail
  (with_reducible refine (far11 p b _ H6.out).mono ?_)
  rintro e w' ⟨rfl, rfl⟩
  go_wp2_with fail
  (with_reducible refine (far4 p b _ H6.out).mono ?_)
  rintro e w' ⟨rfl, rfl⟩
  go_wp2_with fail
  (with_reducible refine (len2 p b _ H6.out).mono ?_)
  rintro e w' ⟨rfl, rfl⟩
  go_wp2_with fail
  (with_reducible refine (keys4 p b _ H6.out).mono ?_)
  rintro e w7 ⟨v, rfl, hv, o⟩
  have O7 := Lib.hid (O6.out.idle o)
  have H7 := Lib.hid (H6.out.still o)
  have V := Lib.hid (Reads.of_owns hv)
  clear o O6 H6 hv
  go_wp2_with fail
  have IN : Calls Try.prog 20 #[v, .slice (some ⟨w7.heap.size, 0, none⟩) 2 2] (w7.alloc (.cells #[.int .i64 4, .int .i64 11] 3)) fun e w' => e = .returned (.bool true) ∧ Only none_ w7 w' := by
    have oa := (Only.refl none_ w7).alloc (.cells #[.int .i64 4, .int .i64 11] 3)
    have rf := Row.fresh w7 3 #[.int .i64 4, .int .i64 11]
    refine (ints_any v (.slice (some ⟨w7.heap.size, 0, none⟩) 2 2) [4, 11] [4, 11] _ (V.out.still oa) ⟨_, 2, rfl, fun i x hx => ⟨_, 0, rfl, ?_⟩⟩ (by decide) (by decide)).mono ?_
    · rw [Nat.zero_add, rf.cell]
      match i, hx with
      | 0, hx => simp at hx; subst hx; rfl
      | 1, hx => simp at hx; subst hx; rfl
    · rintro e w' ⟨rfl, o⟩
      exact ⟨rfl, oa.same o⟩
  have IN := Lib.hid IN
  (with_reducible refine (IN.out).mono ?_)
  rintro e w8 ⟨rfl, o⟩
  have O8 := Lib.hid (O7.out.idle o)
  have H8 := Lib.hid (H7.out.still o)
  clear o O7 H7 V IN
  go_wp2_with fail
  (with_reducible refine (del4 p b _ H8.out).mono ?_)
  rintro e w9 ⟨rfl, h, o⟩
  have O9 := Lib.hid (O8.out.trans o (fun i hi s => UP.out i s))
  have H9 := Lib.hid h
  clear h o O8 H8
  go_wp2_with fail
  (with_reducible refine (put4 p b _ H9.out).mono ?_)
  rintro e w10 ⟨rfl, h, o⟩
  have O10 := Lib.hid (O9.out.trans o (fun i hi s => UP.out i s))
  clear h o O9 H9
  go_wp2_with fail
  go_ret
  exact ⟨rfl, O10.out.below (Nat.le_refl _) (fun i hi => by omega)⟩
end Go.Proofs.Ytajphhalneaihaa

/- awake answers true: fixed answers, step by step. -/
import Derived.Test.YtpmhpamajkhhiaaSarcN
import Derived.Test.YtpmhpamajkhhiaaSarcM
namespace Go.Proofs.Ytpmhpamajkhhiaa
open Go.RowKit
set_option linter.unusedVariables false

def B0 : Sc := ⟨⟨4, 1, [], [], [false, false, false, false]⟩, [], 1, 1, 0⟩
def E0 : Sc := ⟨⟨4, 1, [], [0], [true, false, false, false]⟩, [0], 1, 1, 0⟩
def B1 : Sc := ⟨⟨4, 1, [], [0], [false, false, false, false]⟩, [0], 1, 1, 0⟩
def E1 : Sc := ⟨⟨4, 1, [], [1, 0], [false, true, false, false]⟩, [0, 1], 1, 1, 0⟩
def B2 : Sc := ⟨⟨4, 1, [], [1, 0], [false, false, false, false]⟩, [0, 1], 1, 1, 0⟩
def E2 : Sc := ⟨⟨4, 1, [2], [1, 0], [false, false, true, false]⟩, [0, 1, 2], 1, 1, 0⟩
def B3 : Sc := ⟨⟨4, 1, [2], [1, 0], [false, false, false, false]⟩, [0, 1, 2], 1, 1, 0⟩
def B4 : Sc := ⟨⟨4, 1, [2], [1], [false, false, false, false]⟩, [0, 1, 2], 1, 1, 0⟩
theorem aw_miss : (newSc 4 1).missS 0 = B0 ∧ missC 0 = 0 := by decide +kernel
theorem aw_e0 : B0.enterC 0 1 = 0 ∧ B0.enterS 0 1 = E0 ∧ E0.enterC 0 1 = 4 ∧ E0.enterS 0 1 = E0 ∧ E0.readyC 0 = 0 ∧ E0.readyS 0 = B1 ∧ B1.readyC 0 = 5 ∧ B1.readyS 0 = B1 := by decide +kernel
theorem aw_e1 : B1.enterC 1 1 = 0 ∧ B1.enterS 1 1 = E1 ∧ E1.enterC 1 1 = 4 ∧ E1.enterS 1 1 = E1 ∧ E1.readyC 1 = 0 ∧ E1.readyS 1 = B2 ∧ B2.readyC 1 = 5 ∧ B2.readyS 1 = B2 := by decide +kernel
theorem aw_e2 : B2.enterC 2 0 = 0 ∧ B2.enterS 2 0 = E2 ∧ E2.enterC 2 0 = 4 ∧ E2.enterS 2 0 = E2 ∧ E2.readyC 2 = 0 ∧ E2.readyS 2 = B3 ∧ B3.readyC 2 = 5 ∧ B3.readyS 2 = B3 := by decide +kernel
theorem aw_v : B3.victim = some 0 ∧ B3.victimS = B4 ∧ B4.room = 2 ∧ B4.s.liesC 0 = 3 ∧ B4.goneS 0 = B4 ∧ B4.hitC 9 0 = 1 ∧ B4.hitS 9 0 = B4 := by decide +kernel
theorem below_set {w w1 w2 : World} {P b : Nat} (h : Below w.heap.size w w1) (o : Only (two P b) w1 w2) (hP : w.heap.size ≤ P) (hb : w.heap.size ≤ b) : Below w.heap.size w w2 :=
  Only.below_to h o (Nat.le_refl _) (fun i hi e => by unfold two at e; omega)
theorem below_on7 {w w1 w2 : World} (h : Below w.heap.size w w1) (o : Below w1.heap.size w1 w2) : Below w.heap.size w w2 := h.trans (o.mono h.size)
theorem SLies.on {w w' : World} {P p b : Nat} {c : Sc} (h : SLies w P p b c) (o : Below w.heap.size w w') : SLies w' P p b c := h.still (below_only o)
section
variable (P p b : Nat) (w : World)
theorem k_new : Calls Try.prog 10 #[.int .i64 4, .int .i64 1] w (MakesSc 4 1 w) := snew_yes 4 1 w (by decide) (by decide) (by decide)
theorem k_no : Calls Try.prog 10 #[.int .i64 0, .int .i64 1] w fun e w' => e = .returned (.tuple #[.pointer none, .int .i64 1]) ∧ w = w' := snew_no 0 1 w (by omega)
theorem k_miss (h : SLies w P p b (newSc 4 1)) : Calls Try.prog 20 #[.pointer (some ⟨P, 0, none⟩), .int .i64 0] w fun e w' => e = .returned (.int .i64 0) ∧ SLies w' P p b B0 ∧ Only (two P b) w w' := by
  have := miss_any P p b _ 0 w h
  rwa [aw_miss.1, aw_miss.2] at this
theorem k_ea0 (h : SLies w P p b B0) : Calls Try.prog 21 #[.pointer (some ⟨P, 0, none⟩), .int .i64 0, .int .i64 1] w fun e w' => e = .returned (.int .i64 0) ∧ SLies w' P p b E0 ∧ Only (two P b) w w' := by
  have := enter_any P p b _ 0 1 w h (by decide)
  rwa [aw_e0.1, aw_e0.2.1] at this
theorem k_eb0 (h : SLies w P p b E0) : Calls Try.prog 21 #[.pointer (some ⟨P, 0, none⟩), .int .i64 0, .int .i64 1] w fun e w' => e = .returned (.int .i64 4) ∧ SLies w' P p b E0 ∧ Only (two P b) w w' := by
  have := enter_any P p b _ 0 1 w h (by decide)
  rwa [aw_e0.2.2.1, aw_e0.2.2.2.1] at this
theorem k_ra0 (h : SLies w P p b E0) : Calls Try.prog 22 #[.pointer (some ⟨P, 0, none⟩), .int .i64 0] w fun e w' => e = .returned (.int .i64 0) ∧ SLies w' P p b B1 ∧ Only (two P b) w w' := by
  have := ready_any P p b _ 0 w h
  rwa [aw_e0.2.2.2.2.1, aw_e0.2.2.2.2.2.1] at this
theorem k_rb0 (h : SLies w P p b B1) : Calls Try.prog 22 #[.pointer (some ⟨P, 0, none⟩), .int .i64 0] w fun e w' => e = .returned (.int .i64 5) ∧ SLies w' P p b B1 ∧ Only (two P b) w w' := by
  have := ready_any P p b _ 0 w h
  rwa [aw_e0.2.2.2.2.2.2.1, aw_e0.2.2.2.2.2.2.2] at this
theorem k_ea1 (h : SLies w P p b B1) : Calls Try.prog 21 #[.pointer (some ⟨P, 0, none⟩), .int .i64 1, .int .i64 1] w fun e w' => e = .returned (.int .i64 0) ∧ SLies w' P p b E1 ∧ Only (two P b) w w' := by
  have := enter_any P p b _ 1 1 w h (by decide)
  rwa [aw_e1.1, aw_e1.2.1] at this
theorem k_eb1 (h : SLies w P p b E1) : Calls Try.prog 21 #[.pointer (some ⟨P, 0, none⟩), .int .i64 1, .int .i64 1] w fun e w' => e = .returned (.int .i64 4) ∧ SLies w' P p b E1 ∧ Only (two P b) w w' := by
  have := enter_any P p b _ 1 1 w h (by decide)
  rwa [aw_e1.2.2.1, aw_e1.2.2.2.1] at this
theorem k_ra1 (h : SLies w P p b E1) : Calls Try.prog 22 #[.pointer (some ⟨P, 0, none⟩), .int .i64 1] w fun e w' => e = .returned (.int .i64 0) ∧ SLies w' P p b B2 ∧ Only (two P b) w w' := by
  have := ready_any P p b _ 1 w h
  rwa [aw_e1.2.2.2.2.1, aw_e1.2.2.2.2.2.1] at this
theorem k_rb1 (h : SLies w P p b B2) : Calls Try.prog 22 #[.pointer (some ⟨P, 0, none⟩), .int .i64 1] w fun e w' => e = .returned (.int .i64 5) ∧ SLies w' P p b B2 ∧ Only (two P b) w w' := by
  have := ready_any P p b _ 1 w h
  rwa [aw_e1.2.2.2.2.2.2.1, aw_e1.2.2.2.2.2.2.2] at this
theorem k_ea2 (h : SLies w P p b B2) : Calls Try.prog 21 #[.pointer (some ⟨P, 0, none⟩), .int .i64 2, .int .i64 0] w fun e w' => e = .returned (.int .i64 0) ∧ SLies w' P p b E2 ∧ Only (two P b) w w' := by
  have := enter_any P p b _ 2 0 w h (by decide)
  rwa [aw_e2.1, aw_e2.2.1] at this
theorem k_eb2 (h : SLies w P p b E2) : Calls Try.prog 21 #[.pointer (some ⟨P, 0, none⟩), .int .i64 2, .int .i64 0] w fun e w' => e = .returned (.int .i64 4) ∧ SLies w' P p b E2 ∧ Only (two P b) w w' := by
  have := enter_any P p b _ 2 0 w h (by decide)
  rwa [aw_e2.2.2.1, aw_e2.2.2.2.1] at this
theorem k_ra2 (h : SLies w P p b E2) : Calls Try.prog 22 #[.pointer (some ⟨P, 0, none⟩), .int .i64 2] w fun e w' => e = .returned (.int .i64 0) ∧ SLies w' P p b B3 ∧ Only (two P b) w w' := by
  have := ready_any P p b _ 2 w h
  rwa [aw_e2.2.2.2.2.1, aw_e2.2.2.2.2.2.1] at this
theorem k_rb2 (h : SLies w P p b B3) : Calls Try.prog 22 #[.pointer (some ⟨P, 0, none⟩), .int .i64 2] w fun e w' => e = .returned (.int .i64 5) ∧ SLies w' P p b B3 ∧ Only (two P b) w w' := by
  have := ready_any P p b _ 2 w h
  rwa [aw_e2.2.2.2.2.2.2.1, aw_e2.2.2.2.2.2.2.2] at this
theorem k_vic (h : SLies w P p b B3) : Calls Try.prog 18 #[.pointer (some ⟨P, 0, none⟩)] w fun e w' => e = .returned (.tuple #[.int .i64 0, .bool true]) ∧ SLies w' P p b B4 ∧ Only (two P b) w w' := by
  have := victim_any P p b _ w h (by decide)
  rwa [aw_v.1, aw_v.2.1] at this
theorem k_room (h : SLies w P p b B4) : Calls Try.prog 16 #[.pointer (some ⟨P, 0, none⟩)] w fun e w' => e = .returned (.int .i64 2) ∧ Below w.heap.size w w' := by
  have := room_any P p b _ w h
  rwa [aw_v.2.2.1] at this
theorem k_gone (h : SLies w P p b B4) : Calls Try.prog 26 #[.pointer (some ⟨P, 0, none⟩), .int .i64 0] w fun e w' => e = .returned (.int .i64 3) ∧ SLies w' P p b B4 ∧ Only (two P b) w w' := by
  have := gone_any P p b _ 0 w h
  rwa [aw_v.2.2.2.1, aw_v.2.2.2.2.1] at this
theorem k_hit (h : SLies w P p b B4) : Calls Try.prog 23 #[.pointer (some ⟨P, 0, none⟩), .int .i64 9, .int .i64 0] w fun e w' => e = .returned (.int .i64 1) ∧ SLies w' P p b B4 ∧ Only (two P b) w w' := by
  have := hit_any P p b _ 9 0 w h (by decide)
  rwa [aw_v.2.2.2.2.2.1, aw_v.2.2.2.2.2.2] at this
end
theorem k_pol (P p b : Nat) (w : World) (h : SLies w P p b B3) : Calls Try.prog 15 #[.pointer (some ⟨P, 0, none⟩)] w fun e w' => ∃ a0 n0 k0 a1 n1 k1 a2 n2 k2, e = .returned (.agg #[.slice a0 n0 k0, .slice a1 n1 k1, .slice a2 n2 k2, .int .i64 1, .int .u64 1, .int .u64 0]) ∧ OwnsInts w' w.heap.size (.slice a1 n1 k1) [1, 0] ∧ Below w.heap.size w w' := by
  refine (policy_any P p b B3 w h).mono ?_
  rintro e w2 ⟨v, rfl, ⟨v0, v1, v2, rfl, t0, t1, t2⟩, o⟩
  obtain ⟨a0, n0, k0, rfl⟩ := own_form t0
  obtain ⟨a1, n1, k1, rfl⟩ := own_form t1
  obtain ⟨a2, n2, k2, rfl⟩ := own_form t2
  exact ⟨a0, n0, k0, a1, n1, k1, a2, n2, k2, rfl, t1, o⟩
set_option maxHeartbeats 4000000 in
set_option maxRecDepth 100000 in
theorem awake_any (w : World) : Calls Try.prog 9 #[] w fun e w' => e = .returned (.bool true) ∧ Below w.heap.size w w' := by
  go_enter Try.func9, Try.ntmps9
  go_wp2_with fail
  (with_reducible refine ((k_new _)).mono ?_)
  rintro e w1 ⟨P, p, b, rfl, h1, lP, lp, lb, o1⟩
  have B := Lib.hid (o1.to_below)
  have H := Lib.hid h1
  clear o1 h1
  go_wp2_with fail
  (with_reducible refine ((k_no _)).mono ?_)
  rintro e w' ⟨rfl, rfl⟩
  go_wp2_with fail
  (with_reducible refine ((k_miss P p b _ H.out)).mono ?_)
  rintro e w2 ⟨rfl, h2, o2⟩
  have H' := Lib.hid h2
  have B' := Lib.hid (below_set B.out o2 lP lb)
  clear h2 o2 H B
  have H := H'
  have B := B'
  clear H' B'
  go_wp2_with fail
  refine wp_loop_rounds 4 ?_
  rw [rounds_succ]
  go_wp2_with fail
  (with_reducible refine ((k_ea0 P p b _ H.out)).mono ?_)
  rintro e w2 ⟨rfl, h2, o2⟩
  have H' := Lib.hid h2
  have B' := Lib.hid (below_set B.out o2 lP lb)
  clear h2 o2 H B
  have H := H'
  have B := B'
  clear H' B'
  go_wp2_with fail
  (with_reducible refine ((k_eb0 P p b _ H.out)).mono ?_)
  rintro e w2 ⟨rfl, h2, o2⟩
  have H' := Lib.hid h2
  have B' := Lib.hid (below_set B.out o2 lP lb)
  clear h2 o2 H B
  have H := H'
  have B := B'
  clear H' B'
  go_wp2_with fail
  (with_reducible refine ((k_ra0 P p b _ H.out)).mono ?_)
  rintro e w2 ⟨rfl, h2, o2⟩
  have H' := Lib.hid h2
  have B' := Lib.hid (below_set B.out o2 lP lb)
  clear h2 o2 H B
  have H := H'
  have B := B'
  clear H' B'
  go_wp2_with fail
  (with_reducible refine ((k_rb0 P p b _ H.out)).mono ?_)
  rintro e w2 ⟨rfl, h2, o2⟩
  have H' := Lib.hid h2
  have B' := Lib.hid (below_set B.out o2 lP lb)
  clear h2 o2 H B
  have H := H'
  have B := B'
  clear H' B'
  go_wp2_with fail
  rw [rounds_succ]
  go_wp2_with fail
  (with_reducible refine ((k_ea1 P p b _ H.out)).mono ?_)
  rintro e w2 ⟨rfl, h2, o2⟩
  have H' := Lib.hid h2
  have B' := Lib.hid (below_set B.out o2 lP lb)
  clear h2 o2 H B
  have H := H'
  have B := B'
  clear H' B'
  go_wp2_with fail
  (with_reducible refine ((k_eb1 P p b _ H.out)).mono ?_)
  rintro e w2 ⟨rfl, h2, o2⟩
  have H' := Lib.hid h2
  have B' := Lib.hid (below_set B.out o2 lP lb)
  clear h2 o2 H B
  have H := H'
  have B := B'
  clear H' B'
  go_wp2_with fail
  (with_reducible refine ((k_ra1 P p b _ H.out)).mono ?_)
  rintro e w2 ⟨rfl, h2, o2⟩
  have H' := Lib.hid h2
  have B' := Lib.hid (below_set B.out o2 lP lb)
  clear h2 o2 H B
  have H := H'
  have B := B'
  clear H' B'
  go_wp2_with fail
  (with_reducible refine ((k_rb1 P p b _ H.out)).mono ?_)
  rintro e w2 ⟨rfl, h2, o2⟩
  have H' := Lib.hid h2
  have B' := Lib.hid (below_set B.out o2 lP lb)
  clear h2 o2 H B
  have H := H'
  have B := B'
  clear H' B'
  go_wp2_with fail
  rw [rounds_succ]
  go_wp2_with fail
  (with_reducible refine ((k_ea2 P p b _ H.out)).mono ?_)
  rintro e w2 ⟨rfl, h2, o2⟩
  have H' := Lib.hid h2
  have B' := Lib.hid (below_set B.out o2 lP lb)
  clear h2 o2 H B
  have H := H'
  have B := B'
  clear H' B'
  go_wp2_with fail
  (with_reducible refine ((k_eb2 P p b _ H.out)).mono ?_)
  rintro e w2 ⟨rfl, h2, o2⟩
  have H' := Lib.hid h2
  have B' := Lib.hid (below_set B.out o2 lP lb)
  clear h2 o2 H B
  have H := H'
  have B := B'
  clear H' B'
  go_wp2_with fail
  (with_reducible refine ((k_ra2 P p b _ H.out)).mono ?_)
  rintro e w2 ⟨rfl, h2, o2⟩
  have H' := Lib.hid h2
  have B' := Lib.hid (below_set B.out o2 lP lb)
  clear h2 o2 H B
  have H := H'
  have B := B'
  clear H' B'
  go_wp2_with fail
  (with_reducible refine ((k_rb2 P p b _ H.out)).mono ?_)
  rintro e w2 ⟨rfl, h2, o2⟩
  have H' := Lib.hid h2
  have B' := Lib.hid (below_set B.out o2 lP lb)
  clear h2 o2 H B
  have H := H'
  have B := B'
  clear H' B'
  go_wp2_with fail
  rw [rounds_succ]
  have lt0 := H.out.raw.lt
  go_wp2_with fail
  (with_reducible refine ((k_pol P p b _ H.out)).mono ?_)
  rintro e w2 ⟨a0, n0, k0, a1, n1, k1, a2, n2, k2, rfl, t1, o2⟩
  have H' := Lib.hid (H.out.on o2)
  have B' := Lib.hid (below_on7 B.out o2)
  have T1 := Lib.hid t1
  clear t1 o2 H B
  have H := H'
  have B := B'
  clear H' B'
  go_wp2_with fail
  have oa := (Only.refl none_ w2).alloc (.cells #[.slice a0 n0 k0, .slice a1 n1 k1, .slice a2 n2 k2, .int .i64 1, .int .u64 1, .int .u64 0] 39)
  have ra := Row.fresh w2 39 #[.slice a0 n0 k0, .slice a1 n1 k1, .slice a2 n2 k2, .int .i64 1, .int .u64 1, .int .u64 0]
  have lt := H.out.raw.lt
  have HA := Lib.hid (H.out.still oa)
  have BA := Lib.hid (Only.below_to B.out oa (Nat.le_refl _) (fun _ _ s => s))
  have TA := Lib.hid (T1.out.still oa)
  have RA := Lib.hid ra
  have nb : ¬ two P b w2.heap.size := by unfold two; omega
  clear oa ra H B T1
  (with_reducible refine (k_vic P p b _ HA.out).mono ?_)
  rintro e w3 ⟨rfl, h3, o3⟩
  have H3 := Lib.hid h3
  have B3 := Lib.hid (below_set BA.out o3 lP lb)
  have R3 := Lib.hid (o3.row RA.out nb)
  have T3 := Lib.hid (TA.out.keep o3 (fun g hg e => by have := (TA.out.base_le hg).1; unfold two at e; omega))
  clear h3 o3 HA BA TA RA
  have p1 : w3.cell? ⟨w2.heap.size, 1, none⟩ = some (.slice a1 n1 k1) := (R3.out.cell 1).trans rfl
  have p3 : w3.cell? ⟨w2.heap.size, 3, none⟩ = some (.int .i64 1) := (R3.out.cell 3).trans rfl
  have p4 : w3.cell? ⟨w2.heap.size, 4, none⟩ = some (.int .u64 1) := (R3.out.cell 4).trans rfl
  have IN : Calls Try.prog 25 #[.slice a1 n1 k1, .slice (some ⟨w3.heap.size, 0, none⟩) 2 2] (w3.alloc (.cells #[.int .i64 1, .int .i64 0] 3)) fun e w' => e = .returned (.bool true) ∧ Only none_ w3 w' := by
    have oa := (Only.refl none_ w3).alloc (.cells #[.int .i64 1, .int .i64 0] 3)
    have rf := Row.fresh w3 3 #[.int .i64 1, .int .i64 0]
    refine (ints_any _ (.slice (some ⟨w3.heap.size, 0, none⟩) 2 2) [1, 0] [1, 0] _ ((Reads.of_owns T3.out).still oa) ⟨_, 2, rfl, fun i x hx => ⟨_, 0, rfl, ?_⟩⟩ (by decide) (by decide)).mono ?_
    · rw [Nat.zero_add, rf.cell]
      match i, hx with
      | 0, hx => simp at hx; subst hx; rfl
      | 1, hx => simp at hx; subst hx; rfl
    · rintro e w' ⟨rfl, o⟩
      exact ⟨rfl, oa.same o⟩
  have IN := Lib.hid IN
  go_wp2_with fail
  (with_reducible refine (IN.out).mono ?_)
  rintro e w4 ⟨rfl, o4⟩
  have H4 := Lib.hid (H3.out.still o4)
  have B4 := Lib.hid (Only.below_to B3.out o4 (Nat.le_refl _) (fun _ _ s => s))
  clear o4 p1 p3 p4 IN
  go_wp2_with fail
  (with_reducible refine ((k_room P p b _ H4.out)).mono ?_)
  rintro e w5 ⟨rfl, o5⟩
  have H5 := Lib.hid (H4.out.on o5)
  have B5 := Lib.hid (below_on7 B4.out o5)
  clear o5
  go_wp2_with fail
  (with_reducible refine ((k_gone P p b _ H5.out)).mono ?_)
  rintro e w6 ⟨rfl, h6, o6⟩
  have H6 := Lib.hid h6
  have B6 := Lib.hid (below_set B5.out o6 lP lb)
  clear h6 o6
  go_wp2_with fail
  (with_reducible refine ((k_hit P p b _ H6.out)).mono ?_)
  rintro e w7 ⟨rfl, h7, o7⟩
  have B7 := Lib.hid (below_set B6.out o7 lP lb)
  clear h7 o7
  go_wp2
  go_ret
  exact ⟨rfl, B7.out⟩
end Go.Proofs.Ytpmhpamajkhhiaa

/- Of any options whether they may be, and of any number of blocks what is usual, is what the document says: the tied card, for every input. -/
import Derived.Test.YtnhcgnmanonmaaaDoorRows
import Derived.WalkKit
import Derived.ProofKit
import Derived.OpenShut
import Derived.Below
import Derived.Test.YtnhcgnmanonmaaaDoorArgs
import Derived.Test.YtnhcgnmanonmaaaDoorLw15
import Derived.Test.YtnhcgnmanonmaaaDoorBd
import Derived.Test.YtnhcgnmanonmaaaDoorTie
import Derived.Test.YtnhcgnmanonmaaaDoorCards
import Derived.Deep.DeepCutAuto
namespace Go.Proofs.YtnhcgnmanonmaaaDoor.askOptions
open Go.ChangeShapes Go.WideShapes Go.ChangeAt Go.RowKit
set_option linter.unusedVariables false

theorem own : ownKnob Tryd.prog.godebug = none := by kernel_rfl
theorem laidOut : laidOutB Tryd.prog = true := by kernel_rfl

theorem lexOptions : Region.lexB .any (opsAt Tryd.f3 9).toArray = true := by kernel_rfl
set_option maxHeartbeats 1000000 in
theorem walk_true_in (w : World) (hb : Bd w) (o : Opt) (hm : o.mayB = true) (b : Int) (h1 : 1 ≤ b) (h2 : b ≤ 256) :
    Calls Tryd.prog 3 #[o.val, .int .i64 b] w fun e w' => e = .returned (.bool true) ∧ Below w.heap.size w w' := by
  have HB := Lib.hid hb
  have MA := Lib.hid (fun w' => rmay_any o w')
  have CA := Lib.hid (fun (w' : World) (h : Bd w') => opt_may o w' h)
  rw [hm] at MA CA
  simp only [if_true] at CA
  clear hb hm
  obtain ⟨b0, b1, b2, b3, b4, b5, b6, b7, b8, b9, b10, b11, b12, b13⟩ := o
  unfold Opt.val at *
  dsimp only at *
  have OB := Lib.hid ((Only.refl none_ w).alloc (.cells (Opt.cells ⟨b0, b1, b2, b3, b4, b5, b6, b7, b8, b9, b10, b11, b12, b13⟩) 23))
  have RB := Lib.hid (Row.fresh w 23 (Opt.cells ⟨b0, b1, b2, b3, b4, b5, b6, b7, b8, b9, b10, b11, b12, b13⟩))
  simp only [Opt.cells] at OB
  go_enter Tryd.func3, Tryd.ntmps3
  go_wp2_with fail
  (with_reducible refine (awake_any _ (HB.out.still OB.out)).mono ?_)
  rintro e w1 ⟨rfl, o⟩
  have O1 := Lib.hid (OB.out.same o)
  have R1 := Lib.hid (o.still RB.out)
  clear o OB RB
  obtain ⟨c0, c1, c2, c3, c4, c5, c6, c7, c8, c9, c10, c11, c12, c13⟩ := R1.out.fourteen
  go_wp2_with fail
  (with_reducible refine (MA.out _).mono ?_)
  rintro e w2 ⟨rfl, o⟩
  have O2 := Lib.hid (O1.out.same o)
  have R2 := Lib.hid (o.still R1.out)
  clear o O1 R1 c0 c1 c2 c3 c4 c5 c6 c7 c8 c9 c10 c11 c12 c13 MA
  have UY := Lib.hid (usual_yes b w2 (HB.out.still O2.out) h1 h2)
  have MY := Lib.hid (usual_may b h1 h2)
  simp only [Opt.val, usual] at UY
  go_wp2_with fail
  (with_reducible refine UY.out.mono ?_)
  rintro e w3 ⟨rfl, o⟩
  have O3 := Lib.hid ((O2.out.same o).alloc (.cells (usual b).cells 23))
  have R3 := Lib.hid ((o.still R2.out).alloc (.cells (usual b).cells 23))
  have U3 := Lib.hid (Row.fresh w3 23 (usual b).cells)
  clear o O2 R2 UY
  simp only [usual, Opt.cells] at O3 R3 U3
  go_upto_region 9 with fail
  revert O3 R3 U3
  generalize w3.heap.size = g6
  generalize hW : w3.alloc _ = w4
  clear hW
  intro O4 R4 U4
  have u0 : ∀ j : After w4, j.val.cell? ⟨g6, 0, none⟩ = some (.int .i64 b) := fun j => ((j.only.still U4.out).cell 0).trans rfl
  have u1 : ∀ j : After w4, j.val.cell? ⟨g6, 1, none⟩ = some (.int .i64 8) := fun j => ((j.only.still U4.out).cell 1).trans rfl
  have u2 : ∀ j : After w4, j.val.cell? ⟨g6, 2, none⟩ = some (.int .i64 2) := fun j => ((j.only.still U4.out).cell 2).trans rfl
  have u3 : ∀ j : After w4, j.val.cell? ⟨g6, 3, none⟩ = some (.int .i64 16) := fun j => ((j.only.still U4.out).cell 3).trans rfl
  have u4 : ∀ j : After w4, j.val.cell? ⟨g6, 4, none⟩ = some (.int .i64 8) := fun j => ((j.only.still U4.out).cell 4).trans rfl
  have u5 : ∀ j : After w4, j.val.cell? ⟨g6, 5, none⟩ = some (.int .i64 4) := fun j => ((j.only.still U4.out).cell 5).trans rfl
  have u6 : ∀ j : After w4, j.val.cell? ⟨g6, 6, none⟩ = some (.int .i64 4) := fun j => ((j.only.still U4.out).cell 6).trans rfl
  have u7 : ∀ j : After w4, j.val.cell? ⟨g6, 7, none⟩ = some (.int .i64 3) := fun j => ((j.only.still U4.out).cell 7).trans rfl
  have u8 : ∀ j : After w4, j.val.cell? ⟨g6, 8, none⟩ = some (.int .i64 8) := fun j => ((j.only.still U4.out).cell 8).trans rfl
  have u9 : ∀ j : After w4, j.val.cell? ⟨g6, 9, none⟩ = some (.int .i64 32) := fun j => ((j.only.still U4.out).cell 9).trans rfl
  have u10 : ∀ j : After w4, j.val.cell? ⟨g6, 10, none⟩ = some (.int .i64 4) := fun j => ((j.only.still U4.out).cell 10).trans rfl
  have u11 : ∀ j : After w4, j.val.cell? ⟨g6, 11, none⟩ = some (.int .i64 8) := fun j => ((j.only.still U4.out).cell 11).trans rfl
  have u12 : ∀ j : After w4, j.val.cell? ⟨g6, 12, none⟩ = some (.int .i64 16) := fun j => ((j.only.still U4.out).cell 12).trans rfl
  have u13 : ∀ j : After w4, j.val.cell? ⟨g6, 13, none⟩ = some (.int .i64 4) := fun j => ((j.only.still U4.out).cell 13).trans rfl
  have d0 : ∀ j : After w4, j.val.cell? ⟨w.heap.size, 0, none⟩ = some (.int .i64 b0) := fun j => ((j.only.still R4.out).cell 0).trans rfl
  have d1 : ∀ j : After w4, j.val.cell? ⟨w.heap.size, 1, none⟩ = some (.int .i64 b1) := fun j => ((j.only.still R4.out).cell 1).trans rfl
  have d2 : ∀ j : After w4, j.val.cell? ⟨w.heap.size, 2, none⟩ = some (.int .i64 b2) := fun j => ((j.only.still R4.out).cell 2).trans rfl
  have d3 : ∀ j : After w4, j.val.cell? ⟨w.heap.size, 3, none⟩ = some (.int .i64 b3) := fun j => ((j.only.still R4.out).cell 3).trans rfl
  have d4 : ∀ j : After w4, j.val.cell? ⟨w.heap.size, 4, none⟩ = some (.int .i64 b4) := fun j => ((j.only.still R4.out).cell 4).trans rfl
  have d5 : ∀ j : After w4, j.val.cell? ⟨w.heap.size, 5, none⟩ = some (.int .i64 b5) := fun j => ((j.only.still R4.out).cell 5).trans rfl
  have d6 : ∀ j : After w4, j.val.cell? ⟨w.heap.size, 6, none⟩ = some (.int .i64 b6) := fun j => ((j.only.still R4.out).cell 6).trans rfl
  have d7 : ∀ j : After w4, j.val.cell? ⟨w.heap.size, 7, none⟩ = some (.int .i64 b7) := fun j => ((j.only.still R4.out).cell 7).trans rfl
  have d8 : ∀ j : After w4, j.val.cell? ⟨w.heap.size, 8, none⟩ = some (.int .i64 b8) := fun j => ((j.only.still R4.out).cell 8).trans rfl
  have d9 : ∀ j : After w4, j.val.cell? ⟨w.heap.size, 9, none⟩ = some (.int .i64 b9) := fun j => ((j.only.still R4.out).cell 9).trans rfl
  have d10 : ∀ j : After w4, j.val.cell? ⟨w.heap.size, 10, none⟩ = some (.int .i64 b10) := fun j => ((j.only.still R4.out).cell 10).trans rfl
  have d11 : ∀ j : After w4, j.val.cell? ⟨w.heap.size, 11, none⟩ = some (.int .i64 b11) := fun j => ((j.only.still R4.out).cell 11).trans rfl
  have d12 : ∀ j : After w4, j.val.cell? ⟨w.heap.size, 12, none⟩ = some (.int .i64 b12) := fun j => ((j.only.still R4.out).cell 12).trans rfl
  have d13 : ∀ j : After w4, j.val.cell? ⟨w.heap.size, 13, none⟩ = some (.int .i64 b13) := fun j => ((j.only.still R4.out).cell 13).trans rfl
  have eu : ∀ w : World, _ := fun w => eq_usual b w
  have C1 := Lib.hid (fun i : After w4 => Calls.after i (CA.out i.val ((HB.out.still O4.out).still i.only)))
  have C2 := Lib.hid (fun i : After w4 => Calls.after (v := .int .i64 0) i (by have := opt_may (usual b) i.val ((HB.out.still O4.out).still i.only); rw [MY.out] at this; exact this))
  have C3 := Lib.hid (fun i : After w4 => Calls.after i (rusual_any b i.val))
  simp only [Opt.val, usual] at C2 C3 eu
  clear MY CA h1 h2
  refine wp_region_after (w0 := w4) (by kernel_rfl) (lex_from lexOptions (by kernel_rfl)) (Only.refl _ _) ?_
  repeat (go_big_quiet_step (first | (with_reducible exact C1.out _) | (with_reducible exact C2.out _) | (with_reducible exact C3.out _)))
  refine wpQuiet_nil ?_
  intro _ hw'
  obtain ⟨⟨wn, hn⟩, rfl⟩ := hw'
  go_wp2_with fail
  go_ret
  exact ⟨rfl, (O4.out.same hn).to_below⟩
set_option maxHeartbeats 1000000 in
theorem walk_true_low (w : World) (hb : Bd w) (o : Opt) (hm : o.mayB = true) (b : Int) (h2 : b < 1) :
    Calls Tryd.prog 3 #[o.val, .int .i64 b] w fun e w' => e = .returned (.bool true) ∧ Below w.heap.size w w' := by
  have HB := Lib.hid hb
  have MA := Lib.hid (fun w' => rmay_any o w')
  have CA := Lib.hid (fun (w' : World) (h : Bd w') => opt_may o w' h)
  rw [hm] at MA CA
  simp only [if_true] at CA
  clear hb hm
  obtain ⟨b0, b1, b2, b3, b4, b5, b6, b7, b8, b9, b10, b11, b12, b13⟩ := o
  unfold Opt.val at *
  dsimp only at *
  have OB := Lib.hid ((Only.refl none_ w).alloc (.cells (Opt.cells ⟨b0, b1, b2, b3, b4, b5, b6, b7, b8, b9, b10, b11, b12, b13⟩) 23))
  have RB := Lib.hid (Row.fresh w 23 (Opt.cells ⟨b0, b1, b2, b3, b4, b5, b6, b7, b8, b9, b10, b11, b12, b13⟩))
  simp only [Opt.cells] at OB
  go_enter Tryd.func3, Tryd.ntmps3
  go_wp2_with fail
  (with_reducible refine (awake_any _ (HB.out.still OB.out)).mono ?_)
  rintro e w1 ⟨rfl, o⟩
  have O1 := Lib.hid (OB.out.same o)
  have R1 := Lib.hid (o.still RB.out)
  clear o OB RB
  obtain ⟨c0, c1, c2, c3, c4, c5, c6, c7, c8, c9, c10, c11, c12, c13⟩ := R1.out.fourteen
  go_wp2_with fail
  (with_reducible refine (MA.out _).mono ?_)
  rintro e w2 ⟨rfl, o⟩
  have O2 := Lib.hid (O1.out.same o)
  have R2 := Lib.hid (o.still R1.out)
  clear o O1 R1 c0 c1 c2 c3 c4 c5 c6 c7 c8 c9 c10 c11 c12 c13 MA
  have UN := Lib.hid (usual_no b w2 (HB.out.still O2.out) (by omega))
  simp only [Opt.val, nought] at UN
  have en := fun w => eq_nought w
  simp only [Opt.val, nought] at en
  go_wp2_with fail
  (with_reducible refine UN.out.mono ?_)
  rintro e w3 ⟨rfl, o⟩
  have O3 := Lib.hid ((O2.out.same o).alloc (.cells nought.cells 23))
  have R3 := Lib.hid ((o.still R2.out).alloc (.cells nought.cells 23))
  have U3 := Lib.hid (Row.fresh w3 23 nought.cells)
  clear o O2 R2 UN
  simp only [nought, Opt.cells] at O3 R3 U3
  go_upto_region 8 with fail
  have B3 := Lib.hid (HB.out.still O3.out)
  revert O3 R3 U3 B3
  generalize w3.heap.size = g6
  generalize hW : w3.alloc _ = w4
  clear hW
  intro O4 R4 U4 B4
  obtain ⟨c0, c1, c2, c3, c4, c5, c6, c7, c8, c9, c10, c11, c12, c13⟩ := Row.fourteen (b0 := b0) (b1 := b1) (b2 := b2) (b3 := b3) (b4 := b4) (b5 := b5) (b6 := b6) (b7 := b7) (b8 := b8) (b9 := b9) (b10 := b10) (b11 := b11) (b12 := b12) (b13 := b13) R4.out
  go_wp2_with fail
  (with_reducible refine (CA.out _ B4.out).mono ?_)
  rintro e w5 ⟨rfl, o⟩
  have O5 := Lib.hid (O4.out.same o)
  obtain ⟨k0, k1, k2, k3, k4, k5, k6, k7, k8, k9, k10, k11, k12, k13⟩ := Row.fourteen (b0 := 0) (b1 := 0) (b2 := 0) (b3 := 0) (b4 := 0) (b5 := 0) (b6 := 0) (b7 := 0) (b8 := 0) (b9 := 0) (b10 := 0) (b11 := 0) (b12 := 0) (b13 := 0) (o.still U4.out)
  clear o c0 c1 c2 c3 c4 c5 c6 c7 c8 c9 c10 c11 c12 c13
  go_wp2_with fail
  go_ret
  exact ⟨rfl, O5.out.to_below⟩
set_option maxHeartbeats 1000000 in
theorem walk_true_high (w : World) (hb : Bd w) (o : Opt) (hm : o.mayB = true) (b : Int) (h1 : 1 ≤ b) (h2 : 256 < b) :
    Calls Tryd.prog 3 #[o.val, .int .i64 b] w fun e w' => e = .returned (.bool true) ∧ Below w.heap.size w w' := by
  have HB := Lib.hid hb
  have MA := Lib.hid (fun w' => rmay_any o w')
  have CA := Lib.hid (fun (w' : World) (h : Bd w') => opt_may o w' h)
  rw [hm] at MA CA
  simp only [if_true] at CA
  clear hb hm
  obtain ⟨b0, b1, b2, b3, b4, b5, b6, b7, b8, b9, b10, b11, b12, b13⟩ := o
  unfold Opt.val at *
  dsimp only at *
  have OB := Lib.hid ((Only.refl none_ w).alloc (.cells (Opt.cells ⟨b0, b1, b2, b3, b4, b5, b6, b7, b8, b9, b10, b11, b12, b13⟩) 23))
  have RB := Lib.hid (Row.fresh w 23 (Opt.cells ⟨b0, b1, b2, b3, b4, b5, b6, b7, b8, b9, b10, b11, b12, b13⟩))
  simp only [Opt.cells] at OB
  go_enter Tryd.func3, Tryd.ntmps3
  go_wp2_with fail
  (with_reducible refine (awake_any _ (HB.out.still OB.out)).mono ?_)
  rintro e w1 ⟨rfl, o⟩
  have O1 := Lib.hid (OB.out.same o)
  have R1 := Lib.hid (o.still RB.out)
  clear o OB RB
  obtain ⟨c0, c1, c2, c3, c4, c5, c6, c7, c8, c9, c10, c11, c12, c13⟩ := R1.out.fourteen
  go_wp2_with fail
  (with_reducible refine (MA.out _).mono ?_)
  rintro e w2 ⟨rfl, o⟩
  have O2 := Lib.hid (O1.out.same o)
  have R2 := Lib.hid (o.still R1.out)
  clear o O1 R1 c0 c1 c2 c3 c4 c5 c6 c7 c8 c9 c10 c11 c12 c13 MA
  have UN := Lib.hid (usual_no b w2 (HB.out.still O2.out) (by omega))
  simp only [Opt.val, nought] at UN
  have en := fun w => eq_nought w
  simp only [Opt.val, nought] at en
  go_wp2_with fail
  (with_reducible refine UN.out.mono ?_)
  rintro e w3 ⟨rfl, o⟩
  have O3 := Lib.hid ((O2.out.same o).alloc (.cells nought.cells 23))
  have R3 := Lib.hid ((o.still R2.out).alloc (.cells nought.cells 23))
  have U3 := Lib.hid (Row.fresh w3 23 nought.cells)
  clear o O2 R2 UN
  simp only [nought, Opt.cells] at O3 R3 U3
  go_upto_region 8 with fail
  have B3 := Lib.hid (HB.out.still O3.out)
  revert O3 R3 U3 B3
  generalize w3.heap.size = g6
  generalize hW : w3.alloc _ = w4
  clear hW
  intro O4 R4 U4 B4
  obtain ⟨c0, c1, c2, c3, c4, c5, c6, c7, c8, c9, c10, c11, c12, c13⟩ := Row.fourteen (b0 := b0) (b1 := b1) (b2 := b2) (b3 := b3) (b4 := b4) (b5 := b5) (b6 := b6) (b7 := b7) (b8 := b8) (b9 := b9) (b10 := b10) (b11 := b11) (b12 := b12) (b13 := b13) R4.out
  go_wp2_with fail
  (with_reducible refine (CA.out _ B4.out).mono ?_)
  rintro e w5 ⟨rfl, o⟩
  have O5 := Lib.hid (O4.out.same o)
  obtain ⟨k0, k1, k2, k3, k4, k5, k6, k7, k8, k9, k10, k11, k12, k13⟩ := Row.fourteen (b0 := 0) (b1 := 0) (b2 := 0) (b3 := 0) (b4 := 0) (b5 := 0) (b6 := 0) (b7 := 0) (b8 := 0) (b9 := 0) (b10 := 0) (b11 := 0) (b12 := 0) (b13 := 0) (o.still U4.out)
  clear o c0 c1 c2 c3 c4 c5 c6 c7 c8 c9 c10 c11 c12 c13
  go_wp2_with fail
  go_ret
  exact ⟨rfl, O5.out.to_below⟩
set_option maxHeartbeats 1000000 in
theorem walk_false_in (w : World) (hb : Bd w) (o : Opt) (hm : o.mayB = false) (b : Int) (h1 : 1 ≤ b) (h2 : b ≤ 256) :
    Calls Tryd.prog 3 #[o.val, .int .i64 b] w fun e w' => e = .returned (.bool true) ∧ Below w.heap.size w w' := by
  have HB := Lib.hid hb
  have MA := Lib.hid (fun w' => rmay_any o w')
  have CA := Lib.hid (fun (w' : World) (h : Bd w') => opt_may o w' h)
  rw [hm] at MA CA
  simp only [Bool.false_eq_true, if_false] at CA
  clear hb hm
  obtain ⟨b0, b1, b2, b3, b4, b5, b6, b7, b8, b9, b10, b11, b12, b13⟩ := o
  unfold Opt.val at *
  dsimp only at *
  have OB := Lib.hid ((Only.refl none_ w).alloc (.cells (Opt.cells ⟨b0, b1, b2, b3, b4, b5, b6, b7, b8, b9, b10, b11, b12, b13⟩) 23))
  have RB := Lib.hid (Row.fresh w 23 (Opt.cells ⟨b0, b1, b2, b3, b4, b5, b6, b7, b8, b9, b10, b11, b12, b13⟩))
  simp only [Opt.cells] at OB
  go_enter Tryd.func3, Tryd.ntmps3
  go_wp2_with fail
  (with_reducible refine (awake_any _ (HB.out.still OB.out)).mono ?_)
  rintro e w1 ⟨rfl, o⟩
  have O1 := Lib.hid (OB.out.same o)
  have R1 := Lib.hid (o.still RB.out)
  clear o OB RB
  obtain ⟨c0, c1, c2, c3, c4, c5, c6, c7, c8, c9, c10, c11, c12, c13⟩ := R1.out.fourteen
  go_wp2_with fail
  (with_reducible refine (MA.out _).mono ?_)
  rintro e w2 ⟨rfl, o⟩
  have O2 := Lib.hid (O1.out.same o)
  have R2 := Lib.hid (o.still R1.out)
  clear o O1 R1 c0 c1 c2 c3 c4 c5 c6 c7 c8 c9 c10 c11 c12 c13 MA
  have UY := Lib.hid (usual_yes b w2 (HB.out.still O2.out) h1 h2)
  have MY := Lib.hid (usual_may b h1 h2)
  simp only [Opt.val, usual] at UY
  go_wp2_with fail
  (with_reducible refine UY.out.mono ?_)
  rintro e w3 ⟨rfl, o⟩
  have O3 := Lib.hid ((O2.out.same o).alloc (.cells (usual b).cells 23))
  have R3 := Lib.hid ((o.still R2.out).alloc (.cells (usual b).cells 23))
  have U3 := Lib.hid (Row.fresh w3 23 (usual b).cells)
  clear o O2 R2 UY
  simp only [usual, Opt.cells] at O3 R3 U3
  go_upto_region 9 with fail
  revert O3 R3 U3
  generalize w3.heap.size = g6
  generalize hW : w3.alloc _ = w4
  clear hW
  intro O4 R4 U4
  have u0 : ∀ j : After w4, j.val.cell? ⟨g6, 0, none⟩ = some (.int .i64 b) := fun j => ((j.only.still U4.out).cell 0).trans rfl
  have u1 : ∀ j : After w4, j.val.cell? ⟨g6, 1, none⟩ = some (.int .i64 8) := fun j => ((j.only.still U4.out).cell 1).trans rfl
  have u2 : ∀ j : After w4, j.val.cell? ⟨g6, 2, none⟩ = some (.int .i64 2) := fun j => ((j.only.still U4.out).cell 2).trans rfl
  have u3 : ∀ j : After w4, j.val.cell? ⟨g6, 3, none⟩ = some (.int .i64 16) := fun j => ((j.only.still U4.out).cell 3).trans rfl
  have u4 : ∀ j : After w4, j.val.cell? ⟨g6, 4, none⟩ = some (.int .i64 8) := fun j => ((j.only.still U4.out).cell 4).trans rfl
  have u5 : ∀ j : After w4, j.val.cell? ⟨g6, 5, none⟩ = some (.int .i64 4) := fun j => ((j.only.still U4.out).cell 5).trans rfl
  have u6 : ∀ j : After w4, j.val.cell? ⟨g6, 6, none⟩ = some (.int .i64 4) := fun j => ((j.only.still U4.out).cell 6).trans rfl
  have u7 : ∀ j : After w4, j.val.cell? ⟨g6, 7, none⟩ = some (.int .i64 3) := fun j => ((j.only.still U4.out).cell 7).trans rfl
  have u8 : ∀ j : After w4, j.val.cell? ⟨g6, 8, none⟩ = some (.int .i64 8) := fun j => ((j.only.still U4.out).cell 8).trans rfl
  have u9 : ∀ j : After w4, j.val.cell? ⟨g6, 9, none⟩ = some (.int .i64 32) := fun j => ((j.only.still U4.out).cell 9).trans rfl
  have u10 : ∀ j : After w4, j.val.cell? ⟨g6, 10, none⟩ = some (.int .i64 4) := fun j => ((j.only.still U4.out).cell 10).trans rfl
  have u11 : ∀ j : After w4, j.val.cell? ⟨g6, 11, none⟩ = some (.int .i64 8) := fun j => ((j.only.still U4.out).cell 11).trans rfl
  have u12 : ∀ j : After w4, j.val.cell? ⟨g6, 12, none⟩ = some (.int .i64 16) := fun j => ((j.only.still U4.out).cell 12).trans rfl
  have u13 : ∀ j : After w4, j.val.cell? ⟨g6, 13, none⟩ = some (.int .i64 4) := fun j => ((j.only.still U4.out).cell 13).trans rfl
  have d0 : ∀ j : After w4, j.val.cell? ⟨w.heap.size, 0, none⟩ = some (.int .i64 b0) := fun j => ((j.only.still R4.out).cell 0).trans rfl
  have d1 : ∀ j : After w4, j.val.cell? ⟨w.heap.size, 1, none⟩ = some (.int .i64 b1) := fun j => ((j.only.still R4.out).cell 1).trans rfl
  have d2 : ∀ j : After w4, j.val.cell? ⟨w.heap.size, 2, none⟩ = some (.int .i64 b2) := fun j => ((j.only.still R4.out).cell 2).trans rfl
  have d3 : ∀ j : After w4, j.val.cell? ⟨w.heap.size, 3, none⟩ = some (.int .i64 b3) := fun j => ((j.only.still R4.out).cell 3).trans rfl
  have d4 : ∀ j : After w4, j.val.cell? ⟨w.heap.size, 4, none⟩ = some (.int .i64 b4) := fun j => ((j.only.still R4.out).cell 4).trans rfl
  have d5 : ∀ j : After w4, j.val.cell? ⟨w.heap.size, 5, none⟩ = some (.int .i64 b5) := fun j => ((j.only.still R4.out).cell 5).trans rfl
  have d6 : ∀ j : After w4, j.val.cell? ⟨w.heap.size, 6, none⟩ = some (.int .i64 b6) := fun j => ((j.only.still R4.out).cell 6).trans rfl
  have d7 : ∀ j : After w4, j.val.cell? ⟨w.heap.size, 7, none⟩ = some (.int .i64 b7) := fun j => ((j.only.still R4.out).cell 7).trans rfl
  have d8 : ∀ j : After w4, j.val.cell? ⟨w.heap.size, 8, none⟩ = some (.int .i64 b8) := fun j => ((j.only.still R4.out).cell 8).trans rfl
  have d9 : ∀ j : After w4, j.val.cell? ⟨w.heap.size, 9, none⟩ = some (.int .i64 b9) := fun j => ((j.only.still R4.out).cell 9).trans rfl
  have d10 : ∀ j : After w4, j.val.cell? ⟨w.heap.size, 10, none⟩ = some (.int .i64 b10) := fun j => ((j.only.still R4.out).cell 10).trans rfl
  have d11 : ∀ j : After w4, j.val.cell? ⟨w.heap.size, 11, none⟩ = some (.int .i64 b11) := fun j => ((j.only.still R4.out).cell 11).trans rfl
  have d12 : ∀ j : After w4, j.val.cell? ⟨w.heap.size, 12, none⟩ = some (.int .i64 b12) := fun j => ((j.only.still R4.out).cell 12).trans rfl
  have d13 : ∀ j : After w4, j.val.cell? ⟨w.heap.size, 13, none⟩ = some (.int .i64 b13) := fun j => ((j.only.still R4.out).cell 13).trans rfl
  have eu : ∀ w : World, _ := fun w => eq_usual b w
  have C1 := Lib.hid (fun i : After w4 => Calls.after i (CA.out i.val ((HB.out.still O4.out).still i.only)))
  have C2 := Lib.hid (fun i : After w4 => Calls.after (v := .int .i64 0) i (by have := opt_may (usual b) i.val ((HB.out.still O4.out).still i.only); rw [MY.out] at this; exact this))
  have C3 := Lib.hid (fun i : After w4 => Calls.after i (rusual_any b i.val))
  simp only [Opt.val, usual] at C2 C3 eu
  clear MY CA h1 h2
  refine wp_region_after (w0 := w4) (by kernel_rfl) (lex_from lexOptions (by kernel_rfl)) (Only.refl _ _) ?_
  repeat (go_big_quiet_step (first | (with_reducible exact C1.out _) | (with_reducible exact C2.out _) | (with_reducible exact C3.out _)))
  refine wpQuiet_nil ?_
  intro _ hw'
  obtain ⟨⟨wn, hn⟩, rfl⟩ := hw'
  go_wp2_with fail
  go_ret
  exact ⟨rfl, (O4.out.same hn).to_below⟩
set_option maxHeartbeats 1000000 in
theorem walk_false_low (w : World) (hb : Bd w) (o : Opt) (hm : o.mayB = false) (b : Int) (h2 : b < 1) :
    Calls Tryd.prog 3 #[o.val, .int .i64 b] w fun e w' => e = .returned (.bool true) ∧ Below w.heap.size w w' := by
  have HB := Lib.hid hb
  have MA := Lib.hid (fun w' => rmay_any o w')
  have CA := Lib.hid (fun (w' : World) (h : Bd w') => opt_may o w' h)
  rw [hm] at MA CA
  simp only [Bool.false_eq_true, if_false] at CA
  clear hb hm
  obtain ⟨b0, b1, b2, b3, b4, b5, b6, b7, b8, b9, b10, b11, b12, b13⟩ := o
  unfold Opt.val at *
  dsimp only at *
  have OB := Lib.hid ((Only.refl none_ w).alloc (.cells (Opt.cells ⟨b0, b1, b2, b3, b4, b5, b6, b7, b8, b9, b10, b11, b12, b13⟩) 23))
  have RB := Lib.hid (Row.fresh w 23 (Opt.cells ⟨b0, b1, b2, b3, b4, b5, b6, b7, b8, b9, b10, b11, b12, b13⟩))
  simp only [Opt.cells] at OB
  go_enter Tryd.func3, Tryd.ntmps3
  go_wp2_with fail
  (with_reducible refine (awake_any _ (HB.out.still OB.out)).mono ?_)
  rintro e w1 ⟨rfl, o⟩
  have O1 := Lib.hid (OB.out.same o)
  have R1 := Lib.hid (o.still RB.out)
  clear o OB RB
  obtain ⟨c0, c1, c2, c3, c4, c5, c6, c7, c8, c9, c10, c11, c12, c13⟩ := R1.out.fourteen
  go_wp2_with fail
  (with_reducible refine (MA.out _).mono ?_)
  rintro e w2 ⟨rfl, o⟩
  have O2 := Lib.hid (O1.out.same o)
  have R2 := Lib.hid (o.still R1.out)
  clear o O1 R1 c0 c1 c2 c3 c4 c5 c6 c7 c8 c9 c10 c11 c12 c13 MA
  have UN := Lib.hid (usual_no b w2 (HB.out.still O2.out) (by omega))
  simp only [Opt.val, nought] at UN
  have en := fun w => eq_nought w
  simp only [Opt.val, nought] at en
  go_wp2_with fail
  (with_reducible refine UN.out.mono ?_)
  rintro e w3 ⟨rfl, o⟩
  have O3 := Lib.hid ((O2.out.same o).alloc (.cells nought.cells 23))
  have R3 := Lib.hid ((o.still R2.out).alloc (.cells nought.cells 23))
  have U3 := Lib.hid (Row.fresh w3 23 nought.cells)
  clear o O2 R2 UN
  simp only [nought, Opt.cells] at O3 R3 U3
  go_upto_region 8 with fail
  have B3 := Lib.hid (HB.out.still O3.out)
  revert O3 R3 U3 B3
  generalize w3.heap.size = g6
  generalize hW : w3.alloc _ = w4
  clear hW
  intro O4 R4 U4 B4
  obtain ⟨c0, c1, c2, c3, c4, c5, c6, c7, c8, c9, c10, c11, c12, c13⟩ := Row.fourteen (b0 := b0) (b1 := b1) (b2 := b2) (b3 := b3) (b4 := b4) (b5 := b5) (b6 := b6) (b7 := b7) (b8 := b8) (b9 := b9) (b10 := b10) (b11 := b11) (b12 := b12) (b13 := b13) R4.out
  go_wp2_with fail
  (with_reducible refine (CA.out _ B4.out).mono ?_)
  rintro e w5 ⟨rfl, o⟩
  have O5 := Lib.hid (O4.out.same o)
  obtain ⟨k0, k1, k2, k3, k4, k5, k6, k7, k8, k9, k10, k11, k12, k13⟩ := Row.fourteen (b0 := 0) (b1 := 0) (b2 := 0) (b3 := 0) (b4 := 0) (b5 := 0) (b6 := 0) (b7 := 0) (b8 := 0) (b9 := 0) (b10 := 0) (b11 := 0) (b12 := 0) (b13 := 0) (o.still U4.out)
  clear o c0 c1 c2 c3 c4 c5 c6 c7 c8 c9 c10 c11 c12 c13
  go_wp2_with fail
  go_ret
  exact ⟨rfl, O5.out.to_below⟩
set_option maxHeartbeats 1000000 in
theorem walk_false_high (w : World) (hb : Bd w) (o : Opt) (hm : o.mayB = false) (b : Int) (h1 : 1 ≤ b) (h2 : 256 < b) :
    Calls Tryd.prog 3 #[o.val, .int .i64 b] w fun e w' => e = .returned (.bool true) ∧ Below w.heap.size w w' := by
  have HB := Lib.hid hb
  have MA := Lib.hid (fun w' => rmay_any o w')
  have CA := Lib.hid (fun (w' : World) (h : Bd w') => opt_may o w' h)
  rw [hm] at MA CA
  simp only [Bool.false_eq_true, if_false] at CA
  clear hb hm
  obtain ⟨b0, b1, b2, b3, b4, b5, b6, b7, b8, b9, b10, b11, b12, b13⟩ := o
  unfold Opt.val at *
  dsimp only at *
  have OB := Lib.hid ((Only.refl none_ w).alloc (.cells (Opt.cells ⟨b0, b1, b2, b3, b4, b5, b6, b7, b8, b9, b10, b11, b12, b13⟩) 23))
  have RB := Lib.hid (Row.fresh w 23 (Opt.cells ⟨b0, b1, b2, b3, b4, b5, b6, b7, b8, b9, b10, b11, b12, b13⟩))
  simp only [Opt.cells] at OB
  go_enter Tryd.func3, Tryd.ntmps3
  go_wp2_with fail
  (with_reducible refine (awake_any _ (HB.out.still OB.out)).mono ?_)
  rintro e w1 ⟨rfl, o⟩
  have O1 := Lib.hid (OB.out.same o)
  have R1 := Lib.hid (o.still RB.out)
  clear o OB RB
  obtain ⟨c0, c1, c2, c3, c4, c5, c6, c7, c8, c9, c10, c11, c12, c13⟩ := R1.out.fourteen
  go_wp2_with fail
  (with_reducible refine (MA.out _).mono ?_)
  rintro e w2 ⟨rfl, o⟩
  have O2 := Lib.hid (O1.out.same o)
  have R2 := Lib.hid (o.still R1.out)
  clear o O1 R1 c0 c1 c2 c3 c4 c5 c6 c7 c8 c9 c10 c11 c12 c13 MA
  have UN := Lib.hid (usual_no b w2 (HB.out.still O2.out) (by omega))
  simp only [Opt.val, nought] at UN
  have en := fun w => eq_nought w
  simp only [Opt.val, nought] at en
  go_wp2_with fail
  (with_reducible refine UN.out.mono ?_)
  rintro e w3 ⟨rfl, o⟩
  have O3 := Lib.hid ((O2.out.same o).alloc (.cells nought.cells 23))
  have R3 := Lib.hid ((o.still R2.out).alloc (.cells nought.cells 23))
  have U3 := Lib.hid (Row.fresh w3 23 nought.cells)
  clear o O2 R2 UN
  simp only [nought, Opt.cells] at O3 R3 U3
  go_upto_region 8 with fail
  have B3 := Lib.hid (HB.out.still O3.out)
  revert O3 R3 U3 B3
  generalize w3.heap.size = g6
  generalize hW : w3.alloc _ = w4
  clear hW
  intro O4 R4 U4 B4
  obtain ⟨c0, c1, c2, c3, c4, c5, c6, c7, c8, c9, c10, c11, c12, c13⟩ := Row.fourteen (b0 := b0) (b1 := b1) (b2 := b2) (b3 := b3) (b4 := b4) (b5 := b5) (b6 := b6) (b7 := b7) (b8 := b8) (b9 := b9) (b10 := b10) (b11 := b11) (b12 := b12) (b13 := b13) R4.out
  go_wp2_with fail
  (with_reducible refine (CA.out _ B4.out).mono ?_)
  rintro e w5 ⟨rfl, o⟩
  have O5 := Lib.hid (O4.out.same o)
  obtain ⟨k0, k1, k2, k3, k4, k5, k6, k7, k8, k9, k10, k11, k12, k13⟩ := Row.fourteen (b0 := 0) (b1 := 0) (b2 := 0) (b3 := 0) (b4 := 0) (b5 := 0) (b6 := 0) (b7 := 0) (b8 := 0) (b9 := 0) (b10 := 0) (b11 := 0) (b12 := 0) (b13 := 0) (o.still U4.out)
  clear o c0 c1 c2 c3 c4 c5 c6 c7 c8 c9 c10 c11 c12 c13
  go_wp2_with fail
  go_ret
  exact ⟨rfl, O5.out.to_below⟩
theorem walk (w : World) (hb : Bd w) (o : Opt) (wo : True) (b : Int) (hwb : (Lit.int .i64 b).wf = true) :
    Calls Tryd.prog 3 #[o.val, .int .i64 b] w fun e w' => e = .returned (.bool true) ∧ Below w.heap.size w w' := by
  cases hm : o.mayB with
  | true =>
    by_cases h1 : 1 ≤ b
    · by_cases h2 : b ≤ 256
      · exact walk_true_in w hb o hm b h1 h2
      · exact walk_true_high w hb o hm b h1 (by omega)
    · exact walk_true_low w hb o hm b (by omega)
  | false =>
    by_cases h1 : 1 ≤ b
    · by_cases h2 : b ≤ 256
      · exact walk_false_in w hb o hm b h1 h2
      · exact walk_false_high w hb o hm b h1 (by omega)
    · exact walk_false_low w hb o hm b (by omega)


set_option maxRecDepth 100000 in
theorem lifted (os : Os) (started : os.Started) (H : Type) (enc : TypeId × Value → H) :
    ReturnsInHanded {} Tryd.checked os 3 .any (fun w args => (Rows.askOptionsSpec.pre enc Tryd.prog Tryd.f3 Rows.askOptionsRow.domain false w args ∧ laidMetH Tryd.prog laidB w) ∧ sizedMet enc Tryd.prog Tryd.f3 (OpenSpec.ofChange Rows.askOptionsSpec) false w args) (Rows.askOptionsSpec.post enc Tryd.prog Tryd.f3 false true false false) := by
  refine returnsInHanded_of_change_and (C := Tryd.checked) (X := fun w _ => laidMetH Tryd.prog laidB w) (fun _ _ _ hh h => h.of_heap hh) own started (by kernel_rfl) Tryd.func3
    (ChangeSpec.witness_shaped (enc := enc) (C := Tryd.checked) (os := os) (X := fun w _ => laidMetH Tryd.prog laidB w) false (World.laidAll Tryd.prog os laidB) #[.agg #[.int .i64 0, .int .i64 0, .int .i64 0, .int .i64 0, .int .i64 0, .int .i64 0, .int .i64 0, .int .i64 0, .int .i64 0, .int .i64 0, .int .i64 0, .int .i64 0, .int .i64 0, .int .i64 0], .int .i64 0] 8 (World.laidAll_os _ _ _)
      (laid_shaped os) (by kernel_rfl) (by kernel_rfl) (by kernel_rfl) (laid_met os _)) ?_
  intro W base args ds gs before hval0 hW _ _ hL _
  have HBD := Lib.hid (bd_of hL)
  have hval : ∀ (j : Nat) t v, Tryd.f3.params[j]? = some t → args[j]? = some v → Value.okWide Tryd.prog W .any base t v := hval0
  have hW' := hW
  obtain ⟨p, q, hA0, hV, rfl, hfz, hnd⟩ := hW
  have hA : DataW.TrodAll enc Tryd.prog W 0 (fun _ => true) true Tryd.f3.params.toList args.toList ds p := hA0
  rw [Tryd.params3] at hA hval
  obtain ⟨v0, vs0, d0, ds0, p0, q0, hargs, rfl, rfl, h0, r0⟩ := trodAll_cons hA
  obtain ⟨v1, vs1, d1, ds1, p1, q1, rfl, rfl, rfl, h1, r1⟩ := trodAll_cons r0
  obtain ⟨rfl, rfl, rfl⟩ := trodAll_nil r1
  obtain rfl : args = #[v0, v1] := by cases args; simp_all
  obtain ⟨rfl, rfl⟩ := trodVars_none hV
  have o0 := hval 0 23 v0 rfl rfl
  have k0 := h0
  have lt0 : ∀ x ∈ p0, x.block < W.heap.size := by obtain ⟨m, hm⟩ := k0; exact DataW.trod_lt m _ _ _ hm
  obtain ⟨a0, rfl, wa0⟩ := open_opt W base H enc v0 d0 p0 o0 h0
  obtain ⟨a1, rfl, rfl, rfl, w1⟩ := open_int Tryd.underlying3 (hval 1 3 v1 rfl rfl) h1
  have shut : ∀ W', Below W.heap.size W W' → DataW.TrodAll enc Tryd.prog W' 0 (fun b => decide (b < W.heap.size)) true [23, 3] [a0.val, .int .i64 a1] [d0, .lit (.int .i64 a1)] (p0 ++ ([] ++ [])) := fun W' bel =>
    (trodAll_cons_mk (Below.trod laidOut (by kernel_rfl) (of_decide_eq_true (by kernel_rfl)) k0 bel lt0) (trodAll_cons_mk (shut_int Tryd.underlying3 w1) trodAll_mk0))
  clear hA0 hval0
  refine (walk W HBD.out a0 wa0 a1 w1).mono fun e W' ⟨he, bel⟩ => ?_
  subst he
  exact ⟨_, rfl, _, _, _, [], _, [], hW', trodAll_mk1 (shut_bool Tryd.underlying4 _), shut W' bel, rfl, bel.frame _, fun h => by cases h⟩

theorem over : Rows.askOptionsRow.holds Tryd.pinned (OpenSpec.ofChange Rows.askOptionsSpec) :=
  OpenClaim.holds_of_wide 3 Tryd.f3 rfl rfl rfl rfl rfl rfl rfl ⟨rfl, rfl, rfl, rfl, rfl⟩ rfl rfl rfl rfl rfl (by kernel_rfl) Tryd.func3 (by kernel_rfl)
    (of_decide_eq_true (by kernel_rfl)) (by unfold Func.isWrapper; first | (rw [if_pos (by decide +kernel)]; kernel_rfl) | (rw [if_neg (by decide +kernel)]; exact ⟨rfl, rfl⟩))
    (fun os started H enc _ => lifted os started H enc)

theorem askOptions_card : Rows.AskOptionsCardSaid :=
  Claim7.holds_tied_plain_at .later [] [.wider] true (true, "ffaf86822ef19d5ae19bd89969a39f6907919f4d08cef1e4c25f54df3748d345") false over (fun _ h => by cases h) (by kernel_rfl) (fun _ h => by cases h) askOptions_row_tie rfl ⟨rfl, rfl⟩ (by kernel_rfl) rfl
    (fun f fn hf hfn => by
      obtain rfl : f = 3 := Option.some.inj ((show Tryd.prog.funcNamed "forerunner/forerunnerlaw15.AskOptions" = some 3 by kernel_rfl).symm.trans hf) |>.symm
      obtain rfl : fn = Tryd.f3 := (Option.some.inj (Tryd.func3.symm.trans hfn)).symm
      exact ⟨by kernel_rfl, fun j t ht => by
        rw [Tryd.params3] at ht
        have hm : t ∈ [23, 3] := by simpa using Array.mem_of_getElem? ht
        have hall : ([23, 3].all fun u => !Tryd.prog.wantsStandIn u) = true := by kernel_rfl
        exact (show Tryd.prog.wantsStandIn t = false by simpa using List.all_eq_true.1 hall t hm)⟩)
    (by kernel_rfl)
#print axioms askOptions_card
end Go.Proofs.YtnhcgnmanonmaaaDoor.askOptions

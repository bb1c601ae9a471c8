/- What awake asks: answers that the document fixes. -/
import Derived.Test.YtnhcgnmanonmaaaDoorAt
import Derived.Test.YtnhcgnmanonmaaaDoorAu
import Derived.Test.YtnhcgnmanonmaaaDoorAfter
import Derived.Deep.DeepCutAuto
namespace Go.Proofs.YtnhcgnmanonmaaaDoor
open Go.RowKit
set_option linter.unusedVariables false

def oRead : Opn := ⟨1, 1, 7, 3, none, 0, 0, false⟩
def oBeyond : Opn := ⟨1, 1, 8, 3, none, 0, 0, false⟩
def oWell : Opn := ⟨1, 1, 7, 3, none, 0, 0, true⟩
def oFin : Opn := ⟨5, 1, 0, 0, none, 0, 0, true⟩
theorem lexAwake : Region.lexB .any (opsAt Tryd.f8 6).toArray = true := by kernel_rfl
theorem k_op (b : Int) (o : Opn) (c : Int) (w : World) (h : opC b o = c) (hf : -9223372036854775808 ≤ o.first ∧ o.first ≤ 9223372036854775807) :
    Calls Tryd.prog 13 #[.int .i64 b, o.val] w fun e w' => e = .returned (.int .i64 c) ∧ Only none_ w w' := h ▸ op_any b o w hf
theorem k_run (o : Opn) (r : Rn) (w : World) (h : runV o = r) (hf : -9223372036854775808 ≤ o.first ∧ o.first ≤ 9223372036854775807) :
    Calls Tryd.prog 15 #[o.val] w fun e w' => e = .returned r.val ∧ Only none_ w w' := h ▸ run_any o w hf
set_option maxHeartbeats 1000000 in
theorem awake_any (w : World) (hb : Bd w) : Calls Tryd.prog 8 #[] w fun e w' => e = .returned (.bool true) ∧ Only none_ w w' := by
  have HB := Lib.hid hb
  clear hb
  have UY := Lib.hid (usual_yes 10 w HB.out (by decide) (by decide))
  simp only [Opt.val, usual] at UY
  go_enter Tryd.func8, Tryd.ntmps8
  go_wp2_with fail
  (with_reducible refine UY.out.mono ?_)
  rintro e w1 ⟨rfl, o⟩
  have O1 := Lib.hid (o.alloc (.cells (usual 10).cells 23))
  have R1 := Lib.hid (Row.fresh w1 23 (usual 10).cells)
  have UN := Lib.hid (usual_no 257 (w1.alloc (.cells (usual 10).cells 23)) (HB.out.still O1.out) (by decide))
  simp only [Opt.val, Opt.cells, usual, nought] at UN R1 O1
  clear UY o
  go_wp2_with fail
  (with_reducible refine UN.out.mono ?_)
  rintro e w2 ⟨rfl, o⟩
  have R2 := Lib.hid (o.still R1.out)
  have O2 := Lib.hid (O1.out.same o)
  clear R1 O1 UN o
  revert R2
  generalize w1.heap.size = g1
  intro R2
  go_upto_region 6 with fail
  obtain ⟨q1, q2, q3, q4⟩ : Row ((((w2.alloc (.cells nought.cells 23)).alloc (.cells oRead.cells 34)).alloc (.cells oBeyond.cells 34)).alloc (.cells oWell.cells 34)) (w2.heap.size + 1) 34 oRead.cells ∧
      Row ((((w2.alloc (.cells nought.cells 23)).alloc (.cells oRead.cells 34)).alloc (.cells oBeyond.cells 34)).alloc (.cells oWell.cells 34)) (w2.heap.size + 1 + 1) 34 oBeyond.cells ∧
      Row ((((w2.alloc (.cells nought.cells 23)).alloc (.cells oRead.cells 34)).alloc (.cells oBeyond.cells 34)).alloc (.cells oWell.cells 34)) (w2.heap.size + 1 + 1 + 1) 34 oWell.cells ∧
      Only none_ w2 ((((w2.alloc (.cells nought.cells 23)).alloc (.cells oRead.cells 34)).alloc (.cells oBeyond.cells 34)).alloc (.cells oWell.cells 34)) := by
    have r1 := Row.fresh (w2.alloc (.cells nought.cells 23)) 34 oRead.cells
    have r2 := Row.fresh ((w2.alloc (.cells nought.cells 23)).alloc (.cells oRead.cells 34)) 34 oBeyond.cells
    have r3 := Row.fresh (((w2.alloc (.cells nought.cells 23)).alloc (.cells oRead.cells 34)).alloc (.cells oBeyond.cells 34)) 34 oWell.cells
    simp only [World.size_alloc] at r1 r2 r3
    exact ⟨(r1.alloc _).alloc _, r2.alloc _, r3, ((((Only.refl none_ w2).alloc _).alloc _).alloc _).alloc _⟩
  simp only [Opn.cells, nought, Opt.cells, oRead, oBeyond, oWell] at q1 q2 q3 q4
  have S1 := Lib.hid (q4.still R2.out)
  have S2 := Lib.hid q1
  have S3 := Lib.hid q2
  have S4 := Lib.hid q3
  have O3 := Lib.hid (O2.out.same q4)
  clear q1 q2 q3 q4 R2 O2
  revert S1 S2 S3 S4 O3
  generalize w2.heap.size = g2
  generalize hW : (((w2.alloc _).alloc _).alloc _).alloc _ = W0
  clear hW
  intro S1 S2 S3 S4 O3
  have B0 := Lib.hid (HB.out.still O3.out)
  have a0 : ∀ (i : After W0) (j : Nat) (v : Value), (usual 10).cells[j]? = some v → i.val.cell? ⟨g1, j, none⟩ = some v := fun i j v h => ((i.only.still S1.out).cell j).trans h
  have a1 : ∀ (i : After W0) (j : Nat) (v : Value), oRead.cells[j]? = some v → i.val.cell? ⟨g2 + 1, j, none⟩ = some v := fun i j v h => ((i.only.still S2.out).cell j).trans h
  have a2 : ∀ (i : After W0) (j : Nat) (v : Value), oBeyond.cells[j]? = some v → i.val.cell? ⟨g2 + 1 + 1, j, none⟩ = some v := fun i j v h => ((i.only.still S3.out).cell j).trans h
  have a3 : ∀ (i : After W0) (j : Nat) (v : Value), oWell.cells[j]? = some v → i.val.cell? ⟨g2 + 1 + 1 + 1, j, none⟩ = some v := fun i j v h => ((i.only.still S4.out).cell j).trans h
  have u0 : ∀ i : After W0, i.val.cell? ⟨g1, 0, none⟩ = some (.int .i64 10) := fun i => a0 i 0 _ rfl
  have u1 : ∀ i : After W0, i.val.cell? ⟨g1, 1, none⟩ = some (.int .i64 8) := fun i => a0 i 1 _ rfl
  have u2 : ∀ i : After W0, i.val.cell? ⟨g1, 2, none⟩ = some (.int .i64 2) := fun i => a0 i 2 _ rfl
  have u3 : ∀ i : After W0, i.val.cell? ⟨g1, 3, none⟩ = some (.int .i64 16) := fun i => a0 i 3 _ rfl
  have u4 : ∀ i : After W0, i.val.cell? ⟨g1, 4, none⟩ = some (.int .i64 8) := fun i => a0 i 4 _ rfl
  have u5 : ∀ i : After W0, i.val.cell? ⟨g1, 5, none⟩ = some (.int .i64 4) := fun i => a0 i 5 _ rfl
  have u6 : ∀ i : After W0, i.val.cell? ⟨g1, 6, none⟩ = some (.int .i64 4) := fun i => a0 i 6 _ rfl
  have u7 : ∀ i : After W0, i.val.cell? ⟨g1, 7, none⟩ = some (.int .i64 3) := fun i => a0 i 7 _ rfl
  have u8 : ∀ i : After W0, i.val.cell? ⟨g1, 8, none⟩ = some (.int .i64 8) := fun i => a0 i 8 _ rfl
  have u9 : ∀ i : After W0, i.val.cell? ⟨g1, 9, none⟩ = some (.int .i64 32) := fun i => a0 i 9 _ rfl
  have u10 : ∀ i : After W0, i.val.cell? ⟨g1, 10, none⟩ = some (.int .i64 4) := fun i => a0 i 10 _ rfl
  have u11 : ∀ i : After W0, i.val.cell? ⟨g1, 11, none⟩ = some (.int .i64 8) := fun i => a0 i 11 _ rfl
  have u12 : ∀ i : After W0, i.val.cell? ⟨g1, 12, none⟩ = some (.int .i64 16) := fun i => a0 i 12 _ rfl
  have u13 : ∀ i : After W0, i.val.cell? ⟨g1, 13, none⟩ = some (.int .i64 4) := fun i => a0 i 13 _ rfl
  have r0 : ∀ i : After W0, i.val.cell? ⟨g2 + 1, 0, none⟩ = some (.int .i64 1) := fun i => a1 i 0 _ rfl
  have r1 : ∀ i : After W0, i.val.cell? ⟨g2 + 1, 1, none⟩ = some (.int .i64 1) := fun i => a1 i 1 _ rfl
  have r2 : ∀ i : After W0, i.val.cell? ⟨g2 + 1, 2, none⟩ = some (.int .i64 7) := fun i => a1 i 2 _ rfl
  have r3 : ∀ i : After W0, i.val.cell? ⟨g2 + 1, 3, none⟩ = some (.int .i64 3) := fun i => a1 i 3 _ rfl
  have r4 : ∀ i : After W0, i.val.cell? ⟨g2 + 1, 4, none⟩ = some (.slice none 0 0) := fun i => a1 i 4 _ rfl
  have r5 : ∀ i : After W0, i.val.cell? ⟨g2 + 1, 5, none⟩ = some (.bool false) := fun i => a1 i 5 _ rfl
  have y0 : ∀ i : After W0, i.val.cell? ⟨g2 + 1 + 1, 0, none⟩ = some (.int .i64 1) := fun i => a2 i 0 _ rfl
  have y1 : ∀ i : After W0, i.val.cell? ⟨g2 + 1 + 1, 1, none⟩ = some (.int .i64 1) := fun i => a2 i 1 _ rfl
  have y2 : ∀ i : After W0, i.val.cell? ⟨g2 + 1 + 1, 2, none⟩ = some (.int .i64 8) := fun i => a2 i 2 _ rfl
  have y3 : ∀ i : After W0, i.val.cell? ⟨g2 + 1 + 1, 3, none⟩ = some (.int .i64 3) := fun i => a2 i 3 _ rfl
  have y4 : ∀ i : After W0, i.val.cell? ⟨g2 + 1 + 1, 4, none⟩ = some (.slice none 0 0) := fun i => a2 i 4 _ rfl
  have y5 : ∀ i : After W0, i.val.cell? ⟨g2 + 1 + 1, 5, none⟩ = some (.bool false) := fun i => a2 i 5 _ rfl
  have z0 : ∀ i : After W0, i.val.cell? ⟨g2 + 1 + 1 + 1, 0, none⟩ = some (.int .i64 1) := fun i => a3 i 0 _ rfl
  have z1 : ∀ i : After W0, i.val.cell? ⟨g2 + 1 + 1 + 1, 1, none⟩ = some (.int .i64 1) := fun i => a3 i 1 _ rfl
  have z2 : ∀ i : After W0, i.val.cell? ⟨g2 + 1 + 1 + 1, 2, none⟩ = some (.int .i64 7) := fun i => a3 i 2 _ rfl
  have z3 : ∀ i : After W0, i.val.cell? ⟨g2 + 1 + 1 + 1, 3, none⟩ = some (.int .i64 3) := fun i => a3 i 3 _ rfl
  have z4 : ∀ i : After W0, i.val.cell? ⟨g2 + 1 + 1 + 1, 4, none⟩ = some (.slice none 0 0) := fun i => a3 i 4 _ rfl
  have z5 : ∀ i : After W0, i.val.cell? ⟨g2 + 1 + 1 + 1, 5, none⟩ = some (.bool true) := fun i => a3 i 5 _ rfl
  clear a0 a1 a2 a3
  have eu : ∀ w : World, (Op.equalIn 10000 23 (usual 10).val (usual 10).val).run Tryd.prog w = .ok true w := fun w => by kernel_rfl
  have er : ∀ w : World, (Op.equalIn 10000 37 (Rn.val ⟨7, 3⟩) (Rn.val ⟨7, 3⟩)).run Tryd.prog w = .ok true w := fun w => by kernel_rfl
  have C1 := Lib.hid (fun i : After W0 => Calls.after i (rusual_any 10 i.val))
  have C2 := Lib.hid (fun i : After W0 => Calls.after (v := .int .i64 0) i (by have := opt_may (usual 10) i.val (B0.out.still i.only); rw [usual_may 10 (by decide) (by decide)] at this; exact this))
  have C3 := Lib.hid (fun i : After W0 => Calls.after (v := .int .i64 1) i (by have := opt_may nought i.val (B0.out.still i.only); rw [show nought.mayB = false from by decide +kernel] at this; exact this))
  have C4 := Lib.hid (fun i : After W0 => Calls.after i (k_op 10 oRead 0 i.val (by decide +kernel) (by decide)))
  have C5 := Lib.hid (fun i : After W0 => Calls.after i (k_op 10 oBeyond 6 i.val (by decide +kernel) (by decide)))
  have C6 := Lib.hid (fun i : After W0 => Calls.after i (k_op 10 oWell 1 i.val (by decide +kernel) (by decide)))
  have C7 := Lib.hid (fun i : After W0 => Calls.after i (k_run oRead ⟨7, 3⟩ i.val (by decide +kernel) (by decide)))
  have C8 := Lib.hid (fun i : After W0 => Calls.after i (k_op 10 oFin 0 i.val (by decide +kernel) (by decide)))
  simp only [Opt.val, usual, nought, oRead, oBeyond, oWell, oFin, Opn.val, Rn.val] at C1 C2 C3 C4 C5 C6 C7 C8 eu er
  refine wp_region_after (w0 := W0) (by kernel_rfl) (lex_from lexAwake (by kernel_rfl)) (Only.refl _ _) ?_
  repeat (go_big_quiet_step (first | (with_reducible exact C1.out _) | (with_reducible exact C2.out _) | (with_reducible exact C3.out _) | (with_reducible exact C4.out _) | (with_reducible exact C5.out _) | (with_reducible exact C6.out _) | (with_reducible exact C7.out _) | (with_reducible exact C8.out _)))
  refine wpQuiet_nil ?_
  intro _ hw'
  obtain ⟨⟨wn, hn⟩, rfl⟩ := hw'
  go_wp2_with fail
  go_ret
  exact ⟨rfl, O3.out.same hn⟩
end Go.Proofs.YtnhcgnmanonmaaaDoor

/- Whether a tally adds up: the document's own. No condition but that the counts fit 64 bits. -/
import Derived.Test.YtofmbipedljdkaaRg18
namespace Go.Proofs.Ytofmbipedljdkaa
open Go.RowKit
set_option linter.unusedVariables false

theorem lexS1 : Region.lexB .any (opsAt Try.f16 1).toArray = true := by kernel_rfl
theorem lexS2 : Region.lexB .any (opsAt Try.f16 2).toArray = true := by kernel_rfl
theorem lexS3 : Region.lexB .any (opsAt Try.f16 3).toArray = true := by kernel_rfl
theorem held_nought {x : Nat} (h : x < 18446744073709551616) : held (0 + x) = x := by rw [Nat.zero_add, held_of_lt h]
theorem Ta.tot4 (t : Ta) (ht : t.Wf) (a b c d : Nat) : t.tot [a, b, c, d] = held (held (held (t.n a + t.n b) + t.n c) + t.n d) := by
  show held (held (held (held (0 + t.n a) + t.n b) + t.n c) + t.n d) = _
  rw [held_nought (ht a)]

set_option maxHeartbeats 1000000 in
theorem rsound_any (t : Ta) (ht : t.Wf) (a b : Nat) (ha : a < 18446744073709551616) (hb : b < 18446744073709551616) (w : World) :
    Calls Try.prog 16 #[t.val, .int .u64 a, .int .u64 b] w fun e w' => e = .returned (.tuple #[.bool t.adds, .bool (t.gone a b)]) ∧ Only none_ w w' := by
  have D1 := Lib.hid (show t.adds = (t.n 0 == held (held (held (t.n 1 + t.n 2) + t.n 3) + t.n 4)) from by unfold Ta.adds; rw [t.tot4 ht])
  have D2 := Lib.hid (show t.gone a b = (t.n 5 == held (held (held (held (held (t.n 6 + t.n 7) + t.n 8) + t.n 9) + a) + b)) from by unfold Ta.gone; rw [t.tot4 ht])
  obtain ⟨q1, hq1⟩ : ∃ x, x = held (t.n 1 + t.n 2) := ⟨_, rfl⟩
  obtain ⟨q2, hq2⟩ : ∃ x, x = held (q1 + t.n 3) := ⟨_, rfl⟩
  obtain ⟨q3, hq3⟩ : ∃ x, x = held (q2 + t.n 4) := ⟨_, rfl⟩
  obtain ⟨r1, hr1⟩ : ∃ x, x = held (t.n 6 + t.n 7) := ⟨_, rfl⟩
  obtain ⟨r2, hr2⟩ : ∃ x, x = held (r1 + t.n 8) := ⟨_, rfl⟩
  obtain ⟨r3, hr3⟩ : ∃ x, x = held (r2 + t.n 9) := ⟨_, rfl⟩
  obtain ⟨r4, hr4⟩ : ∃ x, x = held (r3 + a) := ⟨_, rfl⟩
  obtain ⟨r5, hr5⟩ : ∃ x, x = held (r4 + b) := ⟨_, rfl⟩
  have l1 : q1 < 18446744073709551616 := hq1 ▸ held_lt _
  have l2 : q2 < 18446744073709551616 := hq2 ▸ held_lt _
  have m1 : r1 < 18446744073709551616 := hr1 ▸ held_lt _
  have m2 : r2 < 18446744073709551616 := hr2 ▸ held_lt _
  have m3 : r3 < 18446744073709551616 := hr3 ▸ held_lt _
  have m4 : r4 < 18446744073709551616 := hr4 ▸ held_lt _
  rw [← hq1, ← hq2, ← hq3] at D1
  rw [← hr1, ← hr2, ← hr3, ← hr4, ← hr5] at D2
  have A1 := fun w2 => (add_ref (t.n 1) (t.n 2) (ht 1) (ht 2) w2).mono (fun e w3 h => (⟨h.1, h.2 ▸ Only.refl none_ _⟩ : e = _ ∧ Only none_ w2 w3))
  rw [← hq1] at A1
  have A1 := Lib.hid A1
  have A2 := fun w2 => (add_ref q1 (t.n 3) l1 (ht 3) w2).mono (fun e w3 h => (⟨h.1, h.2 ▸ Only.refl none_ _⟩ : e = _ ∧ Only none_ w2 w3))
  rw [← hq2] at A2
  have A2 := Lib.hid A2
  have A3 := fun w2 => (add_ref q2 (t.n 4) l2 (ht 4) w2).mono (fun e w3 h => (⟨h.1, h.2 ▸ Only.refl none_ _⟩ : e = _ ∧ Only none_ w2 w3))
  rw [← hq3] at A3
  have A3 := Lib.hid A3
  have B1 := fun w2 => (add_ref (t.n 6) (t.n 7) (ht 6) (ht 7) w2).mono (fun e w3 h => (⟨h.1, h.2 ▸ Only.refl none_ _⟩ : e = _ ∧ Only none_ w2 w3))
  rw [← hr1] at B1
  have B1 := Lib.hid B1
  have B2 := fun w2 => (add_ref r1 (t.n 8) m1 (ht 8) w2).mono (fun e w3 h => (⟨h.1, h.2 ▸ Only.refl none_ _⟩ : e = _ ∧ Only none_ w2 w3))
  rw [← hr2] at B2
  have B2 := Lib.hid B2
  have B3 := fun w2 => (add_ref r2 (t.n 9) m2 (ht 9) w2).mono (fun e w3 h => (⟨h.1, h.2 ▸ Only.refl none_ _⟩ : e = _ ∧ Only none_ w2 w3))
  rw [← hr3] at B3
  have B3 := Lib.hid B3
  have C1 := fun w2 => (add_ref r3 a m3 ha w2).mono (fun e w3 h => (⟨h.1, h.2 ▸ Only.refl none_ _⟩ : e = _ ∧ Only none_ w2 w3))
  rw [← hr4] at C1
  have C1 := Lib.hid C1
  have C2 := fun w2 => (add_ref r4 b m4 hb w2).mono (fun e w3 h => (⟨h.1, h.2 ▸ Only.refl none_ _⟩ : e = _ ∧ Only none_ w2 w3))
  rw [← hr5] at C2
  have C2 := Lib.hid C2
  clear hq1 hq2 hq3 hr1 hr2 hr3 hr4 hr5 l1 l2 m1 m2 m3 m4
  obtain ⟨w0, hw0⟩ : ∃ w0, w0 = w.alloc (.cells t.cs 24) := ⟨_, rfl⟩
  have RA_w0 := Lib.hid (show Row w0 w.heap.size 24 t.cs by rw [hw0]; exact Row.fresh w _ _)
  have O0 := Lib.hid (show Only none_ w w0 by rw [hw0]; exact (Only.refl none_ w).alloc _)
  go_enter Try.func16, Try.ntmps16
  go_upto_region 1 with fail
  rw [← hw0]
  clear hw0
  have rr := RA_w0.out
  have c1 : ∀ i : After w0, i.val.cell? ⟨w.heap.size, 1, none⟩ = some (.int .u64 (t.n 1)) := fun i => by rw [(i.only.still rr).cell]; rfl
  have c2 : ∀ i : After w0, i.val.cell? ⟨w.heap.size, 2, none⟩ = some (.int .u64 (t.n 2)) := fun i => by rw [(i.only.still rr).cell]; rfl
  have c3 : ∀ i : After w0, i.val.cell? ⟨w.heap.size, 3, none⟩ = some (.int .u64 (t.n 3)) := fun i => by rw [(i.only.still rr).cell]; rfl
  have c4 : ∀ i : After w0, i.val.cell? ⟨w.heap.size, 4, none⟩ = some (.int .u64 (t.n 4)) := fun i => by rw [(i.only.still rr).cell]; rfl
  clear rr
  refine wp_region_after (w0 := w0) (by kernel_rfl) (lex_from lexS1 (by kernel_rfl)) (Only.refl _ _) ?_
  repeat (go_big_quiet_step (first | (with_reducible exact Calls.after _ (A1.out _)) | (with_reducible exact Calls.after _ (A2.out _)) | (with_reducible exact Calls.after _ (A3.out _))))
  refine wpQuiet_nil ?_
  intro w1 hw'
  obtain ⟨i1, e1⟩ := hw'
  have ow1 := i1.only
  rw [← e1] at ow1
  clear e1 i1
  have RA_w1 := Lib.hid (ow1.still RA_w0.out)
  have O1 := Lib.hid (O0.out.same ow1)
  clear ow1 RA_w0 O0 c1 c2 c3 c4 A1 A2 A3
  have rr := RA_w1.out
  have c6 : ∀ i : After w1, i.val.cell? ⟨w.heap.size, 6, none⟩ = some (.int .u64 (t.n 6)) := fun i => by rw [(i.only.still rr).cell]; rfl
  have c7 : ∀ i : After w1, i.val.cell? ⟨w.heap.size, 7, none⟩ = some (.int .u64 (t.n 7)) := fun i => by rw [(i.only.still rr).cell]; rfl
  have c8 : ∀ i : After w1, i.val.cell? ⟨w.heap.size, 8, none⟩ = some (.int .u64 (t.n 8)) := fun i => by rw [(i.only.still rr).cell]; rfl
  have c9 : ∀ i : After w1, i.val.cell? ⟨w.heap.size, 9, none⟩ = some (.int .u64 (t.n 9)) := fun i => by rw [(i.only.still rr).cell]; rfl
  clear rr
  go_upto_region 2 with fail
  refine wp_region_after (w0 := w1) (by kernel_rfl) (lex_from lexS2 (by kernel_rfl)) (Only.refl _ _) ?_
  repeat (go_big_quiet_step (first | (with_reducible exact Calls.after _ (B1.out _)) | (with_reducible exact Calls.after _ (B2.out _)) | (with_reducible exact Calls.after _ (B3.out _))))
  refine wpQuiet_nil ?_
  intro w2 hw'
  obtain ⟨i1, e1⟩ := hw'
  have ow2 := i1.only
  rw [← e1] at ow2
  clear e1 i1
  have RA_w2 := Lib.hid (ow2.still RA_w1.out)
  have O2 := Lib.hid (O1.out.same ow2)
  clear ow2 RA_w1 O1 c6 c7 c8 c9 B1 B2 B3
  have rr := RA_w2.out
  have c0 : ∀ i : After w2, i.val.cell? ⟨w.heap.size, 0, none⟩ = some (.int .u64 (t.n 0)) := fun i => by rw [(i.only.still rr).cell]; rfl
  have c5 : ∀ i : After w2, i.val.cell? ⟨w.heap.size, 5, none⟩ = some (.int .u64 (t.n 5)) := fun i => by rw [(i.only.still rr).cell]; rfl
  clear rr
  go_upto_region 3 with fail
  refine wp_region_after (w0 := w2) (by kernel_rfl) (lex_from lexS3 (by kernel_rfl)) (Only.refl _ _) ?_
  repeat (go_big_quiet_step (first | (with_reducible exact Calls.after _ (C1.out _)) | (with_reducible exact Calls.after _ (C2.out _))))
  refine wpQuiet_nil ?_
  intro w3 hw'
  obtain ⟨i1, e1⟩ := hw'
  have ow3 := i1.only
  rw [← e1] at ow3
  clear e1 i1
  have O3 := Lib.hid (O2.out.same ow3)
  clear ow3 RA_w2 O2 c0 c5 C1 C2
  go_wp2_with fail
  exact bodyPost_ret (v := .tuple #[.bool ((t.n 0 : Int) == (q3 : Int)), .bool ((t.n 5 : Int) == (r5 : Int))]) (by simp [results, Try.results16, go_sem]) rfl ⟨by rw [D1.out, D2.out, beq_cast, beq_cast], O3.out⟩
end Go.Proofs.Ytofmbipedljdkaa

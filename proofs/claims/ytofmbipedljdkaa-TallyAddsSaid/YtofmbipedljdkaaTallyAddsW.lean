/- The walk through TallyAdds's own text. -/
import Derived.WalkKit
import Derived.ProofKit
import Derived.OpenShut
import Derived.Below
import Derived.Test.YtofmbipedljdkaaArgs
import Derived.Test.YtofmbipedljdkaaOp18
import Derived.Deep.Cut
import Derived.Deep.DeepCutAuto
namespace Go.Proofs.Ytofmbipedljdkaa.tallyAdds
open Go.ChangeShapes Go.WideShapes Go.ChangeAt Go.RowKit
set_option linter.unusedVariables false


set_option maxHeartbeats 2000000 in
set_option maxRecDepth 100000 in
theorem walk (w : World) (t : Ta) (ht : t.Wf) (x : No) (hx : x.Wf) :
    Calls Try.prog 3 #[t.val, x.val] w fun e w' => e = .returned (.bool true) ∧ Below w.heap.size w w' := by
  have AD := Lib.hid (fun w => addk_any t ht x.k x.n hx w)
  have RD := Lib.hid (fun w => raddk_any t ht x.k x.n hx w)
  have CO := Lib.hid (fun w => counts_any t w)
  have RC := Lib.hid (fun w => rcounts_any t w)
  have HE := Lib.hid (fun w => isheld_any t w)
  have RH := Lib.hid (fun w => risheld_any t w)
  generalize t.more x.k x.n = q at *
  generalize codeA x.k = c at *
  generalize t.isHeld = h at *
  have eu := eq_ta q
  have ec := eq_co t
  obtain ⟨W0, hW0⟩ : ∃ W0, W0 = ((w.alloc (.cells #[.int .u64 (t.n 0), .int .u64 (t.n 1), .int .u64 (t.n 2), .int .u64 (t.n 3), .int .u64 (t.n 4), .int .u64 (t.n 5), .int .u64 (t.n 6), .int .u64 (t.n 7), .int .u64 (t.n 8), .int .u64 (t.n 9)] 24)).alloc (.cells #[.int .i64 x.k, .int .u64 x.n] 26)) := ⟨_, rfl⟩
  have OA := Lib.hid (show Only none_ w W0 by rw [hW0]; exact (((Only.refl none_ w).alloc _).alloc _))
  have R0 := Lib.hid (show Row W0 (w.heap.size) 24 #[.int .u64 (t.n 0), .int .u64 (t.n 1), .int .u64 (t.n 2), .int .u64 (t.n 3), .int .u64 (t.n 4), .int .u64 (t.n 5), .int .u64 (t.n 6), .int .u64 (t.n 7), .int .u64 (t.n 8), .int .u64 (t.n 9)] by rw [hW0]; have h := (Row.fresh w 24 #[.int .u64 (t.n 0), .int .u64 (t.n 1), .int .u64 (t.n 2), .int .u64 (t.n 3), .int .u64 (t.n 4), .int .u64 (t.n 5), .int .u64 (t.n 6), .int .u64 (t.n 7), .int .u64 (t.n 8), .int .u64 (t.n 9)]).alloc (.cells #[.int .i64 x.k, .int .u64 x.n] 26); exact h)
  have R1 := Lib.hid (show Row W0 (w.heap.size + 1) 26 #[.int .i64 x.k, .int .u64 x.n] by rw [hW0]; have h := (Row.fresh (w.alloc (.cells #[.int .u64 (t.n 0), .int .u64 (t.n 1), .int .u64 (t.n 2), .int .u64 (t.n 3), .int .u64 (t.n 4), .int .u64 (t.n 5), .int .u64 (t.n 6), .int .u64 (t.n 7), .int .u64 (t.n 8), .int .u64 (t.n 9)] 24)) 26 #[.int .i64 x.k, .int .u64 x.n]); rw [World.size_alloc] at h; exact h)
  go_enter Try.func3, Try.ntmps3
  go_upto_region 1 with fail
  rw [← hW0]
  clear hW0
  go_wp2_with fail
  (with_reducible refine (awake_any _).mono ?_)
  rintro e w1 ⟨rfl, o⟩
  have OB := Lib.hid (OA.out.same o)
  have S0 := Lib.hid (o.still R0.out)
  have S1 := Lib.hid (o.still R1.out)
  clear OA o R0 R1
  generalize w.heap.size + 1 = b1 at *
  generalize hb0 : w.heap.size = b0 at *
  go_upto_region 3 with fail
  obtain ⟨c0, c1, c2, c3, c4, c5, c6, c7, c8, c9⟩ := S0.out.ten
  obtain ⟨d0, d1⟩ := S1.out.two
  go_wp2_with fail
  (with_reducible refine (AD.out _).mono ?_)
  rintro e w2 ⟨rfl, o⟩
  have OC := Lib.hid ((OB.out.same o).alloc (.cells #[.int .u64 (q.n 0), .int .u64 (q.n 1), .int .u64 (q.n 2), .int .u64 (q.n 3), .int .u64 (q.n 4), .int .u64 (q.n 5), .int .u64 (q.n 6), .int .u64 (q.n 7), .int .u64 (q.n 8), .int .u64 (q.n 9)] 24))
  have S0' := Lib.hid ((o.still S0.out).alloc (.cells #[.int .u64 (q.n 0), .int .u64 (q.n 1), .int .u64 (q.n 2), .int .u64 (q.n 3), .int .u64 (q.n 4), .int .u64 (q.n 5), .int .u64 (q.n 6), .int .u64 (q.n 7), .int .u64 (q.n 8), .int .u64 (q.n 9)] 24))
  have S1' := Lib.hid ((o.still S1.out).alloc (.cells #[.int .u64 (q.n 0), .int .u64 (q.n 1), .int .u64 (q.n 2), .int .u64 (q.n 3), .int .u64 (q.n 4), .int .u64 (q.n 5), .int .u64 (q.n 6), .int .u64 (q.n 7), .int .u64 (q.n 8), .int .u64 (q.n 9)] 24))
  have SA := Lib.hid (Row.fresh w2 24 #[.int .u64 (q.n 0), .int .u64 (q.n 1), .int .u64 (q.n 2), .int .u64 (q.n 3), .int .u64 (q.n 4), .int .u64 (q.n 5), .int .u64 (q.n 6), .int .u64 (q.n 7), .int .u64 (q.n 8), .int .u64 (q.n 9)])
  clear o OB S0 S1 c0 c1 c2 c3 c4 c5 c6 c7 c8 c9 d0 d1 AD
  go_upto_region 4 with fail
  generalize w2.alloc (.cells #[.int .u64 (q.n 0), .int .u64 (q.n 1), .int .u64 (q.n 2), .int .u64 (q.n 3), .int .u64 (q.n 4), .int .u64 (q.n 5), .int .u64 (q.n 6), .int .u64 (q.n 7), .int .u64 (q.n 8), .int .u64 (q.n 9)] 24) = W2 at *
  generalize w2.heap.size = b2 at *
  obtain ⟨c0, c1, c2, c3, c4, c5, c6, c7, c8, c9⟩ := S0'.out.ten
  obtain ⟨d0, d1⟩ := S1'.out.two
  go_wp2_with fail
  (with_reducible refine (RD.out _).mono ?_)
  rintro e w3 ⟨rfl, o⟩
  have OD := Lib.hid ((OC.out.same o).alloc (.cells #[.int .u64 (q.n 0), .int .u64 (q.n 1), .int .u64 (q.n 2), .int .u64 (q.n 3), .int .u64 (q.n 4), .int .u64 (q.n 5), .int .u64 (q.n 6), .int .u64 (q.n 7), .int .u64 (q.n 8), .int .u64 (q.n 9)] 24))
  have S0 := Lib.hid ((o.still S0'.out).alloc (.cells #[.int .u64 (q.n 0), .int .u64 (q.n 1), .int .u64 (q.n 2), .int .u64 (q.n 3), .int .u64 (q.n 4), .int .u64 (q.n 5), .int .u64 (q.n 6), .int .u64 (q.n 7), .int .u64 (q.n 8), .int .u64 (q.n 9)] 24))
  have SB := Lib.hid ((o.still SA.out).alloc (.cells #[.int .u64 (q.n 0), .int .u64 (q.n 1), .int .u64 (q.n 2), .int .u64 (q.n 3), .int .u64 (q.n 4), .int .u64 (q.n 5), .int .u64 (q.n 6), .int .u64 (q.n 7), .int .u64 (q.n 8), .int .u64 (q.n 9)] 24))
  have SC := Lib.hid (Row.fresh w3 24 #[.int .u64 (q.n 0), .int .u64 (q.n 1), .int .u64 (q.n 2), .int .u64 (q.n 3), .int .u64 (q.n 4), .int .u64 (q.n 5), .int .u64 (q.n 6), .int .u64 (q.n 7), .int .u64 (q.n 8), .int .u64 (q.n 9)])
  clear o OC S0' S1' SA c0 c1 c2 c3 c4 c5 c6 c7 c8 c9 d0 d1 RD
  go_upto_region 5 with fail
  generalize w3.alloc (.cells #[.int .u64 (q.n 0), .int .u64 (q.n 1), .int .u64 (q.n 2), .int .u64 (q.n 3), .int .u64 (q.n 4), .int .u64 (q.n 5), .int .u64 (q.n 6), .int .u64 (q.n 7), .int .u64 (q.n 8), .int .u64 (q.n 9)] 24) = W3 at *
  generalize w3.heap.size = b3 at *
  have rr := S0.out
  have p0 : ∀ i : After W3, i.val.cell? ⟨b0, 0, none⟩ = some (.int .u64 (t.n 0)) := fun i => by rw [(i.only.still rr).cell]; rfl
  have p1 : ∀ i : After W3, i.val.cell? ⟨b0, 1, none⟩ = some (.int .u64 (t.n 1)) := fun i => by rw [(i.only.still rr).cell]; rfl
  have p2 : ∀ i : After W3, i.val.cell? ⟨b0, 2, none⟩ = some (.int .u64 (t.n 2)) := fun i => by rw [(i.only.still rr).cell]; rfl
  have p3 : ∀ i : After W3, i.val.cell? ⟨b0, 3, none⟩ = some (.int .u64 (t.n 3)) := fun i => by rw [(i.only.still rr).cell]; rfl
  have p4 : ∀ i : After W3, i.val.cell? ⟨b0, 4, none⟩ = some (.int .u64 (t.n 4)) := fun i => by rw [(i.only.still rr).cell]; rfl
  have p5 : ∀ i : After W3, i.val.cell? ⟨b0, 5, none⟩ = some (.int .u64 (t.n 5)) := fun i => by rw [(i.only.still rr).cell]; rfl
  have p6 : ∀ i : After W3, i.val.cell? ⟨b0, 6, none⟩ = some (.int .u64 (t.n 6)) := fun i => by rw [(i.only.still rr).cell]; rfl
  have p7 : ∀ i : After W3, i.val.cell? ⟨b0, 7, none⟩ = some (.int .u64 (t.n 7)) := fun i => by rw [(i.only.still rr).cell]; rfl
  have p8 : ∀ i : After W3, i.val.cell? ⟨b0, 8, none⟩ = some (.int .u64 (t.n 8)) := fun i => by rw [(i.only.still rr).cell]; rfl
  have p9 : ∀ i : After W3, i.val.cell? ⟨b0, 9, none⟩ = some (.int .u64 (t.n 9)) := fun i => by rw [(i.only.still rr).cell]; rfl
  clear rr
  have rr := SB.out
  have k0 : ∀ i : After W3, i.val.cell? ⟨b2, 0, none⟩ = some (.int .u64 (q.n 0)) := fun i => by rw [(i.only.still rr).cell]; rfl
  have k1 : ∀ i : After W3, i.val.cell? ⟨b2, 1, none⟩ = some (.int .u64 (q.n 1)) := fun i => by rw [(i.only.still rr).cell]; rfl
  have k2 : ∀ i : After W3, i.val.cell? ⟨b2, 2, none⟩ = some (.int .u64 (q.n 2)) := fun i => by rw [(i.only.still rr).cell]; rfl
  have k3 : ∀ i : After W3, i.val.cell? ⟨b2, 3, none⟩ = some (.int .u64 (q.n 3)) := fun i => by rw [(i.only.still rr).cell]; rfl
  have k4 : ∀ i : After W3, i.val.cell? ⟨b2, 4, none⟩ = some (.int .u64 (q.n 4)) := fun i => by rw [(i.only.still rr).cell]; rfl
  have k5 : ∀ i : After W3, i.val.cell? ⟨b2, 5, none⟩ = some (.int .u64 (q.n 5)) := fun i => by rw [(i.only.still rr).cell]; rfl
  have k6 : ∀ i : After W3, i.val.cell? ⟨b2, 6, none⟩ = some (.int .u64 (q.n 6)) := fun i => by rw [(i.only.still rr).cell]; rfl
  have k7 : ∀ i : After W3, i.val.cell? ⟨b2, 7, none⟩ = some (.int .u64 (q.n 7)) := fun i => by rw [(i.only.still rr).cell]; rfl
  have k8 : ∀ i : After W3, i.val.cell? ⟨b2, 8, none⟩ = some (.int .u64 (q.n 8)) := fun i => by rw [(i.only.still rr).cell]; rfl
  have k9 : ∀ i : After W3, i.val.cell? ⟨b2, 9, none⟩ = some (.int .u64 (q.n 9)) := fun i => by rw [(i.only.still rr).cell]; rfl
  clear rr
  have rr := SC.out
  have l0 : ∀ i : After W3, i.val.cell? ⟨b3, 0, none⟩ = some (.int .u64 (q.n 0)) := fun i => by rw [(i.only.still rr).cell]; rfl
  have l1 : ∀ i : After W3, i.val.cell? ⟨b3, 1, none⟩ = some (.int .u64 (q.n 1)) := fun i => by rw [(i.only.still rr).cell]; rfl
  have l2 : ∀ i : After W3, i.val.cell? ⟨b3, 2, none⟩ = some (.int .u64 (q.n 2)) := fun i => by rw [(i.only.still rr).cell]; rfl
  have l3 : ∀ i : After W3, i.val.cell? ⟨b3, 3, none⟩ = some (.int .u64 (q.n 3)) := fun i => by rw [(i.only.still rr).cell]; rfl
  have l4 : ∀ i : After W3, i.val.cell? ⟨b3, 4, none⟩ = some (.int .u64 (q.n 4)) := fun i => by rw [(i.only.still rr).cell]; rfl
  have l5 : ∀ i : After W3, i.val.cell? ⟨b3, 5, none⟩ = some (.int .u64 (q.n 5)) := fun i => by rw [(i.only.still rr).cell]; rfl
  have l6 : ∀ i : After W3, i.val.cell? ⟨b3, 6, none⟩ = some (.int .u64 (q.n 6)) := fun i => by rw [(i.only.still rr).cell]; rfl
  have l7 : ∀ i : After W3, i.val.cell? ⟨b3, 7, none⟩ = some (.int .u64 (q.n 7)) := fun i => by rw [(i.only.still rr).cell]; rfl
  have l8 : ∀ i : After W3, i.val.cell? ⟨b3, 8, none⟩ = some (.int .u64 (q.n 8)) := fun i => by rw [(i.only.still rr).cell]; rfl
  have l9 : ∀ i : After W3, i.val.cell? ⟨b3, 9, none⟩ = some (.int .u64 (q.n 9)) := fun i => by rw [(i.only.still rr).cell]; rfl
  clear rr
  refine wp_region_after (w0 := W3) (by kernel_rfl) (lex_from lexAdds (by kernel_rfl)) (Only.refl _ _) ?_
  repeat (go_big_quiet_step (first | (with_reducible exact Calls.after _ (CO.out _)) | (with_reducible exact Calls.after _ (RC.out _)) | (with_reducible exact Calls.after _ (HE.out _)) | (with_reducible exact Calls.after _ (RH.out _))))
  refine wpQuiet_nil ?_
  intro wz hw'
  obtain ⟨i1, e1⟩ := hw'
  have oz := i1.only
  rw [← e1] at oz
  clear e1 i1
  go_wp2_with fail
  go_ret
  exact ⟨rfl, (OD.out.same oz).to_below⟩



end Go.Proofs.Ytofmbipedljdkaa.tallyAdds

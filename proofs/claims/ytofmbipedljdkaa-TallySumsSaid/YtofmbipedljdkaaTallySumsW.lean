/- The walk through TallySums's own text. -/
import Derived.WalkKit
import Derived.ProofKit
import Derived.OpenShut
import Derived.Below
import Derived.Test.YtofmbipedljdkaaArgs
import Derived.Test.YtofmbipedljdkaaOp18
import Derived.Deep.Cut
import Derived.Deep.DeepCutAuto
namespace Go.Proofs.Ytofmbipedljdkaa.tallySums
open Go.ChangeShapes Go.WideShapes Go.ChangeAt Go.RowKit
set_option linter.unusedVariables false


set_option maxHeartbeats 2000000 in
set_option maxRecDepth 100000 in
theorem walk (w : World) (a : Ta) (ha : a.Wf) (b : Ta) (hb : b.Wf) (m0 : Int) (h0 : (Lit.int .u64 m0).wf = true) (m1 : Int) (h1 : (Lit.int .u64 m1).wf = true) :
    Calls Try.prog 4 #[a.val, b.val, .agg #[.int .u64 m0, .int .u64 m1]] w fun e w' => e = .returned (.bool true) ∧ Below w.heap.size w w' := by
  obtain ⟨n0, rfl, l0⟩ := nat_u64 h0
  obtain ⟨n1, rfl, l1⟩ := nat_u64 h1
  clear h0 h1
  have SO := Lib.hid (fun w => sound_any a ha n0 n1 l0 l1 w)
  have RS := Lib.hid (fun w => rsound_any a ha n0 n1 l0 l1 w)
  have SU := Lib.hid (fun w => sum_any a b ha hb w)
  have RU := Lib.hid (fun w => rsum_any a b ha hb w)
  have SV := fun w => sum_any b a hb ha w
  rw [Ta.sum_comm b a] at SV
  have SV := Lib.hid SV
  generalize a.sum b = q at *
  generalize a.adds = p at *
  generalize a.gone n0 n1 = r at *
  have eu := eq_ta q
  obtain ⟨W0, hW0⟩ : ∃ W0, W0 = (((w.alloc (.cells #[.int .u64 (a.n 0), .int .u64 (a.n 1), .int .u64 (a.n 2), .int .u64 (a.n 3), .int .u64 (a.n 4), .int .u64 (a.n 5), .int .u64 (a.n 6), .int .u64 (a.n 7), .int .u64 (a.n 8), .int .u64 (a.n 9)] 24)).alloc (.cells #[.int .u64 (b.n 0), .int .u64 (b.n 1), .int .u64 (b.n 2), .int .u64 (b.n 3), .int .u64 (b.n 4), .int .u64 (b.n 5), .int .u64 (b.n 6), .int .u64 (b.n 7), .int .u64 (b.n 8), .int .u64 (b.n 9)] 24)).alloc (.cells #[.int .u64 n0, .int .u64 n1] 35)) := ⟨_, rfl⟩
  have OA := Lib.hid (show Only none_ w W0 by rw [hW0]; exact ((((Only.refl none_ w).alloc _).alloc _).alloc _))
  have R0 := Lib.hid (show Row W0 (w.heap.size) 24 #[.int .u64 (a.n 0), .int .u64 (a.n 1), .int .u64 (a.n 2), .int .u64 (a.n 3), .int .u64 (a.n 4), .int .u64 (a.n 5), .int .u64 (a.n 6), .int .u64 (a.n 7), .int .u64 (a.n 8), .int .u64 (a.n 9)] by rw [hW0]; have h := (((Row.fresh w 24 #[.int .u64 (a.n 0), .int .u64 (a.n 1), .int .u64 (a.n 2), .int .u64 (a.n 3), .int .u64 (a.n 4), .int .u64 (a.n 5), .int .u64 (a.n 6), .int .u64 (a.n 7), .int .u64 (a.n 8), .int .u64 (a.n 9)]).alloc (.cells #[.int .u64 (b.n 0), .int .u64 (b.n 1), .int .u64 (b.n 2), .int .u64 (b.n 3), .int .u64 (b.n 4), .int .u64 (b.n 5), .int .u64 (b.n 6), .int .u64 (b.n 7), .int .u64 (b.n 8), .int .u64 (b.n 9)] 24)).alloc (.cells #[.int .u64 n0, .int .u64 n1] 35)); exact h)
  have R1 := Lib.hid (show Row W0 (w.heap.size + 1) 24 #[.int .u64 (b.n 0), .int .u64 (b.n 1), .int .u64 (b.n 2), .int .u64 (b.n 3), .int .u64 (b.n 4), .int .u64 (b.n 5), .int .u64 (b.n 6), .int .u64 (b.n 7), .int .u64 (b.n 8), .int .u64 (b.n 9)] by rw [hW0]; have h := ((Row.fresh (w.alloc (.cells #[.int .u64 (a.n 0), .int .u64 (a.n 1), .int .u64 (a.n 2), .int .u64 (a.n 3), .int .u64 (a.n 4), .int .u64 (a.n 5), .int .u64 (a.n 6), .int .u64 (a.n 7), .int .u64 (a.n 8), .int .u64 (a.n 9)] 24)) 24 #[.int .u64 (b.n 0), .int .u64 (b.n 1), .int .u64 (b.n 2), .int .u64 (b.n 3), .int .u64 (b.n 4), .int .u64 (b.n 5), .int .u64 (b.n 6), .int .u64 (b.n 7), .int .u64 (b.n 8), .int .u64 (b.n 9)]).alloc (.cells #[.int .u64 n0, .int .u64 n1] 35)); rw [World.size_alloc] at h; exact h)
  have R2 := Lib.hid (show Row W0 (w.heap.size + 1 + 1) 35 #[.int .u64 n0, .int .u64 n1] by rw [hW0]; have h := (Row.fresh ((w.alloc (.cells #[.int .u64 (a.n 0), .int .u64 (a.n 1), .int .u64 (a.n 2), .int .u64 (a.n 3), .int .u64 (a.n 4), .int .u64 (a.n 5), .int .u64 (a.n 6), .int .u64 (a.n 7), .int .u64 (a.n 8), .int .u64 (a.n 9)] 24)).alloc (.cells #[.int .u64 (b.n 0), .int .u64 (b.n 1), .int .u64 (b.n 2), .int .u64 (b.n 3), .int .u64 (b.n 4), .int .u64 (b.n 5), .int .u64 (b.n 6), .int .u64 (b.n 7), .int .u64 (b.n 8), .int .u64 (b.n 9)] 24)) 35 #[.int .u64 n0, .int .u64 n1]); rw [World.size_alloc, World.size_alloc] at h; exact h)
  go_enter Try.func4, Try.ntmps4
  go_upto_region 1 with fail
  rw [← hW0]
  clear hW0
  go_wp2_with fail
  (with_reducible refine (awake_any _).mono ?_)
  rintro e w1 ⟨rfl, o⟩
  have OB := Lib.hid (OA.out.same o)
  have S0 := Lib.hid (o.still R0.out)
  have S1 := Lib.hid (o.still R1.out)
  have S2 := Lib.hid (o.still R2.out)
  clear OA o R0 R1 R2
  generalize w.heap.size + 1 + 1 = b2 at *
  generalize w.heap.size + 1 = b1 at *
  generalize hb0 : w.heap.size = b0 at *
  go_upto_region 3 with fail
  obtain ⟨c0, c1, c2, c3, c4, c5, c6, c7, c8, c9⟩ := S0.out.ten
  obtain ⟨d0, d1⟩ := S2.out.two
  go_wp2_with fail
  (with_reducible refine (SO.out _).mono ?_)
  rintro e w2 ⟨rfl, o⟩
  have OC := Lib.hid (OB.out.same o)
  have S0' := Lib.hid (o.still S0.out)
  have S1' := Lib.hid (o.still S1.out)
  have S2' := Lib.hid (o.still S2.out)
  clear o OB S0 S1 S2 c0 c1 c2 c3 c4 c5 c6 c7 c8 c9 d0 d1 SO
  go_upto_region 4 with fail
  obtain ⟨c0, c1, c2, c3, c4, c5, c6, c7, c8, c9⟩ := S0'.out.ten
  obtain ⟨d0, d1⟩ := S2'.out.two
  go_wp2_with fail
  (with_reducible refine (RS.out _).mono ?_)
  rintro e w3 ⟨rfl, o⟩
  have OD := Lib.hid (OC.out.same o)
  have S0 := Lib.hid (o.still S0'.out)
  have S1 := Lib.hid (o.still S1'.out)
  clear o OC S0' S1' S2' c0 c1 c2 c3 c4 c5 c6 c7 c8 c9 d0 d1 RS
  go_upto_region 5 with fail
  have rr := S0.out
  have p0 : ∀ i : After w3, i.val.cell? ⟨b0, 0, none⟩ = some (.int .u64 (a.n 0)) := fun i => by rw [(i.only.still rr).cell]; rfl
  have p1 : ∀ i : After w3, i.val.cell? ⟨b0, 1, none⟩ = some (.int .u64 (a.n 1)) := fun i => by rw [(i.only.still rr).cell]; rfl
  have p2 : ∀ i : After w3, i.val.cell? ⟨b0, 2, none⟩ = some (.int .u64 (a.n 2)) := fun i => by rw [(i.only.still rr).cell]; rfl
  have p3 : ∀ i : After w3, i.val.cell? ⟨b0, 3, none⟩ = some (.int .u64 (a.n 3)) := fun i => by rw [(i.only.still rr).cell]; rfl
  have p4 : ∀ i : After w3, i.val.cell? ⟨b0, 4, none⟩ = some (.int .u64 (a.n 4)) := fun i => by rw [(i.only.still rr).cell]; rfl
  have p5 : ∀ i : After w3, i.val.cell? ⟨b0, 5, none⟩ = some (.int .u64 (a.n 5)) := fun i => by rw [(i.only.still rr).cell]; rfl
  have p6 : ∀ i : After w3, i.val.cell? ⟨b0, 6, none⟩ = some (.int .u64 (a.n 6)) := fun i => by rw [(i.only.still rr).cell]; rfl
  have p7 : ∀ i : After w3, i.val.cell? ⟨b0, 7, none⟩ = some (.int .u64 (a.n 7)) := fun i => by rw [(i.only.still rr).cell]; rfl
  have p8 : ∀ i : After w3, i.val.cell? ⟨b0, 8, none⟩ = some (.int .u64 (a.n 8)) := fun i => by rw [(i.only.still rr).cell]; rfl
  have p9 : ∀ i : After w3, i.val.cell? ⟨b0, 9, none⟩ = some (.int .u64 (a.n 9)) := fun i => by rw [(i.only.still rr).cell]; rfl
  clear rr
  have rr := S1.out
  have k0 : ∀ i : After w3, i.val.cell? ⟨b1, 0, none⟩ = some (.int .u64 (b.n 0)) := fun i => by rw [(i.only.still rr).cell]; rfl
  have k1 : ∀ i : After w3, i.val.cell? ⟨b1, 1, none⟩ = some (.int .u64 (b.n 1)) := fun i => by rw [(i.only.still rr).cell]; rfl
  have k2 : ∀ i : After w3, i.val.cell? ⟨b1, 2, none⟩ = some (.int .u64 (b.n 2)) := fun i => by rw [(i.only.still rr).cell]; rfl
  have k3 : ∀ i : After w3, i.val.cell? ⟨b1, 3, none⟩ = some (.int .u64 (b.n 3)) := fun i => by rw [(i.only.still rr).cell]; rfl
  have k4 : ∀ i : After w3, i.val.cell? ⟨b1, 4, none⟩ = some (.int .u64 (b.n 4)) := fun i => by rw [(i.only.still rr).cell]; rfl
  have k5 : ∀ i : After w3, i.val.cell? ⟨b1, 5, none⟩ = some (.int .u64 (b.n 5)) := fun i => by rw [(i.only.still rr).cell]; rfl
  have k6 : ∀ i : After w3, i.val.cell? ⟨b1, 6, none⟩ = some (.int .u64 (b.n 6)) := fun i => by rw [(i.only.still rr).cell]; rfl
  have k7 : ∀ i : After w3, i.val.cell? ⟨b1, 7, none⟩ = some (.int .u64 (b.n 7)) := fun i => by rw [(i.only.still rr).cell]; rfl
  have k8 : ∀ i : After w3, i.val.cell? ⟨b1, 8, none⟩ = some (.int .u64 (b.n 8)) := fun i => by rw [(i.only.still rr).cell]; rfl
  have k9 : ∀ i : After w3, i.val.cell? ⟨b1, 9, none⟩ = some (.int .u64 (b.n 9)) := fun i => by rw [(i.only.still rr).cell]; rfl
  clear rr
  refine wp_region_after (w0 := w3) (by kernel_rfl) (lex_from lexSums (by kernel_rfl)) (Only.refl _ _) ?_
  repeat (go_big_quiet_step (first | (with_reducible exact Calls.after _ (SU.out _)) | (with_reducible exact Calls.after _ (RU.out _)) | (with_reducible exact Calls.after _ (SV.out _))))
  refine wpQuiet_nil ?_
  intro wz hw'
  obtain ⟨i1, e1⟩ := hw'
  have oz := i1.only
  rw [← e1] at oz
  clear e1 i1
  go_wp2_with fail
  go_ret
  exact ⟨rfl, (OD.out.same oz).to_below⟩



end Go.Proofs.Ytofmbipedljdkaa.tallySums

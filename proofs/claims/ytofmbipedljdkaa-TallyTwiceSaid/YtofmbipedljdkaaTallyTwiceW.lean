/- The walk through TallyTwice's own text. -/
import Derived.WalkKit
import Derived.ProofKit
import Derived.OpenShut
import Derived.Below
import Derived.Test.YtofmbipedljdkaaArgs
import Derived.Test.YtofmbipedljdkaaOp18
import Derived.Deep.Cut
import Derived.Deep.DeepCutAuto
import Derived.Deep.RegionHeld3
namespace Go.Proofs.Ytofmbipedljdkaa.tallyTwice
open Go.ChangeShapes Go.WideShapes Go.ChangeAt Go.RowKit
set_option linter.unusedVariables false


set_option maxHeartbeats 2000000 in
set_option maxRecDepth 100000 in
theorem walk (w : World) (a : Ta) (ha : a.Wf) (x : No) (hx : x.Wf) (y : No) (hy : y.Wf) :
    Calls Try.prog 7 #[a.val, x.val, y.val] w fun e w' => e = .returned (.bool true) ∧ Below w.heap.size w w' := by
  have A1 := Lib.hid (fun w => addk_any a ha x.k x.n hx w)
  have A2 := Lib.hid (fun w => addk_any (a.more x.k x.n) (Ta.more_wf ha _ _) y.k y.n hy w)
  have A3 := Lib.hid (fun w => addk_any a ha y.k y.n hy w)
  have A4 := fun w => addk_any (a.more y.k y.n) (Ta.more_wf ha _ _) x.k x.n hx w
  rw [Ta.more_comm a y.k x.k y.n x.n] at A4
  have A4 := Lib.hid A4
  have AS := Lib.hid (fun w => add_ref x.n y.n hx hy w)
  have A5 := Lib.hid (fun w => addk_any a ha x.k (held (x.n + y.n)) (held_lt _) w)
  have hq := Ta.more_wf (Ta.more_wf ha x.k x.n) y.k y.n
  have EQ := Lib.hid (fun e : x.k = y.k => show (a.more x.k x.n).more y.k y.n = a.more x.k (held (x.n + y.n)) by rw [← e, Ta.more_twice])
  have Q1 := Lib.hid (fun w => sum_any a _ ha hq w)
  have Q2 := Lib.hid (fun w => sum_any (a.sum ((a.more x.k x.n).more y.k y.n)) _ (Ta.sum_wf a ((a.more x.k x.n).more y.k y.n)) hq w)
  have Q3 := Lib.hid (fun w => sum_any _ _ hq hq w)
  have Q4 := fun w => sum_any a _ ha (Ta.sum_wf ((a.more x.k x.n).more y.k y.n) ((a.more x.k x.n).more y.k y.n)) w
  rw [← Ta.sum_assoc] at Q4
  have Q4 := Lib.hid Q4
  generalize held (x.n + y.n) = hs at *
  generalize (a.more x.k x.n).more y.k y.n = q at *
  generalize a.more x.k hs = dd at *
  generalize a.more x.k x.n = m1 at *
  generalize a.more y.k y.n = n1 at *
  generalize (a.sum q).sum q = p2 at *
  generalize a.sum q = p1 at *
  generalize q.sum q = p3 at *
  generalize codeA x.k = cx at *
  generalize codeA y.k = cy at *
  have eu := eq_ta q
  have ev := eq_ta p2
  have ed := eq_ta dd
  clear ha hx hy hq
  obtain ⟨W0, hW0⟩ : ∃ W0, W0 = (((w.alloc (.cells #[.int .u64 (a.n 0), .int .u64 (a.n 1), .int .u64 (a.n 2), .int .u64 (a.n 3), .int .u64 (a.n 4), .int .u64 (a.n 5), .int .u64 (a.n 6), .int .u64 (a.n 7), .int .u64 (a.n 8), .int .u64 (a.n 9)] 24)).alloc (.cells #[.int .i64 x.k, .int .u64 x.n] 26)).alloc (.cells #[.int .i64 y.k, .int .u64 y.n] 26)) := ⟨_, rfl⟩
  have OA := Lib.hid (show Only none_ w W0 by rw [hW0]; exact ((((Only.refl none_ w).alloc _).alloc _).alloc _))
  have R0 := Lib.hid (show Row W0 (w.heap.size) 24 #[.int .u64 (a.n 0), .int .u64 (a.n 1), .int .u64 (a.n 2), .int .u64 (a.n 3), .int .u64 (a.n 4), .int .u64 (a.n 5), .int .u64 (a.n 6), .int .u64 (a.n 7), .int .u64 (a.n 8), .int .u64 (a.n 9)] by rw [hW0]; have h := (((Row.fresh w 24 #[.int .u64 (a.n 0), .int .u64 (a.n 1), .int .u64 (a.n 2), .int .u64 (a.n 3), .int .u64 (a.n 4), .int .u64 (a.n 5), .int .u64 (a.n 6), .int .u64 (a.n 7), .int .u64 (a.n 8), .int .u64 (a.n 9)]).alloc (.cells #[.int .i64 x.k, .int .u64 x.n] 26)).alloc (.cells #[.int .i64 y.k, .int .u64 y.n] 26)); exact h)
  have R1 := Lib.hid (show Row W0 (w.heap.size + 1) 26 #[.int .i64 x.k, .int .u64 x.n] by rw [hW0]; have h := ((Row.fresh (w.alloc (.cells #[.int .u64 (a.n 0), .int .u64 (a.n 1), .int .u64 (a.n 2), .int .u64 (a.n 3), .int .u64 (a.n 4), .int .u64 (a.n 5), .int .u64 (a.n 6), .int .u64 (a.n 7), .int .u64 (a.n 8), .int .u64 (a.n 9)] 24)) 26 #[.int .i64 x.k, .int .u64 x.n]).alloc (.cells #[.int .i64 y.k, .int .u64 y.n] 26)); rw [World.size_alloc] at h; exact h)
  have R2 := Lib.hid (show Row W0 (w.heap.size + 1 + 1) 26 #[.int .i64 y.k, .int .u64 y.n] by rw [hW0]; have h := (Row.fresh ((w.alloc (.cells #[.int .u64 (a.n 0), .int .u64 (a.n 1), .int .u64 (a.n 2), .int .u64 (a.n 3), .int .u64 (a.n 4), .int .u64 (a.n 5), .int .u64 (a.n 6), .int .u64 (a.n 7), .int .u64 (a.n 8), .int .u64 (a.n 9)] 24)).alloc (.cells #[.int .i64 x.k, .int .u64 x.n] 26)) 26 #[.int .i64 y.k, .int .u64 y.n]); rw [World.size_alloc, World.size_alloc] at h; exact h)
  go_enter Try.func7, Try.ntmps7
  go_upto_region 1 with fail
  rw [← hW0]
  clear hW0
  go_wp2_with fail
  (with_reducible refine (awake_any _).mono ?_)
  rintro e w1 ⟨rfl, o⟩
  have OB := Lib.hid (OA.out.same o)
  have S0 := Lib.hid (o.still R0.out)
  have S1 := Lib.hid (o.still R1.out)
  have S2 := Lib.hid (o.still R2.out)
  clear OA o R0 R1 R2
  generalize w.heap.size + 1 + 1 = b2 at *
  generalize w.heap.size + 1 = b1 at *
  have L0x := Lib.hid (S0.out.lt)
  have NWx := Lib.hid (OB.out.size)
  generalize hb0 : w.heap.size = b0 at *
  have B0 := Lib.hid OB.out.size
  go_upto_region 3 with fail
  obtain ⟨c0, c1, c2, c3, c4, c5, c6, c7, c8, c9⟩ := S0.out.ten
  obtain ⟨d0, d1⟩ := S1.out.two
  go_wp2_with fail
  (with_reducible refine (A1.out _).mono ?_)
  rintro e w2 ⟨rfl, o⟩
  have n7w := Lib.hid (Nat.le_trans OB.out.size o.size)
  have n07 := Lib.hid (show b0 < w2.heap.size from (o.still S0.out).lt)
  have OC := Lib.hid ((OB.out.same o).alloc (.cells #[.int .u64 (m1.n 0), .int .u64 (m1.n 1), .int .u64 (m1.n 2), .int .u64 (m1.n 3), .int .u64 (m1.n 4), .int .u64 (m1.n 5), .int .u64 (m1.n 6), .int .u64 (m1.n 7), .int .u64 (m1.n 8), .int .u64 (m1.n 9)] 24))
  have T0 := Lib.hid ((o.still S0.out).alloc (.cells #[.int .u64 (m1.n 0), .int .u64 (m1.n 1), .int .u64 (m1.n 2), .int .u64 (m1.n 3), .int .u64 (m1.n 4), .int .u64 (m1.n 5), .int .u64 (m1.n 6), .int .u64 (m1.n 7), .int .u64 (m1.n 8), .int .u64 (m1.n 9)] 24))
  have T1 := Lib.hid ((o.still S1.out).alloc (.cells #[.int .u64 (m1.n 0), .int .u64 (m1.n 1), .int .u64 (m1.n 2), .int .u64 (m1.n 3), .int .u64 (m1.n 4), .int .u64 (m1.n 5), .int .u64 (m1.n 6), .int .u64 (m1.n 7), .int .u64 (m1.n 8), .int .u64 (m1.n 9)] 24))
  have T2 := Lib.hid ((o.still S2.out).alloc (.cells #[.int .u64 (m1.n 0), .int .u64 (m1.n 1), .int .u64 (m1.n 2), .int .u64 (m1.n 3), .int .u64 (m1.n 4), .int .u64 (m1.n 5), .int .u64 (m1.n 6), .int .u64 (m1.n 7), .int .u64 (m1.n 8), .int .u64 (m1.n 9)] 24))
  have SB := Lib.hid (Row.fresh w2 24 #[.int .u64 (m1.n 0), .int .u64 (m1.n 1), .int .u64 (m1.n 2), .int .u64 (m1.n 3), .int .u64 (m1.n 4), .int .u64 (m1.n 5), .int .u64 (m1.n 6), .int .u64 (m1.n 7), .int .u64 (m1.n 8), .int .u64 (m1.n 9)])
  clear o OB S0 S1 S2 c0 c1 c2 c3 c4 c5 c6 c7 c8 c9 d0 d1 A1
  go_upto_region 4 with fail
  generalize w2.alloc (.cells #[.int .u64 (m1.n 0), .int .u64 (m1.n 1), .int .u64 (m1.n 2), .int .u64 (m1.n 3), .int .u64 (m1.n 4), .int .u64 (m1.n 5), .int .u64 (m1.n 6), .int .u64 (m1.n 7), .int .u64 (m1.n 8), .int .u64 (m1.n 9)] 24) = W2 at *
  generalize w2.heap.size = n7 at *
  obtain ⟨c0, c1, c2, c3, c4, c5, c6, c7, c8, c9⟩ := SB.out.ten
  obtain ⟨d0, d1⟩ := T2.out.two
  go_wp2_with fail
  (with_reducible refine (A2.out _).mono ?_)
  rintro e w3 ⟨rfl, o⟩
  have OD := Lib.hid (OC.out.same o)
  have S0 := Lib.hid (o.still T0.out)
  have S1 := Lib.hid (o.still T1.out)
  have S2 := Lib.hid (o.still T2.out)
  have SB := Lib.hid (o.still SB.out)
  clear o OC T0 T1 T2 c0 c1 c2 c3 c4 c5 c6 c7 c8 c9 d0 d1 A2
  obtain ⟨c0, c1, c2, c3, c4, c5, c6, c7, c8, c9⟩ := SB.out.ten
  have zf := SB.out.frozen
  go_upto_region 5 with fail
  have oo := only_ten w3 n7 (q.n 0) (q.n 1) (q.n 2) (q.n 3) (q.n 4) (q.n 5) (q.n 6) (q.n 7) (q.n 8) (q.n 9)
  have SB' := Lib.hid (SB.out.put_ten (.int .u64 (q.n 0)) (.int .u64 (q.n 1)) (.int .u64 (q.n 2)) (.int .u64 (q.n 3)) (.int .u64 (q.n 4)) (.int .u64 (q.n 5)) (.int .u64 (q.n 6)) (.int .u64 (q.n 7)) (.int .u64 (q.n 8)) (.int .u64 (q.n 9)))
  have ap0 : b0 ≠ n7 := fun e => by have := n07.out; omega
  have ap1 : b1 ≠ n7 := fun e => absurd (S1.out.one (e ▸ SB.out)).1 (by decide)
  have ap2 : b2 ≠ n7 := fun e => absurd (S2.out.one (e ▸ SB.out)).1 (by decide)
  have T0 := Lib.hid (oo.row S0.out ap0)
  have T1 := Lib.hid (oo.row S1.out ap1)
  have T2 := Lib.hid (oo.row S2.out ap2)
  have OE := Lib.hid (OD.out.trans (oo.more (S' := fun k => w.heap.size ≤ k) (fun _ _ e => by rw [e]; exact n7w.out)) (fun i hi s => absurd hi (by omega)))
  clear oo OD S0 S1 S2 SB c0 c1 c2 c3 c4 c5 c6 c7 c8 c9 zf ap0 ap1 ap2
  generalize ((((((((((w3.setCell ⟨n7, 0, none⟩ (.int .u64 (q.n 0))).setCell ⟨n7, 1, none⟩ (.int .u64 (q.n 1))).setCell ⟨n7, 2, none⟩ (.int .u64 (q.n 2))).setCell ⟨n7, 3, none⟩ (.int .u64 (q.n 3))).setCell ⟨n7, 4, none⟩ (.int .u64 (q.n 4))).setCell ⟨n7, 5, none⟩ (.int .u64 (q.n 5))).setCell ⟨n7, 6, none⟩ (.int .u64 (q.n 6))).setCell ⟨n7, 7, none⟩ (.int .u64 (q.n 7))).setCell ⟨n7, 8, none⟩ (.int .u64 (q.n 8))).setCell ⟨n7, 9, none⟩ (.int .u64 (q.n 9))) = W3 at *
  obtain ⟨c0, c1, c2, c3, c4, c5, c6, c7, c8, c9⟩ := T0.out.ten
  obtain ⟨d0, d1⟩ := T2.out.two
  go_wp2_with fail
  (with_reducible refine (A3.out _).mono ?_)
  rintro e w4 ⟨rfl, o⟩
  have n9w := Lib.hid (Nat.le_trans OE.out.size o.size)
  have OF := Lib.hid ((OE.out.same o).alloc (.cells #[.int .u64 (n1.n 0), .int .u64 (n1.n 1), .int .u64 (n1.n 2), .int .u64 (n1.n 3), .int .u64 (n1.n 4), .int .u64 (n1.n 5), .int .u64 (n1.n 6), .int .u64 (n1.n 7), .int .u64 (n1.n 8), .int .u64 (n1.n 9)] 24))
  have S0 := Lib.hid ((o.still T0.out).alloc (.cells #[.int .u64 (n1.n 0), .int .u64 (n1.n 1), .int .u64 (n1.n 2), .int .u64 (n1.n 3), .int .u64 (n1.n 4), .int .u64 (n1.n 5), .int .u64 (n1.n 6), .int .u64 (n1.n 7), .int .u64 (n1.n 8), .int .u64 (n1.n 9)] 24))
  have S1 := Lib.hid ((o.still T1.out).alloc (.cells #[.int .u64 (n1.n 0), .int .u64 (n1.n 1), .int .u64 (n1.n 2), .int .u64 (n1.n 3), .int .u64 (n1.n 4), .int .u64 (n1.n 5), .int .u64 (n1.n 6), .int .u64 (n1.n 7), .int .u64 (n1.n 8), .int .u64 (n1.n 9)] 24))
  have S2 := Lib.hid ((o.still T2.out).alloc (.cells #[.int .u64 (n1.n 0), .int .u64 (n1.n 1), .int .u64 (n1.n 2), .int .u64 (n1.n 3), .int .u64 (n1.n 4), .int .u64 (n1.n 5), .int .u64 (n1.n 6), .int .u64 (n1.n 7), .int .u64 (n1.n 8), .int .u64 (n1.n 9)] 24))
  have SB := Lib.hid ((o.still SB'.out).alloc (.cells #[.int .u64 (n1.n 0), .int .u64 (n1.n 1), .int .u64 (n1.n 2), .int .u64 (n1.n 3), .int .u64 (n1.n 4), .int .u64 (n1.n 5), .int .u64 (n1.n 6), .int .u64 (n1.n 7), .int .u64 (n1.n 8), .int .u64 (n1.n 9)] 24))
  have SC := Lib.hid (Row.fresh w4 24 #[.int .u64 (n1.n 0), .int .u64 (n1.n 1), .int .u64 (n1.n 2), .int .u64 (n1.n 3), .int .u64 (n1.n 4), .int .u64 (n1.n 5), .int .u64 (n1.n 6), .int .u64 (n1.n 7), .int .u64 (n1.n 8), .int .u64 (n1.n 9)])
  have n79 := Lib.hid (show n7 < w4.heap.size from (o.still SB'.out).lt)
  have n09 := Lib.hid (show b0 < w4.heap.size from (o.still T0.out).lt)
  clear o OE T0 T1 T2 SB' c0 c1 c2 c3 c4 c5 c6 c7 c8 c9 d0 d1 A3
  go_upto_region 6 with fail
  generalize w4.alloc (.cells #[.int .u64 (n1.n 0), .int .u64 (n1.n 1), .int .u64 (n1.n 2), .int .u64 (n1.n 3), .int .u64 (n1.n 4), .int .u64 (n1.n 5), .int .u64 (n1.n 6), .int .u64 (n1.n 7), .int .u64 (n1.n 8), .int .u64 (n1.n 9)] 24) = W4 at *
  generalize w4.heap.size = n9 at *
  obtain ⟨c0, c1, c2, c3, c4, c5, c6, c7, c8, c9⟩ := SC.out.ten
  obtain ⟨d0, d1⟩ := S1.out.two
  go_wp2_with fail
  (with_reducible refine (A4.out _).mono ?_)
  rintro e w5 ⟨rfl, o⟩
  have OG := Lib.hid (OF.out.same o)
  have T0 := Lib.hid (o.still S0.out)
  have T1 := Lib.hid (o.still S1.out)
  have T2 := Lib.hid (o.still S2.out)
  have TB := Lib.hid (o.still SB.out)
  have TC := Lib.hid (o.still SC.out)
  clear o OF S0 S1 S2 SB SC c0 c1 c2 c3 c4 c5 c6 c7 c8 c9 d0 d1 A4
  obtain ⟨c0, c1, c2, c3, c4, c5, c6, c7, c8, c9⟩ := TC.out.ten
  have zf := TC.out.frozen
  go_upto_region 7 with fail
  have oo := only_ten w5 n9 (q.n 0) (q.n 1) (q.n 2) (q.n 3) (q.n 4) (q.n 5) (q.n 6) (q.n 7) (q.n 8) (q.n 9)
  have SC := Lib.hid (TC.out.put_ten (.int .u64 (q.n 0)) (.int .u64 (q.n 1)) (.int .u64 (q.n 2)) (.int .u64 (q.n 3)) (.int .u64 (q.n 4)) (.int .u64 (q.n 5)) (.int .u64 (q.n 6)) (.int .u64 (q.n 7)) (.int .u64 (q.n 8)) (.int .u64 (q.n 9)))
  have ap0 : b0 ≠ n9 := fun e => by have := n09.out; omega
  have ap1 : b1 ≠ n9 := fun e => absurd (T1.out.one (e ▸ TC.out)).1 (by decide)
  have ap2 : b2 ≠ n9 := fun e => absurd (T2.out.one (e ▸ TC.out)).1 (by decide)
  have ap7 : n7 ≠ n9 := fun e => by have := n79.out; omega
  have S0 := Lib.hid (oo.row T0.out ap0)
  have S1 := Lib.hid (oo.row T1.out ap1)
  have S2 := Lib.hid (oo.row T2.out ap2)
  have SB := Lib.hid (oo.row TB.out ap7)
  have OH := Lib.hid (OG.out.trans (oo.more (S' := fun k => w.heap.size ≤ k) (fun _ _ e => by rw [e]; exact n9w.out)) (fun i hi s => absurd hi (by omega)))
  clear oo OG T0 T1 T2 TB TC c0 c1 c2 c3 c4 c5 c6 c7 c8 c9 zf ap0 ap1 ap2 ap7
  generalize ((((((((((w5.setCell ⟨n9, 0, none⟩ (.int .u64 (q.n 0))).setCell ⟨n9, 1, none⟩ (.int .u64 (q.n 1))).setCell ⟨n9, 2, none⟩ (.int .u64 (q.n 2))).setCell ⟨n9, 3, none⟩ (.int .u64 (q.n 3))).setCell ⟨n9, 4, none⟩ (.int .u64 (q.n 4))).setCell ⟨n9, 5, none⟩ (.int .u64 (q.n 5))).setCell ⟨n9, 6, none⟩ (.int .u64 (q.n 6))).setCell ⟨n9, 7, none⟩ (.int .u64 (q.n 7))).setCell ⟨n9, 8, none⟩ (.int .u64 (q.n 8))).setCell ⟨n9, 9, none⟩ (.int .u64 (q.n 9))) = W5 at *
  have rr := S0.out
  have p0 : ∀ i : After W5, i.val.cell? ⟨b0, 0, none⟩ = some (.int .u64 (a.n 0)) := fun i => by rw [(i.only.still rr).cell]; rfl
  have p1 : ∀ i : After W5, i.val.cell? ⟨b0, 1, none⟩ = some (.int .u64 (a.n 1)) := fun i => by rw [(i.only.still rr).cell]; rfl
  have p2 : ∀ i : After W5, i.val.cell? ⟨b0, 2, none⟩ = some (.int .u64 (a.n 2)) := fun i => by rw [(i.only.still rr).cell]; rfl
  have p3 : ∀ i : After W5, i.val.cell? ⟨b0, 3, none⟩ = some (.int .u64 (a.n 3)) := fun i => by rw [(i.only.still rr).cell]; rfl
  have p4 : ∀ i : After W5, i.val.cell? ⟨b0, 4, none⟩ = some (.int .u64 (a.n 4)) := fun i => by rw [(i.only.still rr).cell]; rfl
  have p5 : ∀ i : After W5, i.val.cell? ⟨b0, 5, none⟩ = some (.int .u64 (a.n 5)) := fun i => by rw [(i.only.still rr).cell]; rfl
  have p6 : ∀ i : After W5, i.val.cell? ⟨b0, 6, none⟩ = some (.int .u64 (a.n 6)) := fun i => by rw [(i.only.still rr).cell]; rfl
  have p7 : ∀ i : After W5, i.val.cell? ⟨b0, 7, none⟩ = some (.int .u64 (a.n 7)) := fun i => by rw [(i.only.still rr).cell]; rfl
  have p8 : ∀ i : After W5, i.val.cell? ⟨b0, 8, none⟩ = some (.int .u64 (a.n 8)) := fun i => by rw [(i.only.still rr).cell]; rfl
  have p9 : ∀ i : After W5, i.val.cell? ⟨b0, 9, none⟩ = some (.int .u64 (a.n 9)) := fun i => by rw [(i.only.still rr).cell]; rfl
  clear rr
  have rr := SB.out
  have k0 : ∀ i : After W5, i.val.cell? ⟨n7, 0, none⟩ = some (.int .u64 (q.n 0)) := fun i => by rw [(i.only.still rr).cell]; rfl
  have k1 : ∀ i : After W5, i.val.cell? ⟨n7, 1, none⟩ = some (.int .u64 (q.n 1)) := fun i => by rw [(i.only.still rr).cell]; rfl
  have k2 : ∀ i : After W5, i.val.cell? ⟨n7, 2, none⟩ = some (.int .u64 (q.n 2)) := fun i => by rw [(i.only.still rr).cell]; rfl
  have k3 : ∀ i : After W5, i.val.cell? ⟨n7, 3, none⟩ = some (.int .u64 (q.n 3)) := fun i => by rw [(i.only.still rr).cell]; rfl
  have k4 : ∀ i : After W5, i.val.cell? ⟨n7, 4, none⟩ = some (.int .u64 (q.n 4)) := fun i => by rw [(i.only.still rr).cell]; rfl
  have k5 : ∀ i : After W5, i.val.cell? ⟨n7, 5, none⟩ = some (.int .u64 (q.n 5)) := fun i => by rw [(i.only.still rr).cell]; rfl
  have k6 : ∀ i : After W5, i.val.cell? ⟨n7, 6, none⟩ = some (.int .u64 (q.n 6)) := fun i => by rw [(i.only.still rr).cell]; rfl
  have k7 : ∀ i : After W5, i.val.cell? ⟨n7, 7, none⟩ = some (.int .u64 (q.n 7)) := fun i => by rw [(i.only.still rr).cell]; rfl
  have k8 : ∀ i : After W5, i.val.cell? ⟨n7, 8, none⟩ = some (.int .u64 (q.n 8)) := fun i => by rw [(i.only.still rr).cell]; rfl
  have k9 : ∀ i : After W5, i.val.cell? ⟨n7, 9, none⟩ = some (.int .u64 (q.n 9)) := fun i => by rw [(i.only.still rr).cell]; rfl
  clear rr
  have rr := SC.out
  have l0 : ∀ i : After W5, i.val.cell? ⟨n9, 0, none⟩ = some (.int .u64 (q.n 0)) := fun i => by rw [(i.only.still rr).cell]; rfl
  have l1 : ∀ i : After W5, i.val.cell? ⟨n9, 1, none⟩ = some (.int .u64 (q.n 1)) := fun i => by rw [(i.only.still rr).cell]; rfl
  have l2 : ∀ i : After W5, i.val.cell? ⟨n9, 2, none⟩ = some (.int .u64 (q.n 2)) := fun i => by rw [(i.only.still rr).cell]; rfl
  have l3 : ∀ i : After W5, i.val.cell? ⟨n9, 3, none⟩ = some (.int .u64 (q.n 3)) := fun i => by rw [(i.only.still rr).cell]; rfl
  have l4 : ∀ i : After W5, i.val.cell? ⟨n9, 4, none⟩ = some (.int .u64 (q.n 4)) := fun i => by rw [(i.only.still rr).cell]; rfl
  have l5 : ∀ i : After W5, i.val.cell? ⟨n9, 5, none⟩ = some (.int .u64 (q.n 5)) := fun i => by rw [(i.only.still rr).cell]; rfl
  have l6 : ∀ i : After W5, i.val.cell? ⟨n9, 6, none⟩ = some (.int .u64 (q.n 6)) := fun i => by rw [(i.only.still rr).cell]; rfl
  have l7 : ∀ i : After W5, i.val.cell? ⟨n9, 7, none⟩ = some (.int .u64 (q.n 7)) := fun i => by rw [(i.only.still rr).cell]; rfl
  have l8 : ∀ i : After W5, i.val.cell? ⟨n9, 8, none⟩ = some (.int .u64 (q.n 8)) := fun i => by rw [(i.only.still rr).cell]; rfl
  have l9 : ∀ i : After W5, i.val.cell? ⟨n9, 9, none⟩ = some (.int .u64 (q.n 9)) := fun i => by rw [(i.only.still rr).cell]; rfl
  clear rr
  refine wp_region_after (w0 := W5) (by kernel_rfl) (lex_from lexTwice (by kernel_rfl)) (Only.refl _ _) ?_
  repeat (go_big_quiet_step (first | (with_reducible exact Calls.after _ (Q1.out _)) | (with_reducible exact Calls.after _ (Q2.out _)) | (with_reducible exact Calls.after _ (Q3.out _)) | (with_reducible exact Calls.after _ (Q4.out _))))
  refine wpQuiet_nil ?_
  intro w6 hw'
  obtain ⟨i1, e1⟩ := hw'
  have o := i1.only
  rw [← e1] at o
  clear e1 i1
  have OI := Lib.hid (OH.out.same o)
  have T0 := Lib.hid (o.still S0.out)
  have T1 := Lib.hid (o.still S1.out)
  have T2 := Lib.hid (o.still S2.out)
  have TB := Lib.hid (o.still SB.out)
  clear o OH S0 S1 S2 SB SC p0 p1 p2 p3 p4 p5 p6 p7 p8 p9 k0 k1 k2 k3 k4 k5 k6 k7 k8 k9 l0 l1 l2 l3 l4 l5 l6 l7 l8 l9 Q1 Q2 Q3 Q4
  go_upto_region 9 with fail
  obtain ⟨c0, c1, c2, c3, c4, c5, c6, c7, c8, c9⟩ := T0.out.ten
  obtain ⟨d0, d1⟩ := T1.out.two
  obtain ⟨f0, f1⟩ := T2.out.two
  have Od := Lib.hid ((Only.refl none_ w6).drew)
  have K := Lib.hid (fun (w' : World) (o : Only none_ w6 w') => And.intro (o.still T0.out).ten (And.intro (o.still T1.out).two (o.still T2.out).two))
  have Oe := Lib.hid (((Only.refl none_ w6).alloc (.cells #[.int .u64 0, .int .u64 0, .int .u64 0, .int .u64 0, .int .u64 0, .int .u64 0, .int .u64 0, .int .u64 0, .int .u64 0, .int .u64 0] 24)).drew)
  have l0 := Lib.hid T0.out.lt
  have l1 := Lib.hid T1.out.lt
  have l2 := Lib.hid T2.out.lt
  go_region_held3 (fun w' => (w'.cell? ⟨b0, 0, none⟩ = some (.int .u64 (a.n 0)) ∧ w'.cell? ⟨b0, 1, none⟩ = some (.int .u64 (a.n 1)) ∧ w'.cell? ⟨b0, 2, none⟩ = some (.int .u64 (a.n 2)) ∧ w'.cell? ⟨b0, 3, none⟩ = some (.int .u64 (a.n 3)) ∧ w'.cell? ⟨b0, 4, none⟩ = some (.int .u64 (a.n 4)) ∧ w'.cell? ⟨b0, 5, none⟩ = some (.int .u64 (a.n 5)) ∧ w'.cell? ⟨b0, 6, none⟩ = some (.int .u64 (a.n 6)) ∧ w'.cell? ⟨b0, 7, none⟩ = some (.int .u64 (a.n 7)) ∧ w'.cell? ⟨b0, 8, none⟩ = some (.int .u64 (a.n 8)) ∧ w'.cell? ⟨b0, 9, none⟩ = some (.int .u64 (a.n 9))) ∧ (w'.cell? ⟨b1, 0, none⟩ = some (.int .i64 x.k) ∧ w'.cell? ⟨b1, 1, none⟩ = some (.int .u64 x.n)) ∧ (w'.cell? ⟨b2, 0, none⟩ = some (.int .i64 y.k) ∧ w'.cell? ⟨b2, 1, none⟩ = some (.int .u64 y.n)))
    (first
      | (with_reducible exact KX.out)
      | (with_reducible exact K.out _ (O7.out.alloc _))
      | (with_reducible exact K.out _ O7.out)
      | (with_reducible exact K.out _ Od.out)
      | (with_reducible exact K.out _ Oe.out)
      | fail)
    (first
      | (go_at_call 19; (with_reducible refine (AS.out _).mono ?_); rintro e w7 ⟨rfl, rfl⟩)
      | (go_at_call 9; (with_reducible refine (A5.out _).mono ?_); rintro e w7 ⟨rfl, o7⟩; first
        | (have O7 := Lib.hid (Od.out.same o7))
        | (have O7 := Lib.hid (Oe.out.same o7); have R11 := Lib.hid (o7.still (Row.fresh w6 24 #[.int .u64 0, .int .u64 0, .int .u64 0, .int .u64 0, .int .u64 0, .int .u64 0, .int .u64 0, .int .u64 0, .int .u64 0, .int .u64 0]).drew); obtain ⟨v0, v1, v2, v3, v4, v5, v6, v7, v8, v9⟩ := R11.out.ten; have zf := R11.out.frozen; have o11 := only_ten w7 w6.heap.size (dd.n 0) (dd.n 1) (dd.n 2) (dd.n 3) (dd.n 4) (dd.n 5) (dd.n 6) (dd.n 7) (dd.n 8) (dd.n 9); have KX := Lib.hid (And.intro (o11.row (O7.out.still T0.out) (fun e => absurd (show b0 = w6.heap.size from e) (by have := l0.out; omega))).ten (And.intro (o11.row (O7.out.still T1.out) (fun e => absurd (show b1 = w6.heap.size from e) (by have := l1.out; omega))).two (o11.row (O7.out.still T2.out) (fun e => absurd (show b2 = w6.heap.size from e) (by have := l2.out; omega))).two))))
      | fail)
  all_goals
    rename_i hHeld
    clear hHeld c0 c1 c2 c3 c4 c5 c6 c7 c8 c9 d0 d1 f0 f1 K AS A5
    first
      | (have kx := KX; clear kx KX v0 v1 v2 v3 v4 v5 v6 v7 v8 v9 zf
         have RX := Lib.hid (o11.row (O7.out.still T1.out) (fun e => absurd (show b1 = w6.heap.size from e) (by have := l1.out; omega)))
         have RY := Lib.hid (o11.row (O7.out.still T2.out) (fun e => absurd (show b2 = w6.heap.size from e) (by have := l2.out; omega)))
         have RB := o11.row (O7.out.still TB.out) (fun e => absurd (show n7 = w6.heap.size from e) (by have := TB.out.lt; omega))
         have RD := Lib.hid (R11.out.put_ten (.int .u64 (dd.n 0)) (.int .u64 (dd.n 1)) (.int .u64 (dd.n 2)) (.int .u64 (dd.n 3)) (.int .u64 (dd.n 4)) (.int .u64 (dd.n 5)) (.int .u64 (dd.n 6)) (.int .u64 (dd.n 7)) (.int .u64 (dd.n 8)) (.int .u64 (dd.n 9)))
         have OJ := Lib.hid ((OI.out.same O7.out).trans (o11.more (S' := fun k => w.heap.size ≤ k) (fun _ _ e => by rw [e]; exact OI.out.size)) (fun i hi s => absurd hi (by omega)))
         clear o11 R11
         generalize ((((((((((w7.setCell ⟨w6.heap.size, 0, none⟩ (.int .u64 (dd.n 0))).setCell ⟨w6.heap.size, 1, none⟩ (.int .u64 (dd.n 1))).setCell ⟨w6.heap.size, 2, none⟩ (.int .u64 (dd.n 2))).setCell ⟨w6.heap.size, 3, none⟩ (.int .u64 (dd.n 3))).setCell ⟨w6.heap.size, 4, none⟩ (.int .u64 (dd.n 4))).setCell ⟨w6.heap.size, 5, none⟩ (.int .u64 (dd.n 5))).setCell ⟨w6.heap.size, 6, none⟩ (.int .u64 (dd.n 6))).setCell ⟨w6.heap.size, 7, none⟩ (.int .u64 (dd.n 7))).setCell ⟨w6.heap.size, 8, none⟩ (.int .u64 (dd.n 8))).setCell ⟨w6.heap.size, 9, none⟩ (.int .u64 (dd.n 9))) = w8 at *
         generalize w6.heap.size = g at *)
      | (have RX := Lib.hid ((O7.out.still T1.out).alloc (.cells #[.int .u64 (dd.n 0), .int .u64 (dd.n 1), .int .u64 (dd.n 2), .int .u64 (dd.n 3), .int .u64 (dd.n 4), .int .u64 (dd.n 5), .int .u64 (dd.n 6), .int .u64 (dd.n 7), .int .u64 (dd.n 8), .int .u64 (dd.n 9)] 24))
         have RY := Lib.hid ((O7.out.still T2.out).alloc (.cells #[.int .u64 (dd.n 0), .int .u64 (dd.n 1), .int .u64 (dd.n 2), .int .u64 (dd.n 3), .int .u64 (dd.n 4), .int .u64 (dd.n 5), .int .u64 (dd.n 6), .int .u64 (dd.n 7), .int .u64 (dd.n 8), .int .u64 (dd.n 9)] 24))
         have RB := (O7.out.still TB.out).alloc (.cells #[.int .u64 (dd.n 0), .int .u64 (dd.n 1), .int .u64 (dd.n 2), .int .u64 (dd.n 3), .int .u64 (dd.n 4), .int .u64 (dd.n 5), .int .u64 (dd.n 6), .int .u64 (dd.n 7), .int .u64 (dd.n 8), .int .u64 (dd.n 9)] 24)
         have RD := Lib.hid (Row.fresh w7 24 #[.int .u64 (dd.n 0), .int .u64 (dd.n 1), .int .u64 (dd.n 2), .int .u64 (dd.n 3), .int .u64 (dd.n 4), .int .u64 (dd.n 5), .int .u64 (dd.n 6), .int .u64 (dd.n 7), .int .u64 (dd.n 8), .int .u64 (dd.n 9)])
         have OJ := Lib.hid ((OI.out.same O7.out).alloc (.cells #[.int .u64 (dd.n 0), .int .u64 (dd.n 1), .int .u64 (dd.n 2), .int .u64 (dd.n 3), .int .u64 (dd.n 4), .int .u64 (dd.n 5), .int .u64 (dd.n 6), .int .u64 (dd.n 7), .int .u64 (dd.n 8), .int .u64 (dd.n 9)] 24))
         generalize w7.alloc (.cells #[.int .u64 (dd.n 0), .int .u64 (dd.n 1), .int .u64 (dd.n 2), .int .u64 (dd.n 3), .int .u64 (dd.n 4), .int .u64 (dd.n 5), .int .u64 (dd.n 6), .int .u64 (dd.n 7), .int .u64 (dd.n 8), .int .u64 (dd.n 9)] 24) = w8 at *
         generalize w7.heap.size = g at *)
    generalize x.k = kx at *
    generalize y.k = ky at *
    obtain ⟨d0, d1⟩ := RX.out.two
    obtain ⟨f0, f1⟩ := RY.out.two
    obtain ⟨v0, v1, v2, v3, v4, v5, v6, v7, v8, v9⟩ := RD.out.ten
    by_cases hk : kx = ky
    · have e := EQ.out hk
      subst e hk
      obtain ⟨c0, c1, c2, c3, c4, c5, c6, c7, c8, c9⟩ := RB.ten
      go_wp2_with fail
      go_ret
      exact ⟨rfl, by first | exact OJ.out.to_below | (rw [← hb0]; exact OJ.out.to_below)⟩
    · obtain ⟨c0, c1, c2, c3, c4, c5, c6, c7, c8, c9⟩ := RB.ten
      go_wp2_with fail
      go_ret
      exact ⟨rfl, by first | exact OJ.out.to_below | (rw [← hb0]; exact OJ.out.to_below)⟩



end Go.Proofs.Ytofmbipedljdkaa.tallyTwice

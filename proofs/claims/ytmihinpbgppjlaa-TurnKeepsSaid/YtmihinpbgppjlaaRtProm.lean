/- The document's own turns: a ticket is promoted. -/
import Derived.Test.YtmihinpbgppjlaaRtSet
namespace Go.Proofs.Ytmihinpbgppjlaa
open Go.RowKit
set_option linter.unusedVariables false

theorem RtLTo.trans {w w1 w' : World} {q : Nat} {M M1 : Nat → Prop} {nd na : Nat} {k1 k2 l1 l2 : List Sl} {u1 u2 : Value} (h : RtLTo w q M nd na k1 k2 w1) (hm : RtL w1 q u1 u2 M1 nd na k1 k2) (hM : ∀ g, M1 g → M g ∨ w.heap.size ≤ g) (o : Only M w w1) (k : RtLTo w1 q M1 nd na l1 l2 w') : RtLTo w q M nd na l1 l2 w' := by
  obtain ⟨⟨v1, v2, M2, h2, hm2⟩, o2⟩ := k
  refine ⟨⟨v1, v2, M2, h2, fun g hg => ?_⟩, o.trans o2 (fun i hi s => ?_)⟩
  · rcases hm2 g hg with z | z
    · exact hM g z
    · exact .inr (Nat.le_trans o.size z)
  · rcases hM i s with z | z
    · exact z
    · omega
theorem cut_mid {ss : List Sl} {x : Int} (a : Bool) (h : ∀ z ∈ rowL a ss, z.k ≠ x) : rowL a (cutL ss x) = rowL a ss := by rw [row_cut]; exact cut_nowhere h
set_option maxRecDepth 100000 in
set_option maxHeartbeats 4000000 in
theorem rpromote_any {q : Nat} {v1 v2 : Value} {M : Nat → Prop} {nd na : Nat} {ss : List Sl} (x : Int) (w : World) (h : RtAt w q v1 v2 M nd na ss) (hl : ss.length ≤ 400) (hn : nd ≤ 1000) :
    Calls Try.prog 29 #[.pointer (some ⟨q, 0, none⟩), .int .i64 x] w (PutTo w q M nd na (promC nd ss x) (promS nd ss x)) := by
  have HAS := Lib.hid (rhas_any x w h (by omega))
  have l1 := row_le false ss
  have l2 := row_le true ss
  have F2 := Lib.hid (rfind_any x w h.oa (by omega))
  have c0 : w.cell? ⟨q, 0, none⟩ = some v1 := by rw [h.row.cell]; rfl
  have c1 : w.cell? ⟨q, 1, none⟩ = some v2 := by rw [h.row.cell]; rfl
  have c2 : w.cell? ⟨q, 2, none⟩ = some (.int .i64 nd) := by rw [h.row.cell]; rfl
  have H := Lib.hid h
  rcases ix_cases (rowL true ss) x with ⟨i, y, hi, hy, e⟩ | ⟨hi, n2⟩
  · have ST := stand_in h.once hy
    rw [e] at ST
    obtain ⟨E1, E2, E3, E4⟩ := ST
    rw [hi] at F2
    rw [E1] at HAS
    obtain ⟨A1, k1, rfl, _⟩ := OwnsSl.form h.od
    by_cases hr : nd ≤ (rowL false ss).length
    · have d1 : decide ((nd : Int) ≤ ((rowL false ss).length : Int)) = true := by simp; omega
      have d2 : decide (nd ≤ (rowL false ss).length) = true := by simpa using hr
      have PC := Lib.hid (show promC nd ss x = 2 from by unfold promC; rw [E1, E2, E3]; simp [hr])
      have PS := Lib.hid (show promS nd ss x = ss from by unfold promS; rw [PC.out]; rfl)
      generalize (rowL false ss).length = m at *
      clear h hy e hi E1 E2 E3 E4 hr
      go_enter Try.func29, Try.ntmps29
      go_wp2_with fail
      (with_reducible refine (HAS.out).mono ?_)
      rintro e w' ⟨rfl, rfl⟩
      go_wp2_with fail
      (with_reducible refine F2.out.mono ?_)
      rintro e w' ⟨rfl, rfl⟩
      go_wp2_with fail
      go_quiet (fail)
      go_wp2_with fail
      go_ret
      unfold PutTo
      rw [PC.out, PS.out]
      exact ⟨rfl, H.out.to ((Only.refl _ _).drewN _)⟩
    · have d1 : decide ((nd : Int) ≤ ((rowL false ss).length : Int)) = false := by simp; omega
      have d2 : decide (nd ≤ (rowL false ss).length) = false := by simpa using hr
      have PC := Lib.hid (show promC nd ss x = 0 from by unfold promC; rw [E1, E2, E3]; simp [hr])
      have PO := prom_once (nd := nd) h.once x
      have PS := Lib.hid (show promS nd ss x = cutL ss x ++ [⟨x, false, y.s⟩] from by unfold promS; rw [PC.out, if_pos rfl, E2])
      rw [PS.out] at PO
      have PO := Lib.hid PO
      have R1 := Lib.hid (show rowL false (cutL ss x ++ [⟨x, false, y.s⟩]) = rowL false ss ++ [⟨x, false, y.s⟩] from by rw [row_put, if_pos rfl, cut_mid false (fun z hz => E4 z hz)])
      have R2 := Lib.hid (show rowL true (cutL ss x ++ [⟨x, false, y.s⟩]) = (rowL true ss).take i ++ (rowL true ss).drop (i + 1) from by rw [row_put, if_neg (by decide), row_cut, ← e]; exact Go.Proofs.Ytmihinpbgppjlaa.cut_at (h.once.row true) hy)
      have EK := Lib.hid e
      obtain ⟨A2, k2, rfl, ha⟩ := OwnsSl.form h.oa
      obtain ⟨g, o, rfl, lt1, c⟩ := ha i y hy
      have e0 : w.cell? ⟨g, o + i * 2, none⟩ = some (.int .i64 y.k) := c 0 (.int .i64 y.k) rfl
      have e1 : w.cell? ⟨g, o + i * 2 + 1, none⟩ = some (.bool y.s) := c 1 (.bool y.s) rfl
      rw [e] at e0
      have li := lt_of_get hy
      have HL := Lib.hid h.l
      obtain ⟨i0, hi0, hz0, hz1, hz2⟩ := info_parts info_sl
      have I0 := Lib.hid hi0
      have I1 := Lib.hid hz0
      have I2 := Lib.hid hz1
      have I3 := Lib.hid hz2
      obtain ⟨a1, ha1⟩ : ∃ l, rowL false ss = l := ⟨_, rfl⟩
      obtain ⟨a2, ha2⟩ : ∃ l, rowL true ss = l := ⟨_, rfl⟩
      rw [ha1] at c0 d1 d2 HL l1 R1
      rw [ha2] at c1 F2 HL l2 li R2
      have dn : decide ((i : Int) < 0) = false := by simp
      clear h hy e hi E1 E2 E3 E4 hr c ha hi0 hz0 hz1 hz2 ha1 ha2 H
      go_enter Try.func29, Try.ntmps29
      go_wp2_with fail
      (with_reducible refine (HAS.out).mono ?_)
      rintro e w' ⟨rfl, rfl⟩
      go_wp2_with fail
      (with_reducible refine F2.out.mono ?_)
      rintro e w' ⟨rfl, rfl⟩
      go_wp2_with fail
      go_quiet (fail)
      obtain ⟨w3, hw3⟩ : ∃ w3, w3 = w.drewN nq := ⟨_, rfl⟩
      have N3 := Lib.hid (show Only none_ w w3 from by rw [hw3]; exact (Only.refl none_ w).drewN _)
      rw [← hw3]
      have H3 := Lib.hid (HL.out.still N3.out)
      have KQ := Lib.hid (fun w' (o' : Only none_ w w') => (show w'.cell? ⟨q, 0, none⟩ = some (.slice A1 a1.length k1) ∧ w'.cell? ⟨q, 1, none⟩ = some (.slice (some ⟨g, o, none⟩) a2.length k2) ∧ w'.cell? ⟨g, o + i * 2, none⟩ = some (.int .i64 x) ∧ w'.cell? ⟨g, o + i * 2 + 1, none⟩ = some (.bool y.s) ∧ w'.frozen? ⟨q, 0, none⟩ = false ∧ q < w'.heap.size from by
        have r := o'.still HL.out.row
        exact ⟨o'.cell c0 (fun s => s), o'.cell c1 (fun s => s), o'.cell e0 (fun s => s), o'.cell e1 (fun s => s), r.frozen 0, r.lt⟩))
      clear hw3 c0 c1 c2 HAS d1 d2 e0 e1 F2 dn
      go_wp2_with fail
      go_upto_region 8 with fail
      go_cut [] from 28 to 45 (fun wx => RtLTo w3 q M nd na (a1 ++ [⟨x, false, y.s⟩]) a2 wx)
      case first =>
        have WA := Lib.hid (((Only.refl none_ w3).alloc (.cells #[] 63)).drew)
        have EMP := Lib.hid (show ((w3.alloc (.cells #[] 63)).drew).ownsRow w3.heap.size 63 2 (.slice (some ⟨w3.heap.size, 0, none⟩) 0 0) 0 [] from ⟨rfl, .inr ⟨w3.heap.size, 0, #[], rfl, Nat.le_refl _, Row.fresh w3 63 #[], Nat.le_refl _, Nat.zero_le _, rfl, rfl⟩⟩)
        have zA : w3.heap.size ≤ ((w3.alloc (.cells #[] 63)).drew).heap.size := WA.out.size
        obtain ⟨ea0, ea1, ea2, ea3, ea4, ea5⟩ := KQ.out _ (N3.out.same WA.out)
        obtain ⟨eb0, eb1, eb2, eb3, eb4, eb5⟩ := KQ.out _ (N3.out.same (Only.refl none_ w3).drew)
        have S3 := Lib.hid (Src.own H3.out.od)
        have WB := Lib.hid ((((Only.refl none_ w3).alloc (.cells #[] 63)).alloc (.cells #[.int .i64 x, .bool y.s] 63)).drew)
        have EM2 := Lib.hid (show (((w3.alloc (.cells #[] 63)).alloc (.cells #[.int .i64 x, .bool y.s] 63)).drew).ownsRow w3.heap.size 63 2 (.slice (some ⟨w3.heap.size, 0, none⟩) 0 0) 0 [] from World.ownsRow.alloc (show (w3.alloc (.cells #[] 63)).ownsRow w3.heap.size 63 2 (.slice (some ⟨w3.heap.size, 0, none⟩) 0 0) 0 [] from ⟨rfl, .inr ⟨w3.heap.size, 0, #[], rfl, Nat.le_refl _, Row.fresh w3 63 #[], Nat.le_refl _, Nat.zero_le _, rfl, rfl⟩⟩) (.cells #[.int .i64 x, .bool y.s] 63))
        have RB := Lib.hid (show Row (((w3.alloc (.cells #[] 63)).alloc (.cells #[.int .i64 x, .bool y.s] 63)).drew) (w3.heap.size + 1) 63 #[.int .i64 x, .bool y.s] from by
          have r := Row.fresh (w3.alloc (.cells #[] 63)) 63 #[.int .i64 x, .bool y.s]
          rw [World.size_alloc] at r
          exact r)
        have zB : w3.heap.size ≤ (((w3.alloc (.cells #[] 63)).alloc (.cells #[.int .i64 x, .bool y.s] 63)).drew).heap.size := WB.out.size
        obtain ⟨ec0, ec1, ec2, ec3, ec4, ec5⟩ := KQ.out _ (N3.out.same WB.out)
        have WC := Lib.hid ((((Only.refl none_ w3).alloc (.cells #[.int .i64 x, .bool y.s] 63)).alloc (.cells #[] 63)).drew)
        have WY := Lib.hid (((Only.refl none_ w3).alloc (.cells #[.int .i64 x, .bool y.s] 63)).drew)
        have EM3 := Lib.hid (show (((w3.alloc (.cells #[.int .i64 x, .bool y.s] 63)).alloc (.cells #[] 63)).drew).ownsRow w3.heap.size 63 2 (.slice (some ⟨w3.heap.size + 1, 0, none⟩) 0 0) 0 [] from ⟨rfl, .inr ⟨w3.heap.size + 1, 0, #[], rfl, by omega, by
          have r := Row.fresh (w3.alloc (.cells #[.int .i64 x, .bool y.s] 63)) 63 #[]
          rw [World.size_alloc] at r
          exact r, Nat.le_refl _, Nat.zero_le _, rfl, rfl⟩⟩)
        have RC := Lib.hid (show Row (((w3.alloc (.cells #[.int .i64 x, .bool y.s] 63)).alloc (.cells #[] 63)).drew) w3.heap.size 63 #[.int .i64 x, .bool y.s] from (Row.fresh w3 63 #[.int .i64 x, .bool y.s]).alloc _)
        have zC : w3.heap.size ≤ (((w3.alloc (.cells #[.int .i64 x, .bool y.s] 63)).alloc (.cells #[] 63)).drew).heap.size := WC.out.size
        obtain ⟨eh0, eh1, eh2, eh3, eh4, eh5⟩ := KQ.out _ (N3.out.same WC.out)
        obtain ⟨ei0, ei1, ei2, ei3, ei4, ei5⟩ := KQ.out _ (N3.out.same WY.out)
        have B1 := Lib.hid (show 0 + a1.length ≤ maxLen from by unfold maxLen; omega)
        have B2 := Lib.hid (show (0 + a1.length) * 16 ≤ 140737488355328 from by omega)
        have B3 := Lib.hid (show 0 + a1.length + 1 ≤ maxLen from by unfold maxLen; omega)
        have B4 := Lib.hid (show (0 + a1.length + 1) * 16 ≤ 140737488355328 from by omega)
        go_region_law (first
          | (refine step_append_src rfl (.tmp 29) (.tmp 33) 38 rfl w3.heap.size 63 i0 _ 2 16 Try.underlying38 I0.out I1.out I2.out I3.out rfl (by decide) _ 0 [] rfl EMP.out _ a1.length _ rfl (S3.out.still WA.out) (sl_flat_len _) (sl_cells_one _) B1.out B2.out zA ?_
             intro v5 w5 hown5 hgrow5
             have O5 := Lib.hid (WA.out.trans (Only.of_grown hgrow5) (fun j hj q' => by have q2 : some j = some w3.heap.size := q'; injection q2; omega))
             have OW5 := Lib.hid (World.ownsRow.alloc hown5 (.cells #[.int .i64 x, .bool y.s] 63))
             have RX := Lib.hid (Row.fresh w5 63 #[.int .i64 x, .bool y.s])
             have O6 := Lib.hid (O5.out.alloc (.cells #[.int .i64 x, .bool y.s] 63))
             have z6 : w3.heap.size ≤ (w5.alloc (.cells #[.int .i64 x, .bool y.s] 63)).heap.size := O6.out.size
             have L5 := Lib.hid (fun j (hj : some j = v5.ownBlock) => (World.ownsRow.lt hown5 j hj.symm).1)
             have NC := Lib.hid (show Src (w5.alloc (.cells #[.int .i64 x, .bool y.s] 63)) (.slice (some ⟨w5.heap.size, 0, none⟩) 1 1) 1 [.int .i64 x, .bool y.s] from .inr ⟨_, _, rfl, fun j u hj => by rw [add12, Nat.zero_add, RX.out.cell, List.getElem?_toArray]; exact hj⟩)
             obtain ⟨eg0, eg1, eg2, eg3, eg4, eg5⟩ := KQ.out _ (N3.out.same O5.out)
             clear hown5 hgrow5)
          | (refine step_append_src rfl (.tmp 34) (.tmp 42) 38 rfl w3.heap.size 63 i0 _ 2 16 Try.underlying38 I0.out I1.out I2.out I3.out rfl (by decide) _ (0 + a1.length) _ rfl OW5.out _ 1 [.int .i64 x, .bool y.s] rfl NC.out rfl (sl_one ⟨x, false, y.s⟩) B3.out B4.out z6 ?_
             intro v6 w6 hown6 hgrow6
             have W6 := Lib.hid (O6.out.trans (Only.of_grown hgrow6) (fun j hj q' => by have := L5.out j q'; omega))
             have OW6 := Lib.hid (show OwnsSl w6 w3.heap.size v6 (a1 ++ [⟨x, false, y.s⟩]) from by
               unfold OwnsSl Owns
               rw [List.flatMap_append, List.length_append]
               simpa [Sl.cells] using hown6)
             obtain ⟨ef0, ef1, ef2, ef3, ef4, ef5⟩ := KQ.out _ (N3.out.same W6.out)
             obtain ⟨a6, n6, k6, rfl⟩ := own_form12 OW6.out
             clear hown6 hgrow6)
          | (refine step_append_src rfl (.tmp 29) (.tmp 33) 38 rfl w3.heap.size 63 i0 _ 2 16 Try.underlying38 I0.out I1.out I2.out I3.out rfl (by decide) _ 0 [] rfl EM2.out _ a1.length _ rfl (S3.out.still WB.out) (sl_flat_len _) (sl_cells_one _) B1.out B2.out zB ?_
             intro v5 w5 hown5 hgrow5
             have O6 := Lib.hid (WB.out.trans (Only.of_grown hgrow5) (fun j hj q' => by have q2 : some j = some w3.heap.size := q'; injection q2; omega))
             have OWB := Lib.hid hown5
             have RX := Lib.hid ((Only.of_grown hgrow5).row RB.out (fun q' => by have q2 : some (w3.heap.size + 1) = some w3.heap.size := q'; injection q2; omega))
             have z6 : w3.heap.size ≤ w5.heap.size := O6.out.size
             have L5 := Lib.hid (fun j (hj : some j = v5.ownBlock) => (World.ownsRow.lt hown5 j hj.symm).1)
             have NCB := Lib.hid (show Src w5 (.slice (some ⟨w3.heap.size + 1, 0, none⟩) 1 1) 1 [.int .i64 x, .bool y.s] from .inr ⟨_, _, rfl, fun j u hj => by rw [add12, Nat.zero_add, RX.out.cell, List.getElem?_toArray]; exact hj⟩)
             obtain ⟨eg0, eg1, eg2, eg3, eg4, eg5⟩ := KQ.out _ (N3.out.same O6.out)
             clear hown5 hgrow5)
          | (refine step_append_src rfl (.tmp 34) (.tmp 42) 38 rfl w3.heap.size 63 i0 _ 2 16 Try.underlying38 I0.out I1.out I2.out I3.out rfl (by decide) _ (0 + a1.length) _ rfl OWB.out _ 1 [.int .i64 x, .bool y.s] rfl NCB.out rfl (sl_one ⟨x, false, y.s⟩) B3.out B4.out z6 ?_
             intro v6 w6 hown6 hgrow6
             have W6 := Lib.hid (O6.out.trans (Only.of_grown hgrow6) (fun j hj q' => by have := L5.out j q'; omega))
             have OW6 := Lib.hid (show OwnsSl w6 w3.heap.size v6 (a1 ++ [⟨x, false, y.s⟩]) from by
               unfold OwnsSl Owns
               rw [List.flatMap_append, List.length_append]
               simpa [Sl.cells] using hown6)
             obtain ⟨ef0, ef1, ef2, ef3, ef4, ef5⟩ := KQ.out _ (N3.out.same W6.out)
             obtain ⟨a6, n6, k6, rfl⟩ := own_form12 OW6.out
             clear hown6 hgrow6)
          | (refine step_append_src rfl (.tmp 29) (.tmp 33) 38 rfl w3.heap.size 63 i0 _ 2 16 Try.underlying38 I0.out I1.out I2.out I3.out rfl (by decide) _ 0 [] rfl EM3.out _ a1.length _ rfl (S3.out.still WC.out) (sl_flat_len _) (sl_cells_one _) B1.out B2.out zC ?_
             intro v5 w5 hown5 hgrow5
             have O6 := Lib.hid (WC.out.trans (Only.of_grown hgrow5) (fun j hj q' => by have q2 : some j = some (w3.heap.size + 1) := q'; injection q2; omega))
             have OWC := Lib.hid hown5
             have RX := Lib.hid ((Only.of_grown hgrow5).row RC.out (fun q' => by have q2 : some w3.heap.size = some (w3.heap.size + 1) := q'; injection q2; omega))
             have z6 : w3.heap.size ≤ w5.heap.size := O6.out.size
             have L5 := Lib.hid (fun j (hj : some j = v5.ownBlock) => (World.ownsRow.lt hown5 j hj.symm).1)
             have NCC := Lib.hid (show Src w5 (.slice (some ⟨w3.heap.size, 0, none⟩) 1 1) 1 [.int .i64 x, .bool y.s] from .inr ⟨_, _, rfl, fun j u hj => by rw [add12, Nat.zero_add, RX.out.cell, List.getElem?_toArray]; exact hj⟩)
             obtain ⟨eg0, eg1, eg2, eg3, eg4, eg5⟩ := KQ.out _ (N3.out.same O6.out)
             clear hown5 hgrow5)
          | (refine step_append_src rfl (.tmp 34) (.tmp 42) 38 rfl w3.heap.size 63 i0 _ 2 16 Try.underlying38 I0.out I1.out I2.out I3.out rfl (by decide) _ (0 + a1.length) _ rfl OWC.out _ 1 [.int .i64 x, .bool y.s] rfl NCC.out rfl (sl_one ⟨x, false, y.s⟩) B3.out B4.out z6 ?_
             intro v6 w6 hown6 hgrow6
             have W6 := Lib.hid (O6.out.trans (Only.of_grown hgrow6) (fun j hj q' => by have := L5.out j q'; omega))
             have OW6 := Lib.hid (show OwnsSl w6 w3.heap.size v6 (a1 ++ [⟨x, false, y.s⟩]) from by
               unfold OwnsSl Owns
               rw [List.flatMap_append, List.length_append]
               simpa [Sl.cells] using hown6)
             obtain ⟨ef0, ef1, ef2, ef3, ef4, ef5⟩ := KQ.out _ (N3.out.same W6.out)
             obtain ⟨a6, n6, k6, rfl⟩ := own_form12 OW6.out
             clear hown6 hgrow6)
          | fail)
        all_goals
          go_wp2_with fail
          go_meet
          case rel => exact RtL.one H3.out W6.out OW6.out
      case rest =>
        have hc := hcut
        obtain ⟨⟨u1, u2, M1, hm, hM⟩, ho⟩ := hc
        have HM := Lib.hid hm
        have CUT := Lib.hid hcut
        have OM := Lib.hid ho
        have HS := Lib.hid hM
        have f1 : wc.cell? ⟨q, 1, none⟩ = some u2 := by rw [hm.row.cell]; rfl
        have WI := Lib.hid (rwithout_any wc hm.oa li (by omega))
        clear hm hM ho hcut H3
        go_wp2_with fail
        (with_reducible refine WI.out.mono ?_)
        rintro e w8 ⟨v8, rfl, h8, o8⟩
        have O8 := Lib.hid o8
        have H8 := Lib.hid h8
        have r8 := O8.out.still HM.out.row
        have z8 := r8.frozen 1
        have g8 : w8.cell? ⟨q, 1, none⟩ = some u2 := by rw [r8.cell]; rfl
        have lq8 := r8.lt
        obtain ⟨a8, n8, k8, rfl⟩ := own_form12 H8.out
        clear h8 o8 r8
        go_wp2_with fail
        go_ret
        unfold PutTo
        rw [PC.out, PS.out]
        exact ⟨rfl, (RtTo.behind N3.out (RtLTo.trans ⟨⟨u1, u2, M1, HM.out, HS.out⟩, OM.out⟩ HM.out HS.out OM.out (RtL.two HM.out O8.out H8.out))).at_ PO.out R1.out R2.out⟩
  · rw [hi] at F2
    cases hh : hasL ss x with
    | false =>
      have PC := Lib.hid (show promC nd ss x = 3 from by unfold promC; rw [hh]; rfl)
      have PS := Lib.hid (show promS nd ss x = ss from by unfold promS; rw [PC.out]; rfl)
      rw [hh] at HAS
      clear h hi n2 hh
      go_enter Try.func29, Try.ntmps29
      go_wp2_with fail
      (with_reducible refine (HAS.out).mono ?_)
      rintro e w' ⟨rfl, rfl⟩
      go_wp2_with fail
      go_ret
      unfold PutTo
      rw [PC.out, PS.out]
      exact ⟨rfl, H.out.to (Only.refl _ _)⟩
    | true =>
      have ea : (atL ss x).a = false := by
        have := atL_has hh
        cases e : (atL ss x).a with
        | false => rfl
        | true => exact absurd this.2 (n2 _ (row_mem.2 ⟨this.1, e⟩))
      have PC := Lib.hid (show promC nd ss x = 5 from by unfold promC; rw [hh, ea]; simp)
      have PS := Lib.hid (show promS nd ss x = ss from by unfold promS; rw [PC.out]; rfl)
      rw [hh] at HAS
      clear h hi n2 hh ea
      go_enter Try.func29, Try.ntmps29
      go_wp2_with fail
      (with_reducible refine (HAS.out).mono ?_)
      rintro e w' ⟨rfl, rfl⟩
      go_wp2_with fail
      (with_reducible refine F2.out.mono ?_)
      rintro e w' ⟨rfl, rfl⟩
      go_wp2_with fail
      go_ret
      unfold PutTo
      rw [PC.out, PS.out]
      exact ⟨rfl, H.out.to (Only.refl _ _)⟩
end Go.Proofs.Ytmihinpbgppjlaa

/- The document's own turns: a ticket comes in. -/
import Derived.Test.YtmihinpbgppjlaaRtOut
namespace Go.Proofs.Ytmihinpbgppjlaa
open Go.RowKit
set_option linter.unusedVariables false

def PutTo (w : World) (q : Nat) (M : Nat → Prop) (nd na : Nat) (c : Int) (ss : List Sl) (e : Ending) (w' : World) : Prop := e = .returned (.int .i64 c) ∧ RtTo w q M nd na ss w'
theorem RtTo.behind {w w1 w' : World} {q : Nat} {M : Nat → Prop} {nd na : Nat} {l1 l2 : List Sl} (o : Only none_ w w1) (h : RtLTo w1 q M nd na l1 l2 w') : RtLTo w q M nd na l1 l2 w' := by
  obtain ⟨⟨v1, v2, M', h, hm⟩, ho⟩ := h
  exact ⟨⟨v1, v2, M', h, fun g hg => (hm g hg).imp id (Nat.le_trans o.size)⟩, o.then_ ho⟩

set_option maxRecDepth 100000 in
set_option maxHeartbeats 4000000 in
theorem rput_ahead {q : Nat} {v1 v2 : Value} {M : Nat → Prop} {nd na : Nat} {ss : List Sl} (x : Int) (w : World) (h : RtAt w q v1 v2 M nd na ss) (hl : ss.length ≤ 400) (hn : nd ≤ 1000 ∧ na ≤ 1000) :
    Calls Try.prog 27 #[.pointer (some ⟨q, 0, none⟩), .int .i64 x, .bool true] w (PutTo w q M nd na (putC nd na ss x true) (putS nd na ss x true)) := by
  have HAS := Lib.hid (rhas_any x w h (by omega))
  have H := Lib.hid h
  have LE := row_le true ss
  by_cases h1 : x < 1
  · have d : decide (x < 1) = true := by simpa using h1
    have PC := Lib.hid (show putC nd na ss x true = 1 from by unfold putC; rw [if_pos h1])
    have PS := Lib.hid (show putS nd na ss x true = ss from by unfold putS; rw [PC.out]; rfl)
    clear h h1
    go_enter Try.func27, Try.ntmps27
    go_wp2_with fail
    go_ret
    unfold PutTo
    rw [PC.out, PS.out]
    exact ⟨rfl, H.out.to (Only.refl _ _)⟩
  · have d : decide (x < 1) = false := by simpa using h1
    cases hh : hasL ss x with
    | true =>
      have PC := Lib.hid (show putC nd na ss x true = 4 from by unfold putC; rw [if_neg h1, hh]; rfl)
      have PS := Lib.hid (show putS nd na ss x true = ss from by unfold putS; rw [PC.out]; rfl)
      rw [hh] at HAS
      clear h h1 hh
      go_enter Try.func27, Try.ntmps27
      go_wp2_with fail
      (with_reducible refine (HAS.out).mono ?_)
      rintro e w' ⟨rfl, rfl⟩
      go_wp2_with fail
      go_ret
      unfold PutTo
      rw [PC.out, PS.out]
      exact ⟨rfl, H.out.to (Only.refl _ _)⟩
    | false =>
      rw [hh] at HAS
      obtain ⟨A, cap, hv2, _⟩ := OwnsSl.form h.oa
      have c0 : w.cell? ⟨q, 1, none⟩ = some (.slice A (rowL true ss).length cap) := by rw [h.row.cell, ← hv2]; rfl
      have c1 : w.cell? ⟨q, 3, none⟩ = some (.int .i64 na) := by rw [h.row.cell]; rfl
      by_cases hr : na ≤ (rowL true ss).length
      · have d1 : decide ((na : Int) ≤ ((rowL true ss).length : Int)) = true := by simp; omega
        have d2 : decide (na ≤ (rowL true ss).length) = true := by simpa using hr
        have PC := Lib.hid (show putC nd na ss x true = 2 from by unfold putC; rw [if_neg h1, hh, if_neg (by simp), if_pos (show mostL nd na true ≤ _ from hr)])
        have PS := Lib.hid (show putS nd na ss x true = ss from by unfold putS; rw [PC.out]; rfl)
        generalize (rowL true ss).length = m at *
        clear h h1 hh hr hv2
        go_enter Try.func27, Try.ntmps27
        go_wp2_with fail
        (with_reducible refine (HAS.out).mono ?_)
        rintro e w' ⟨rfl, rfl⟩
        go_wp2_with fail
        go_quiet (fail)
        go_wp2_with fail
        go_ret
        unfold PutTo
        rw [PC.out, PS.out]
        exact ⟨rfl, H.out.to ((Only.refl _ _).drewN _)⟩
      · have d1 : decide ((na : Int) ≤ ((rowL true ss).length : Int)) = false := by simp; omega
        have d2 : decide (na ≤ (rowL true ss).length) = false := by simpa using hr
        have PC := Lib.hid (show putC nd na ss x true = 0 from by unfold putC; rw [if_neg h1, hh, if_neg (by simp), if_neg (show ¬ mostL nd na true ≤ _ from hr)])
        have PO := Lib.hid (put_once (nd := nd) (na := na) h.once x true)
        have PS := Lib.hid (show putS nd na ss x true = ss ++ [⟨x, true, true⟩] from by unfold putS; rw [PC.out]; rfl)
        have R1 := Lib.hid (show rowL true (ss ++ [⟨x, true, true⟩]) = rowL true ss ++ [⟨x, true, true⟩] from by rw [row_put]; simp)
        have R2 := Lib.hid (show rowL (!true) (ss ++ [⟨x, true, true⟩]) = rowL (!true) ss from by rw [row_put]; simp)
        have HO := Lib.hid (show OwnsSl w 0 (.slice A (rowL true ss).length cap) (rowL true ss) from by rw [← hv2]; exact h.oa)
        have LL := Lib.hid (show (rowL true ss).length ≤ 400 from by omega)
        obtain ⟨i0, hi0, hz0, hz1, hz2⟩ := info_parts info_sl
        have I0 := Lib.hid hi0
        have I1 := Lib.hid hz0
        have I2 := Lib.hid hz1
        have I3 := Lib.hid hz2
        obtain ⟨l, hll⟩ : ∃ l, rowL true ss = l := ⟨_, rfl⟩
        have EL := Lib.hid hll
        rw [hll] at c0 d1 d2 HO LL LE
        clear h h1 hh hr hv2 hi0 hz0 hz1 hz2 hll
        go_enter Try.func27, Try.ntmps27
        go_wp2_with fail
        (with_reducible refine (HAS.out).mono ?_)
        rintro e w' ⟨rfl, rfl⟩
        go_wp2_with fail
        go_quiet (fail)
        obtain ⟨w3, hw3⟩ : ∃ w3, w3 = w.drewN nq := ⟨_, rfl⟩
        have N3 := Lib.hid (show Only none_ w w3 from by rw [hw3]; exact (Only.refl none_ w).drewN _)
        rw [← hw3]
        have H3 := Lib.hid (H.out.still N3.out)
        have S3 := Lib.hid ((Src.own HO.out).still N3.out)
        have KQ := Lib.hid (fun w' (o : Only none_ w w') => (show w'.cell? ⟨q, 1, none⟩ = some (.slice A l.length cap) ∧ w'.frozen? ⟨q, 1, none⟩ = false ∧ q < w'.heap.size from by
          have r := o.still H.out.row
          exact ⟨o.cell c0 (fun s => s), r.frozen 1, r.lt⟩))
        clear hw3 c0 c1 HAS d d1 d2
        have WA := Lib.hid ((Only.refl none_ w3).alloc (.cells #[] 63))
        have RA := Lib.hid (Row.fresh w3 63 #[])
        have EMP := Lib.hid (show (w3.alloc (.cells #[] 63)).ownsRow w3.heap.size 63 2 (.slice (some ⟨w3.heap.size, 0, none⟩) 0 0) 0 [] from ⟨rfl, .inr ⟨w3.heap.size, 0, #[], rfl, Nat.le_refl _, RA.out, Nat.le_refl _, Nat.zero_le _, rfl, rfl⟩⟩)
        have zA : w3.heap.size ≤ (w3.alloc (.cells #[] 63)).heap.size := WA.out.size
        obtain ⟨ea0, ea1, ea2⟩ := KQ.out _ (N3.out.same WA.out)
        have B1 := Lib.hid (show 0 + l.length ≤ maxLen from by have := LL.out; unfold maxLen; omega)
        have B2 := Lib.hid (show (0 + l.length) * 16 ≤ 140737488355328 from by have := LL.out; omega)
        have B3 := Lib.hid (show 0 + l.length + 1 ≤ maxLen from by have := LL.out; unfold maxLen; omega)
        have B4 := Lib.hid (show (0 + l.length + 1) * 16 ≤ 140737488355328 from by have := LL.out; omega)
        go_wp2_with (at_builtin; first
          | (refine wpList_append_src _ rfl (.tmp 24) (.tmp 28) 38 rfl w3.heap.size 63 i0 _ 2 16 Try.underlying38 I0.out I1.out I2.out I3.out rfl (by decide) _ 0 [] rfl EMP.out _ l.length _ rfl (S3.out.still WA.out) (sl_flat_len _) (sl_cells_one _) B1.out B2.out zA ?_
             intro v5 w5 hown5 hgrow5 _
             have O5 := Lib.hid (WA.out.trans (Only.of_grown hgrow5) (fun j hj q' => by have q2 : some j = some w3.heap.size := q'; injection q2; omega))
             have OW5 := Lib.hid (World.ownsRow.alloc hown5 (.cells #[.int .i64 x, .bool true] 63))
             have RX := Lib.hid (Row.fresh w5 63 #[.int .i64 x, .bool true])
             have O6 := Lib.hid (O5.out.alloc (.cells #[.int .i64 x, .bool true] 63))
             have z6 : w3.heap.size ≤ (w5.alloc (.cells #[.int .i64 x, .bool true] 63)).heap.size := O6.out.size
             have L5 := Lib.hid (fun j (hj : some j = v5.ownBlock) => (World.ownsRow.lt hown5 j hj.symm).1)
             have NC := Lib.hid (show Src (w5.alloc (.cells #[.int .i64 x, .bool true] 63)) (.slice (some ⟨w5.heap.size, 0, none⟩) 1 1) 1 [.int .i64 x, .bool true] from .inr ⟨_, _, rfl, fun j u hj => by rw [add12, Nat.zero_add, RX.out.cell, List.getElem?_toArray]; exact hj⟩)
             have ON := Lib.hid (sl_one ⟨x, true, true⟩)
             clear hown5 hgrow5)
          | (refine wpList_append_src _ rfl (.tmp 29) (.tmp 32) 38 rfl w3.heap.size 63 i0 _ 2 16 Try.underlying38 I0.out I1.out I2.out I3.out rfl (by decide) _ (0 + l.length) _ rfl OW5.out _ 1 [.int .i64 x, .bool true] rfl NC.out rfl ON.out B3.out B4.out z6 ?_
             intro v6 w6 hown6 hgrow6 _
             have W6 := Lib.hid (O6.out.trans (Only.of_grown hgrow6) (fun j hj q' => by have := L5.out j q'; omega))
             have OW6 := Lib.hid (show OwnsSl w6 w3.heap.size v6 (l ++ [⟨x, true, true⟩]) from by
               unfold OwnsSl Owns
               rw [List.flatMap_append, List.length_append]
               simpa [Sl.cells] using hown6)
             obtain ⟨ef0, ef1, ef2⟩ := KQ.out _ (N3.out.same W6.out)
             obtain ⟨a6, n6, k6, rfl⟩ := own_form12 OW6.out
             clear hown6 hgrow6)
          | fail)
        go_ret
        unfold PutTo
        have po := PO.out
        rw [PS.out] at po ⊢
        rw [PC.out]
        have FIN := RtTo.behind N3.out (RtL.two H3.out.l W6.out OW6.out)
        exact ⟨rfl, FIN.at_ po R2.out (by rw [R1.out, EL.out])⟩

set_option maxRecDepth 100000 in
set_option maxHeartbeats 4000000 in
theorem rput_demand {q : Nat} {v1 v2 : Value} {M : Nat → Prop} {nd na : Nat} {ss : List Sl} (x : Int) (w : World) (h : RtAt w q v1 v2 M nd na ss) (hl : ss.length ≤ 400) (hn : nd ≤ 1000 ∧ na ≤ 1000) :
    Calls Try.prog 27 #[.pointer (some ⟨q, 0, none⟩), .int .i64 x, .bool false] w (PutTo w q M nd na (putC nd na ss x false) (putS nd na ss x false)) := by
  have HAS := Lib.hid (rhas_any x w h (by omega))
  have H := Lib.hid h
  have LE := row_le false ss
  by_cases h1 : x < 1
  · have d : decide (x < 1) = true := by simpa using h1
    have PC := Lib.hid (show putC nd na ss x false = 1 from by unfold putC; rw [if_pos h1])
    have PS := Lib.hid (show putS nd na ss x false = ss from by unfold putS; rw [PC.out]; rfl)
    clear h h1
    go_enter Try.func27, Try.ntmps27
    go_wp2_with fail
    go_ret
    unfold PutTo
    rw [PC.out, PS.out]
    exact ⟨rfl, H.out.to (Only.refl _ _)⟩
  · have d : decide (x < 1) = false := by simpa using h1
    cases hh : hasL ss x with
    | true =>
      have PC := Lib.hid (show putC nd na ss x false = 4 from by unfold putC; rw [if_neg h1, hh]; rfl)
      have PS := Lib.hid (show putS nd na ss x false = ss from by unfold putS; rw [PC.out]; rfl)
      rw [hh] at HAS
      clear h h1 hh
      go_enter Try.func27, Try.ntmps27
      go_wp2_with fail
      (with_reducible refine (HAS.out).mono ?_)
      rintro e w' ⟨rfl, rfl⟩
      go_wp2_with fail
      go_ret
      unfold PutTo
      rw [PC.out, PS.out]
      exact ⟨rfl, H.out.to (Only.refl _ _)⟩
    | false =>
      rw [hh] at HAS
      obtain ⟨A, cap, hv1, _⟩ := OwnsSl.form h.od
      have c0 : w.cell? ⟨q, 0, none⟩ = some (.slice A (rowL false ss).length cap) := by rw [h.row.cell, ← hv1]; rfl
      have c1 : w.cell? ⟨q, 2, none⟩ = some (.int .i64 nd) := by rw [h.row.cell]; rfl
      by_cases hr : nd ≤ (rowL false ss).length
      · have d1 : decide ((nd : Int) ≤ ((rowL false ss).length : Int)) = true := by simp; omega
        have d2 : decide (nd ≤ (rowL false ss).length) = true := by simpa using hr
        have PC := Lib.hid (show putC nd na ss x false = 2 from by unfold putC; rw [if_neg h1, hh, if_neg (by simp), if_pos (show mostL nd na false ≤ _ from hr)])
        have PS := Lib.hid (show putS nd na ss x false = ss from by unfold putS; rw [PC.out]; rfl)
        generalize (rowL false ss).length = m at *
        clear h h1 hh hr hv1
        go_enter Try.func27, Try.ntmps27
        go_wp2_with fail
        (with_reducible refine (HAS.out).mono ?_)
        rintro e w' ⟨rfl, rfl⟩
        go_wp2_with fail
        go_quiet (fail)
        go_wp2_with fail
        go_ret
        unfold PutTo
        rw [PC.out, PS.out]
        exact ⟨rfl, H.out.to ((Only.refl _ _).drewN _)⟩
      · have d1 : decide ((nd : Int) ≤ ((rowL false ss).length : Int)) = false := by simp; omega
        have d2 : decide (nd ≤ (rowL false ss).length) = false := by simpa using hr
        have PC := Lib.hid (show putC nd na ss x false = 0 from by unfold putC; rw [if_neg h1, hh, if_neg (by simp), if_neg (show ¬ mostL nd na false ≤ _ from hr)])
        have PO := Lib.hid (put_once (nd := nd) (na := na) h.once x false)
        have PS := Lib.hid (show putS nd na ss x false = ss ++ [⟨x, false, true⟩] from by unfold putS; rw [PC.out]; rfl)
        have R1 := Lib.hid (show rowL false (ss ++ [⟨x, false, true⟩]) = rowL false ss ++ [⟨x, false, true⟩] from by rw [row_put]; simp)
        have R2 := Lib.hid (show rowL (!false) (ss ++ [⟨x, false, true⟩]) = rowL (!false) ss from by rw [row_put]; simp)
        have HO := Lib.hid (show OwnsSl w 0 (.slice A (rowL false ss).length cap) (rowL false ss) from by rw [← hv1]; exact h.od)
        have LL := Lib.hid (show (rowL false ss).length ≤ 400 from by omega)
        obtain ⟨i0, hi0, hz0, hz1, hz2⟩ := info_parts info_sl
        have I0 := Lib.hid hi0
        have I1 := Lib.hid hz0
        have I2 := Lib.hid hz1
        have I3 := Lib.hid hz2
        obtain ⟨l, hll⟩ : ∃ l, rowL false ss = l := ⟨_, rfl⟩
        have EL := Lib.hid hll
        rw [hll] at c0 d1 d2 HO LL LE
        clear h h1 hh hr hv1 hi0 hz0 hz1 hz2 hll
        go_enter Try.func27, Try.ntmps27
        go_wp2_with fail
        (with_reducible refine (HAS.out).mono ?_)
        rintro e w' ⟨rfl, rfl⟩
        go_wp2_with fail
        go_quiet (fail)
        obtain ⟨w3, hw3⟩ : ∃ w3, w3 = w.drewN nq := ⟨_, rfl⟩
        have N3 := Lib.hid (show Only none_ w w3 from by rw [hw3]; exact (Only.refl none_ w).drewN _)
        rw [← hw3]
        have H3 := Lib.hid (H.out.still N3.out)
        have S3 := Lib.hid ((Src.own HO.out).still N3.out)
        have KQ := Lib.hid (fun w' (o : Only none_ w w') => (show w'.cell? ⟨q, 0, none⟩ = some (.slice A l.length cap) ∧ w'.frozen? ⟨q, 0, none⟩ = false ∧ q < w'.heap.size from by
          have r := o.still H.out.row
          exact ⟨o.cell c0 (fun s => s), r.frozen 0, r.lt⟩))
        clear hw3 c0 c1 HAS d d1 d2
        have WA := Lib.hid ((Only.refl none_ w3).alloc (.cells #[] 63))
        have RA := Lib.hid (Row.fresh w3 63 #[])
        have EMP := Lib.hid (show (w3.alloc (.cells #[] 63)).ownsRow w3.heap.size 63 2 (.slice (some ⟨w3.heap.size, 0, none⟩) 0 0) 0 [] from ⟨rfl, .inr ⟨w3.heap.size, 0, #[], rfl, Nat.le_refl _, RA.out, Nat.le_refl _, Nat.zero_le _, rfl, rfl⟩⟩)
        have zA : w3.heap.size ≤ (w3.alloc (.cells #[] 63)).heap.size := WA.out.size
        obtain ⟨ea0, ea1, ea2⟩ := KQ.out _ (N3.out.same WA.out)
        have B1 := Lib.hid (show 0 + l.length ≤ maxLen from by have := LL.out; unfold maxLen; omega)
        have B2 := Lib.hid (show (0 + l.length) * 16 ≤ 140737488355328 from by have := LL.out; omega)
        have B3 := Lib.hid (show 0 + l.length + 1 ≤ maxLen from by have := LL.out; unfold maxLen; omega)
        have B4 := Lib.hid (show (0 + l.length + 1) * 16 ≤ 140737488355328 from by have := LL.out; omega)
        go_wp2_with (at_builtin; first
          | (refine wpList_append_src _ rfl (.tmp 47) (.tmp 51) 38 rfl w3.heap.size 63 i0 _ 2 16 Try.underlying38 I0.out I1.out I2.out I3.out rfl (by decide) _ 0 [] rfl EMP.out _ l.length _ rfl (S3.out.still WA.out) (sl_flat_len _) (sl_cells_one _) B1.out B2.out zA ?_
             intro v5 w5 hown5 hgrow5 _
             have O5 := Lib.hid (WA.out.trans (Only.of_grown hgrow5) (fun j hj q' => by have q2 : some j = some w3.heap.size := q'; injection q2; omega))
             have OW5 := Lib.hid (World.ownsRow.alloc hown5 (.cells #[.int .i64 x, .bool true] 63))
             have RX := Lib.hid (Row.fresh w5 63 #[.int .i64 x, .bool true])
             have O6 := Lib.hid (O5.out.alloc (.cells #[.int .i64 x, .bool true] 63))
             have z6 : w3.heap.size ≤ (w5.alloc (.cells #[.int .i64 x, .bool true] 63)).heap.size := O6.out.size
             have L5 := Lib.hid (fun j (hj : some j = v5.ownBlock) => (World.ownsRow.lt hown5 j hj.symm).1)
             have NC := Lib.hid (show Src (w5.alloc (.cells #[.int .i64 x, .bool true] 63)) (.slice (some ⟨w5.heap.size, 0, none⟩) 1 1) 1 [.int .i64 x, .bool true] from .inr ⟨_, _, rfl, fun j u hj => by rw [add12, Nat.zero_add, RX.out.cell, List.getElem?_toArray]; exact hj⟩)
             have ON := Lib.hid (sl_one ⟨x, false, true⟩)
             clear hown5 hgrow5)
          | (refine wpList_append_src _ rfl (.tmp 52) (.tmp 55) 38 rfl w3.heap.size 63 i0 _ 2 16 Try.underlying38 I0.out I1.out I2.out I3.out rfl (by decide) _ (0 + l.length) _ rfl OW5.out _ 1 [.int .i64 x, .bool true] rfl NC.out rfl ON.out B3.out B4.out z6 ?_
             intro v6 w6 hown6 hgrow6 _
             have W6 := Lib.hid (O6.out.trans (Only.of_grown hgrow6) (fun j hj q' => by have := L5.out j q'; omega))
             have OW6 := Lib.hid (show OwnsSl w6 w3.heap.size v6 (l ++ [⟨x, false, true⟩]) from by
               unfold OwnsSl Owns
               rw [List.flatMap_append, List.length_append]
               simpa [Sl.cells] using hown6)
             obtain ⟨ef0, ef1, ef2⟩ := KQ.out _ (N3.out.same W6.out)
             obtain ⟨a6, n6, k6, rfl⟩ := own_form12 OW6.out
             clear hown6 hgrow6)
          | fail)
        go_ret
        unfold PutTo
        have po := PO.out
        rw [PS.out] at po ⊢
        rw [PC.out]
        have FIN := RtTo.behind N3.out (RtL.one H3.out.l W6.out OW6.out)
        exact ⟨rfl, FIN.at_ po (by rw [R1.out, EL.out]) R2.out⟩
end Go.Proofs.Ytmihinpbgppjlaa

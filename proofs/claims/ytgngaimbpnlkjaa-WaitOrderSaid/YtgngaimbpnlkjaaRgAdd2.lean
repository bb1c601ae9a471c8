/- The document's own register: somebody waits. -/
import Derived.Test.YtgngaimbpnlkjaaRgTake
import Derived.Test.YtgngaimbpnlkjaaSrc
import Derived.Deep.RegionLaw
namespace Go.Proofs.Ytgngaimbpnlkjaa
open Go.RowKit
set_option linter.unusedVariables false

theorem sx_flat_len (l : List Sx) : (l.flatMap Sx.cells).length = l.length * 3 := by
  have := flat_size sx3 l
  unfold flat at this
  simpa using this
theorem sx_cells_one (l : List Sx) : ∀ u ∈ l.flatMap Sx.cells, u.oneCell' = true := fun u hu => by
  obtain ⟨x, _, hx⟩ := List.mem_flatMap.1 hu
  exact sx_one x u hx
theorem add14 (b o n : Nat) : (Addr.mk b o none).add n = ⟨b, o + n, none⟩ := by
  unfold Addr.add
  split
  · rename_i z; rw [z]; rfl
  · rfl
/-- the first tests, one behind the other -/
theorem may_ways (t : Int) (x : Wt) :
    (¬ mayW t x ∧ ((decide (t < 1) = true) ∨ (decide (t < 1) = false ∧ decide (x.r < 1) = true) ∨ (decide (t < 1) = false ∧ decide (x.r < 1) = false ∧ decide (x.p < 0) = true) ∨
      (decide (t < 1) = false ∧ decide (x.r < 1) = false ∧ decide (x.p < 0) = false ∧ decide (7 < x.p) = true))) ∨
    (mayW t x ∧ decide (t < 1) = false ∧ decide (x.r < 1) = false ∧ decide (x.p < 0) = false ∧ decide (7 < x.p) = false) := by
  by_cases h1 : t < 1
  · exact .inl ⟨fun q => by unfold mayW at q; omega, .inl (decide_eq_true h1)⟩
  by_cases h2 : x.r < 1
  · exact .inl ⟨fun q => by unfold mayW at q; omega, .inr (.inl ⟨decide_eq_false h1, decide_eq_true h2⟩)⟩
  by_cases h3 : x.p < 0
  · exact .inl ⟨fun q => by unfold mayW at q; omega, .inr (.inr (.inl ⟨decide_eq_false h1, decide_eq_false h2, decide_eq_true h3⟩))⟩
  by_cases h4 : 7 < x.p
  · exact .inl ⟨fun q => by unfold mayW at q; omega, .inr (.inr (.inr ⟨decide_eq_false h1, decide_eq_false h2, decide_eq_false h3, decide_eq_true h4⟩))⟩
  exact .inr ⟨⟨by omega, by omega, by omega, by omega⟩, decide_eq_false h1, decide_eq_false h2, decide_eq_false h3, decide_eq_false h4⟩
def RgAddTo (q : Nat) (M : Nat → Prop) (room : Nat) (ss : List Sx) (t : Int) (x : Wt) (w : World) (e : Ending) (w' : World) : Prop := e = .returned (.int .i64 (addI room ss t x)) ∧ RGto w q M room (addS room ss t x) w'

set_option maxRecDepth 100000 in
set_option maxHeartbeats 4000000 in
theorem radd14_any {q : Nat} {v : Value} {M : Nat → Prop} {room : Nat} {ss : List Sx} (t : Int) (x : Wt) (w : World) (h : RG w q v M room ss) (hl : ss.length ≤ 1000) (hrm : room ≤ 1000) :
    Calls Try.prog 12 #[.pointer (some ⟨q, 0, none⟩), .int .i64 t, x.val] w (RgAddTo q M room ss t x w) := by
  have H := Lib.hid h
  obtain ⟨A, cap, rfl, ha⟩ := h.own.form
  have HA := Lib.hid ha
  have KC := Lib.hid (fun w' (o : Only none_ w w') => (show w'.cell? ⟨q, 0, none⟩ = some (.int .i64 room) ∧ w'.cell? ⟨q, 1, none⟩ = some (.slice A ss.length cap) from ⟨by rw [(o.still h.row).cell]; rfl, by rw [(o.still h.row).cell]; rfl⟩))
  have QL := Lib.hid h.row.lt
  obtain ⟨i0, hi0, hz0, hz1, hz2⟩ := info_parts info_sx
  have I0 := Lib.hid hi0
  have I1 := Lib.hid hz0
  have I2 := Lib.hid hz1
  have I3 := Lib.hid hz2
  clear h ha hi0 hz0 hz1 hz2
  unfold Wt.val RgAddTo
  rcases may_ways t x with ⟨hm, ways⟩ | ⟨hm, h1, h2, h3, h4⟩
  · have PC := Lib.hid (show addI room ss t x = 1 from if_neg hm)
    have PS := Lib.hid (show addS room ss t x = ss from by unfold addS; rw [PC.out]; rfl)
    rw [PC.out, PS.out]
    clear hm
    rcases ways with h1 | ⟨h1, h2⟩ | ⟨h1, h2, h3⟩ | ⟨h1, h2, h3, h4⟩
    all_goals
      go_enter Try.func12, Try.ntmps12
      go_wp2_with fail
      go_ret
      exact ⟨rfl, H.out.to ((Only.refl none_ w).alloc _)⟩
  · have AC := Lib.hid (show addI room ss t x = if waitsB ss x then 4 else if room ≤ ss.length then 2 else 0 from if_pos hm)
    generalize hres : addS room ss t x = fs
    have RS := Lib.hid hres
    generalize hco : addI room ss t x = co
    have CO := Lib.hid hco
    clear hm hres hco
    go_enter Try.func12, Try.ntmps12
    go_wp2_with fail
    clear h1 h2 h3 h4
    have X0 := Lib.hid (Row.fresh w 31 #[.int .i64 x.r, .int .i64 x.p])
    have O0 := Lib.hid ((Only.refl none_ w).alloc (.cells #[.int .i64 x.r, .int .i64 x.p] 31))
    revert X0 O0
    generalize w.alloc (.cells #[.int .i64 x.r, .int .i64 x.p] 31) = W1
    generalize hg : w.heap.size = g
    intro X0 O0
    have GW := Lib.hid hg
    clear hg
    go_loopw [7] (fun i wr => ∃ k : Nat, k ≤ ss.length ∧ i = .int .i64 k ∧ waitsB (ss.take k) x = false ∧ Row wr g 31 #[.int .i64 x.r, .int .i64 x.p] ∧ Only none_ w wr) (fun i _ => ss.length - (intOf i).toNat)
    case atStart => exact ⟨0, Nat.zero_le _, rfl, rfl, X0.out, O0.out⟩
    case round =>
      obtain ⟨k, hk, rfl, hn, hx, o⟩ := hrel
      have HN := Lib.hid hn
      have X := Lib.hid hx
      have O := Lib.hid o
      obtain ⟨r0, s0⟩ := KC.out _ o
      obtain ⟨x0, x1⟩ := hx.two
      clear hn hx o X0 O0
      by_cases hlt : k < ss.length
      · obtain ⟨y, hy⟩ : ∃ y, ss[k]? = some y := ⟨_, List.getElem?_eq_getElem hlt⟩
        obtain ⟨g1, o1, rfl, lt1, c1⟩ := HA.out k y hy
        have e1 : wr.cell? ⟨g1, o1 + k * 3 + 1, none⟩ = some (.int .i64 y.w.r) := O.out.cell (c1 1 (.int .i64 y.w.r) rfl) (fun s => s)
        have e2 : wr.cell? ⟨g1, o1 + k * 3 + 1 + 1, none⟩ = some (.int .i64 y.w.p) := O.out.cell (c1 2 (.int .i64 y.w.p) rfl) (fun s => s)
        have er := fun w => eq_wt y.w x w
        have TM := Lib.hid (sxtake hy)
        have HY := Lib.hid hy
        clear hy c1 HA
        by_cases e : y.w = x
        · rw [decide_eq_true e] at er
          have FE := Lib.hid (waits_yes HY.out e)
          have C4 : co = 4 := by rw [← CO.out, AC.out, FE.out]; rfl
          have PS : fs = ss := by rw [← RS.out]; unfold addS; rw [CO.out, C4]; rfl
          subst C4 PS
          clear e
          go_wp2_with fail
          go_quiet (fail)
          go_wp2_with fail
          go_ret
          exact ⟨rfl, H.out.to (O.out.drewN _)⟩
        · rw [decide_eq_false e] at er
          have NX := Lib.hid (show waitsB (ss.take (k + 1)) x = false from by rw [TM.out, waits_more, HN.out, decide_eq_false e]; rfl)
          clear e
          go_wp2_with fail
          go_quiet (fail)
          go_wp2_with fail
          go_roundw
          case rel => exact ⟨k + 1, by omega, by go_num, NX.out, X.out.drewN _, O.out.drewN _⟩
          case measure => simp [intOf]; omega
      · have hge : ss.length ≤ k := by omega
        have TK := Lib.hid (List.take_of_length_le hge)
        rw [TK.out] at HN
        by_cases hf : room ≤ ss.length
        · have d1 : decide ((room : Int) ≤ (ss.length : Int)) = true := decide_eq_true (by omega)
          have d2 : decide (room ≤ ss.length) = true := decide_eq_true hf
          have C4 : co = 2 := by rw [← CO.out, AC.out, HN.out, if_neg (by decide), if_pos hf]
          have PS : fs = ss := by rw [← RS.out]; unfold addS; rw [CO.out, C4]; rfl
          subst C4 PS
          clear hf
          go_wp2_with fail
          go_quiet (fail)
          go_wp2_with fail
          go_ret
          exact ⟨rfl, H.out.to (O.out.drewN _)⟩
        · have d1 : decide ((room : Int) ≤ (ss.length : Int)) = false := decide_eq_false (by omega)
          have d2 : decide (room ≤ ss.length) = false := decide_eq_false hf
          have C4 : co = 0 := by rw [← CO.out, AC.out, HN.out, if_neg (by decide), if_neg hf]
          have PS : fs = ss ++ [⟨t, x⟩] := by rw [← RS.out]; unfold addS; rw [CO.out, C4]; rfl
          subst C4 PS
          clear hf
          go_wp2_with fail
          go_quiet (fail)
          go_wp2_with fail
          obtain ⟨w3, hw3⟩ : ∃ w3, w3 = wr.drewN nq := ⟨_, rfl⟩
          have N3 := Lib.hid (show Only none_ w w3 from by rw [hw3]; exact O.out.drewN _)
          have X3 := Lib.hid (show Row w3 g 31 #[.int .i64 x.r, .int .i64 x.p] from by rw [hw3]; exact X.out.drewN _)
          rw [← hw3]
          have H3 := Lib.hid (H.out.still N3.out)
          have KQ := Lib.hid (fun w' (o' : Only none_ w3 w') => (show w'.cell? ⟨q, 1, none⟩ = some (.slice A ss.length cap) ∧ w'.cell? ⟨g, 0, none⟩ = some (.int .i64 x.r) ∧ w'.cell? ⟨g, 1, none⟩ = some (.int .i64 x.p) ∧ w'.frozen? ⟨q, 1, none⟩ = false ∧ q < w'.heap.size ∧ g < w'.heap.size from by
            have r := o'.still H3.out.row
            have y := o'.still X3.out
            exact ⟨by rw [r.cell]; rfl, by rw [y.cell]; rfl, by rw [y.cell]; rfl, r.frozen 1, r.lt, y.lt⟩))
          clear hw3 r0 s0 x0 x1 d1 d2 O X
          have WA := Lib.hid (((Only.refl none_ w3).alloc (.cells #[] 58)).drew)
          have EMP := Lib.hid (show ((w3.alloc (.cells #[] 58)).drew).ownsRow w3.heap.size 58 3 (.slice (some ⟨w3.heap.size, 0, none⟩) 0 0) 0 [] from ⟨rfl, .inr ⟨w3.heap.size, 0, #[], rfl, Nat.le_refl _, Row.fresh w3 58 #[], Nat.le_refl _, Nat.zero_le _, rfl, rfl⟩⟩)
          have zA : w3.heap.size ≤ ((w3.alloc (.cells #[] 58)).drew).heap.size := WA.out.size
          obtain ⟨ea0, ea1, ea2, ea3, ea4, ea5⟩ := KQ.out _ WA.out
          obtain ⟨eb0, eb1, eb2, eb3, eb4, eb5⟩ := KQ.out _ (Only.refl none_ w3).drew
          have S3 := Lib.hid (Src.own H3.out.own.1)
          have WB := Lib.hid ((((Only.refl none_ w3).alloc (.cells #[] 58)).alloc (.cells #[.int .i64 t, .int .i64 x.r, .int .i64 x.p] 58)).drew)
          have EM2 := Lib.hid (show (((w3.alloc (.cells #[] 58)).alloc (.cells #[.int .i64 t, .int .i64 x.r, .int .i64 x.p] 58)).drew).ownsRow w3.heap.size 58 3 (.slice (some ⟨w3.heap.size, 0, none⟩) 0 0) 0 [] from World.ownsRow.alloc (show (w3.alloc (.cells #[] 58)).ownsRow w3.heap.size 58 3 (.slice (some ⟨w3.heap.size, 0, none⟩) 0 0) 0 [] from ⟨rfl, .inr ⟨w3.heap.size, 0, #[], rfl, Nat.le_refl _, Row.fresh w3 58 #[], Nat.le_refl _, Nat.zero_le _, rfl, rfl⟩⟩) (.cells #[.int .i64 t, .int .i64 x.r, .int .i64 x.p] 58))
          have RB := Lib.hid (show Row (((w3.alloc (.cells #[] 58)).alloc (.cells #[.int .i64 t, .int .i64 x.r, .int .i64 x.p] 58)).drew) (w3.heap.size + 1) 58 #[.int .i64 t, .int .i64 x.r, .int .i64 x.p] from by
            have r := Row.fresh (w3.alloc (.cells #[] 58)) 58 #[.int .i64 t, .int .i64 x.r, .int .i64 x.p]
            rw [World.size_alloc] at r
            exact r)
          have zB : w3.heap.size ≤ (((w3.alloc (.cells #[] 58)).alloc (.cells #[.int .i64 t, .int .i64 x.r, .int .i64 x.p] 58)).drew).heap.size := WB.out.size
          obtain ⟨ec0, ec1, ec2, ec3, ec4, ec5⟩ := KQ.out _ WB.out
          have WC := Lib.hid ((((Only.refl none_ w3).alloc (.cells #[.int .i64 t, .int .i64 x.r, .int .i64 x.p] 58)).alloc (.cells #[] 58)).drew)
          have WY := Lib.hid (((Only.refl none_ w3).alloc (.cells #[.int .i64 t, .int .i64 x.r, .int .i64 x.p] 58)).drew)
          have EM3 := Lib.hid (show (((w3.alloc (.cells #[.int .i64 t, .int .i64 x.r, .int .i64 x.p] 58)).alloc (.cells #[] 58)).drew).ownsRow w3.heap.size 58 3 (.slice (some ⟨w3.heap.size + 1, 0, none⟩) 0 0) 0 [] from ⟨rfl, .inr ⟨w3.heap.size + 1, 0, #[], rfl, by omega, by
            have r := Row.fresh (w3.alloc (.cells #[.int .i64 t, .int .i64 x.r, .int .i64 x.p] 58)) 58 #[]
            rw [World.size_alloc] at r
            exact r, Nat.le_refl _, Nat.zero_le _, rfl, rfl⟩⟩)
          have RC := Lib.hid (show Row (((w3.alloc (.cells #[.int .i64 t, .int .i64 x.r, .int .i64 x.p] 58)).alloc (.cells #[] 58)).drew) w3.heap.size 58 #[.int .i64 t, .int .i64 x.r, .int .i64 x.p] from (Row.fresh w3 58 #[.int .i64 t, .int .i64 x.r, .int .i64 x.p]).alloc _)
          have zC : w3.heap.size ≤ (((w3.alloc (.cells #[.int .i64 t, .int .i64 x.r, .int .i64 x.p] 58)).alloc (.cells #[] 58)).drew).heap.size := WC.out.size
          obtain ⟨eh0, eh1, eh2, eh3, eh4, eh5⟩ := KQ.out _ WC.out
          obtain ⟨ei0, ei1, ei2, ei3, ei4, ei5⟩ := KQ.out _ WY.out
          have B1 := Lib.hid (show 0 + ss.length ≤ maxLen from by unfold maxLen; omega)
          have B2 := Lib.hid (show (0 + ss.length) * 24 ≤ 140737488355328 from by omega)
          have B3 := Lib.hid (show 0 + ss.length + 1 ≤ maxLen from by unfold maxLen; omega)
          have B4 := Lib.hid (show (0 + ss.length + 1) * 24 ≤ 140737488355328 from by omega)
          go_region_law (first
            | (refine step_append_src rfl (.tmp 55) (.tmp 59) 43 rfl w3.heap.size 58 i0 _ 3 24 Try.underlying43 I0.out I1.out I2.out I3.out rfl (by decide) _ 0 [] rfl EMP.out _ ss.length _ rfl (S3.out.still WA.out) (sx_flat_len _) (sx_cells_one _) B1.out B2.out zA ?_
               intro v5 w5 hown5 hgrow5
               have O5 := Lib.hid (WA.out.trans (Only.of_grown hgrow5) (fun j hj q' => by have q2 : some j = some w3.heap.size := q'; injection q2; omega))
               have OW5 := Lib.hid (World.ownsRow.alloc hown5 (.cells #[.int .i64 t, .int .i64 x.r, .int .i64 x.p] 58))
               have RX := Lib.hid (Row.fresh w5 58 #[.int .i64 t, .int .i64 x.r, .int .i64 x.p])
               have O6 := Lib.hid (O5.out.alloc (.cells #[.int .i64 t, .int .i64 x.r, .int .i64 x.p] 58))
               have z6 : w3.heap.size ≤ (w5.alloc (.cells #[.int .i64 t, .int .i64 x.r, .int .i64 x.p] 58)).heap.size := O6.out.size
               have L5 := Lib.hid (fun j (hj : some j = v5.ownBlock) => (World.ownsRow.lt hown5 j hj.symm).1)
               have NC := Lib.hid (show Src (w5.alloc (.cells #[.int .i64 t, .int .i64 x.r, .int .i64 x.p] 58)) (.slice (some ⟨w5.heap.size, 0, none⟩) 1 1) 1 [.int .i64 t, .int .i64 x.r, .int .i64 x.p] from .inr ⟨_, _, rfl, fun j u hj => by rw [add14, Nat.zero_add, RX.out.cell, List.getElem?_toArray]; exact hj⟩)
               obtain ⟨eg0, eg1, eg2, eg3, eg4, eg5⟩ := KQ.out _ O5.out
               clear hown5 hgrow5)
            | (refine step_append_src rfl (.tmp 60) (.tmp 64) 43 rfl w3.heap.size 58 i0 _ 3 24 Try.underlying43 I0.out I1.out I2.out I3.out rfl (by decide) _ (0 + ss.length) _ rfl OW5.out _ 1 [.int .i64 t, .int .i64 x.r, .int .i64 x.p] rfl NC.out rfl (sx_one ⟨t, x⟩) B3.out B4.out z6 ?_
               intro v6 w6 hown6 hgrow6
               have W6 := Lib.hid (O6.out.trans (Only.of_grown hgrow6) (fun j hj q' => by have := L5.out j q'; omega))
               have OW6 := Lib.hid (show Owns w6 w3.heap.size 58 3 Sx.cells v6 (ss ++ [⟨t, x⟩]) from by
                 unfold Owns
                 rw [List.flatMap_append, List.length_append]
                 simpa [Sx.cells] using hown6)
               obtain ⟨ef0, ef1, ef2, ef3, ef4, ef5⟩ := KQ.out _ W6.out
               obtain ⟨a6, n6, k6, rfl⟩ := own_form14 OW6.out
               clear hown6 hgrow6)
            | (refine step_append_src rfl (.tmp 55) (.tmp 59) 43 rfl w3.heap.size 58 i0 _ 3 24 Try.underlying43 I0.out I1.out I2.out I3.out rfl (by decide) _ 0 [] rfl EM2.out _ ss.length _ rfl (S3.out.still WB.out) (sx_flat_len _) (sx_cells_one _) B1.out B2.out zB ?_
               intro v5 w5 hown5 hgrow5
               have O6 := Lib.hid (WB.out.trans (Only.of_grown hgrow5) (fun j hj q' => by have q2 : some j = some w3.heap.size := q'; injection q2; omega))
               have OWB := Lib.hid hown5
               have RX := Lib.hid ((Only.of_grown hgrow5).row RB.out (fun q' => by have q2 : some (w3.heap.size + 1) = some w3.heap.size := q'; injection q2; omega))
               have z6 : w3.heap.size ≤ w5.heap.size := O6.out.size
               have L5 := Lib.hid (fun j (hj : some j = v5.ownBlock) => (World.ownsRow.lt hown5 j hj.symm).1)
               have NCB := Lib.hid (show Src w5 (.slice (some ⟨w3.heap.size + 1, 0, none⟩) 1 1) 1 [.int .i64 t, .int .i64 x.r, .int .i64 x.p] from .inr ⟨_, _, rfl, fun j u hj => by rw [add14, Nat.zero_add, RX.out.cell, List.getElem?_toArray]; exact hj⟩)
               obtain ⟨eg0, eg1, eg2, eg3, eg4, eg5⟩ := KQ.out _ O6.out
               clear hown5 hgrow5)
            | (refine step_append_src rfl (.tmp 60) (.tmp 64) 43 rfl w3.heap.size 58 i0 _ 3 24 Try.underlying43 I0.out I1.out I2.out I3.out rfl (by decide) _ (0 + ss.length) _ rfl OWB.out _ 1 [.int .i64 t, .int .i64 x.r, .int .i64 x.p] rfl NCB.out rfl (sx_one ⟨t, x⟩) B3.out B4.out z6 ?_
               intro v6 w6 hown6 hgrow6
               have W6 := Lib.hid (O6.out.trans (Only.of_grown hgrow6) (fun j hj q' => by have := L5.out j q'; omega))
               have OW6 := Lib.hid (show Owns w6 w3.heap.size 58 3 Sx.cells v6 (ss ++ [⟨t, x⟩]) from by
                 unfold Owns
                 rw [List.flatMap_append, List.length_append]
                 simpa [Sx.cells] using hown6)
               obtain ⟨ef0, ef1, ef2, ef3, ef4, ef5⟩ := KQ.out _ W6.out
               obtain ⟨a6, n6, k6, rfl⟩ := own_form14 OW6.out
               clear hown6 hgrow6)
            | (refine step_append_src rfl (.tmp 55) (.tmp 59) 43 rfl w3.heap.size 58 i0 _ 3 24 Try.underlying43 I0.out I1.out I2.out I3.out rfl (by decide) _ 0 [] rfl EM3.out _ ss.length _ rfl (S3.out.still WC.out) (sx_flat_len _) (sx_cells_one _) B1.out B2.out zC ?_
               intro v5 w5 hown5 hgrow5
               have O6 := Lib.hid (WC.out.trans (Only.of_grown hgrow5) (fun j hj q' => by have q2 : some j = some (w3.heap.size + 1) := q'; injection q2; omega))
               have OWC := Lib.hid hown5
               have RX := Lib.hid ((Only.of_grown hgrow5).row RC.out (fun q' => by have q2 : some w3.heap.size = some (w3.heap.size + 1) := q'; injection q2; omega))
               have z6 : w3.heap.size ≤ w5.heap.size := O6.out.size
               have L5 := Lib.hid (fun j (hj : some j = v5.ownBlock) => (World.ownsRow.lt hown5 j hj.symm).1)
               have NCC := Lib.hid (show Src w5 (.slice (some ⟨w3.heap.size, 0, none⟩) 1 1) 1 [.int .i64 t, .int .i64 x.r, .int .i64 x.p] from .inr ⟨_, _, rfl, fun j u hj => by rw [add14, Nat.zero_add, RX.out.cell, List.getElem?_toArray]; exact hj⟩)
               obtain ⟨eg0, eg1, eg2, eg3, eg4, eg5⟩ := KQ.out _ O6.out
               clear hown5 hgrow5)
            | (refine step_append_src rfl (.tmp 60) (.tmp 64) 43 rfl w3.heap.size 58 i0 _ 3 24 Try.underlying43 I0.out I1.out I2.out I3.out rfl (by decide) _ (0 + ss.length) _ rfl OWC.out _ 1 [.int .i64 t, .int .i64 x.r, .int .i64 x.p] rfl NCC.out rfl (sx_one ⟨t, x⟩) B3.out B4.out z6 ?_
               intro v6 w6 hown6 hgrow6
               have W6 := Lib.hid (O6.out.trans (Only.of_grown hgrow6) (fun j hj q' => by have := L5.out j q'; omega))
               have OW6 := Lib.hid (show Owns w6 w3.heap.size 58 3 Sx.cells v6 (ss ++ [⟨t, x⟩]) from by
                 unfold Owns
                 rw [List.flatMap_append, List.length_append]
                 simpa [Sx.cells] using hown6)
               obtain ⟨ef0, ef1, ef2, ef3, ef4, ef5⟩ := KQ.out _ W6.out
               obtain ⟨a6, n6, k6, rfl⟩ := own_form14 OW6.out
               clear hown6 hgrow6)
            | fail)
          all_goals
            go_wp2_with fail
            go_ret
            exact ⟨rfl, RGto.from_ (H3.out.other W6.out OW6.out) N3.out⟩
end Go.Proofs.Ytgngaimbpnlkjaa

/- Somebody waits: the code's own register. -/
import Derived.Test.YtgngaimbpnlkjaaWg14
namespace Go.Proofs.Ytgngaimbpnlkjaa
open Go.RowKit Go.Maps
set_option linter.unusedVariables false

theorem good_push {came : Nat} {es : List En} (h : FineE came es) (s : Sx) : seats (es ++ [⟨s, came + 1⟩]) = seats es ++ [s] := by unfold seats; rw [List.map_append]; rfl
theorem may_of (t : Int) (x : Wt) : mayW t x ↔ ¬ t < 1 ∧ (1 ≤ x.r ∧ 0 ≤ x.p ∧ x.p < 8) := by unfold mayW; omega

set_option maxHeartbeats 1000000 in
theorem add11 {p b room came : Nat} {es : List En} (t : Int) (x : Wt) (wx : wfW x) (w : World) (h : WAt w p b room came es) (hc : came < 1000000) :
    Calls Try.prog 11 #[.pointer (some ⟨p, 0, none⟩), .int .i64 t, .agg #[.int .i64 x.r, .int .i64 x.p]] w fun e w' => e = .returned (.int .i64 (addI room (seats es) t x)) ∧ ∃ came' es', WAt w' p b room came' es' ∧ seats es' = addS room (seats es) t x ∧ came' ≤ came + 1 ∧ Only (two14 p b) w w' := by
  have H := Lib.hid h
  have C25 := Lib.hid (fun W => may25_any x W)
  have C19 := Lib.hid (fun W (o : Only none_ w W) => waits19 x wx W (h.still o))
  have C23 := Lib.hid (fun W (o : Only none_ w W) => free23 W (h.still o))
  have RO := Lib.hid (Only.refl none_ w)
  obtain ⟨c, hcc⟩ : ∃ c, addI room (seats es) t x = c := ⟨_, rfl⟩
  have HC := Lib.hid hcc
  have HN := Lib.hid hc
  clear h hc hcc
  rw [HC.out]
  by_cases h1 : t < 1
  · have t1 : decide (t < 1) = true := decide_eq_true h1
    have C1 := Lib.hid (show c = 1 from by rw [← HC.out]; exact if_neg (fun k => ((may_of t x).1 k).1 h1))
    clear h1
    go_enter Try.func11, Try.ntmps11
    go_wp2_with fail
    go_ret
    refine ⟨?_, came, es, H.out.still ((Only.refl _ _).alloc _), ?_, Nat.le_succ _, ((Only.refl _ _).alloc _)⟩
    · rw [C1.out]; rfl
    · unfold addS; rw [HC.out, C1.out]; rfl
  · have t1 : decide (t < 1) = false := decide_eq_false h1
    have H1 := Lib.hid h1
    clear h1
    by_cases h2 : 1 ≤ x.r ∧ 0 ≤ x.p ∧ x.p < 8
    · have t2 : decide (1 ≤ x.r ∧ 0 ≤ x.p ∧ x.p < 8) = true := decide_eq_true h2
      have MY := Lib.hid ((may_of t x).2 ⟨H1.out, h2⟩)
      rw [t2] at C25
      have CC := Lib.hid (show c = if waitsB (seats es) x then 4 else if room ≤ (seats es).length then 2 else 0 from by rw [← HC.out]; exact if_pos MY.out)
      clear h2 t2
      obtain ⟨hs, hhs⟩ : ∃ hs, hasE es x = hs := ⟨_, rfl⟩
      have HS := Lib.hid hhs
      rw [hhs] at C19
      clear hhs
      go_enter Try.func11, Try.ntmps11
      go_wp2_with fail
      (with_reducible refine (C25.out _).mono ?_)
      rintro e w1 ⟨rfl, o⟩
      have O1 := Lib.hid (((Only.refl none_ w).alloc (.cells #[.int .i64 x.r, .int .i64 x.p] 31)).idle o)
      have XR := Lib.hid (o.row (Row.fresh w 31 #[.int .i64 x.r, .int .i64 x.p]) (fun s => s))
      clear o
      have x0 : w1.cell? ⟨w.heap.size, 0, none⟩ = some (.int .i64 x.r) := by rw [XR.out.cell]; rfl
      have x1 : w1.cell? ⟨w.heap.size, 1, none⟩ = some (.int .i64 x.p) := by rw [XR.out.cell]; rfl
      go_wp2_with fail
      (with_reducible refine (C19.out w1 O1.out).mono ?_)
      rintro e w2 ⟨rfl, o⟩
      have O2 := Lib.hid (O1.out.idle o)
      have XR2 := Lib.hid (o.row XR.out (fun s => s))
      clear o x0 x1
      cases hs with
      | true =>
        have C4 := Lib.hid (show c = 4 from by rw [CC.out, ← has_seats, HS.out]; rfl)
        go_wp2_with fail
        go_ret
        refine ⟨?_, came, es, H.out.still O2.out, ?_, Nat.le_succ _, O2.out.more (fun i hi k => absurd k (fun s => s))⟩
        · rw [C4.out]; rfl
        · unfold addS; rw [HC.out, C4.out]; rfl
      | false =>
        go_wp2_with fail
        (with_reducible refine (C23.out w2 O2.out).mono ?_)
        rintro e w3 ⟨rfl, o⟩
        have O3 := Lib.hid (O2.out.idle o)
        have XR3 := Lib.hid (o.row XR2.out (fun s => s))
        clear o
        obtain ⟨ln, hln⟩ : ∃ n, es.length = n := ⟨_, rfl⟩
        have LN := Lib.hid hln
        rw [hln]
        clear hln
        have RL := Lib.hid (show ln ≤ room ∧ room ≤ 64 from by rw [← LN.out]; exact ⟨by have := H.out.good.len; rw [seats_len] at this; exact this, H.out.good.high⟩)
        by_cases h3 : ln = room
        · have t3 : ((room : Int) - (ln : Int) == 0) = true := by rw [beq_iff_eq]; omega
          have C2 := Lib.hid (show c = 2 from by rw [CC.out, ← has_seats, HS.out, seats_len, LN.out, if_neg (by simp), if_pos (by omega)])
          clear h3
          go_wp2_with fail
          go_ret
          refine ⟨?_, came, es, H.out.still O3.out, ?_, Nat.le_succ _, O3.out.more (fun i hi k => absurd k (fun s => s))⟩
          · rw [C2.out]; rfl
          · unfold addS; rw [HC.out, C2.out]; rfl
        · have t3 : ((room : Int) - (ln : Int) == 0) = false := by rw [beq_eq_false_iff_ne]; intro k; exact h3 (by omega)
          have C0 := Lib.hid (show c = 0 from by rw [CC.out, ← has_seats, HS.out, seats_len, LN.out, if_neg (by simp), if_neg (by have := RL.out; omega)])
          clear h3
          have H3 := Lib.hid (H.out.still O3.out)
          have c2 : w3.cell? ⟨p, 2, none⟩ = some (.int .i64 came) := by rw [H3.out.row.cell]; rfl
          have f2 : w3.frozen? ⟨p, 2, none⟩ = false := H3.out.row.frozen 2
          have v2 : IntKind.i64.wrap ((came : Int) + 1) = ((came + 1 : Nat) : Int) := by have := HN.out; rw [IntKind.wrap_i64]; omega
          obtain ⟨w4, hw4⟩ : ∃ w4, w4 = w3.setCell ⟨p, 2, none⟩ (.int .i64 ((came : Int) + 1)) := ⟨_, rfl⟩
          have o4 : Only (fun k => k = p) w3 w4 := by rw [hw4]; exact (Only.refl (fun k => k = p) w3).into rfl _ _
          have NE := Lib.hid (show p ≠ b from H.out.ne)
          have R4 : Row w4 p 54 #[.int .i64 room, .map (some b), .int .i64 ((came : Int) + 1)] := by rw [hw4]; exact H3.out.row.put 2 _
          have o4d := o4.idle ((Only.refl none_ w4).drew)
          have R4d := ((Only.refl none_ w4).drew).still R4
          have M4d := H3.out.md.keep o4d (fun k => NE.out k.symm)
          have XR4 := o4d.row XR3.out (fun k => by have := H.out.row.lt; omega)
          have d1 : w4.drew.cell? ⟨p, 1, none⟩ = some (.map (some b)) := by rw [R4d.cell]; rfl
          have d2 : w4.drew.cell? ⟨p, 2, none⟩ = some (.int .i64 ((came : Int) + 1)) := by rw [R4d.cell]; rfl
          obtain ⟨x0, x1⟩ := XR4.two
          obtain ⟨w5, run5, m5, o5⟩ := M4d.store H.out.once (by have := H.out.len; omega) ⟨⟨t, x⟩, came + 1⟩ wx HS.out
          dsimp only at run5
          rw [show ((came + 1 : Nat) : Int) = (came : Int) + 1 from rfl] at run5
          have GD := good_add H.out.good t x
          have SE : seats (es ++ [⟨⟨t, x⟩, came + 1⟩]) = addS room (seats es) t x := by rw [good_push H.out.fine]; unfold addS; rw [HC.out, C0.out, if_pos rfl]
          rw [← SE] at GD
          have R5 := o5.row R4d (fun k => NE.out k)
          have FIN := Lib.hid (show WAt w5 p b room (came + 1) (es ++ [⟨⟨t, x⟩, came + 1⟩]) from ⟨R5, m5, H.out.fine.add _, GD⟩)
          have FO := Lib.hid (show Only (two14 p b) w w5 from ((O3.out.up (S := two14 p b)).same (o4d.more (fun i hi e => .inl e))).same (o5.more (fun i hi e => .inr e)))
          have SO := Lib.hid SE
          clear o4 R4 o4d R4d M4d XR4 m5 o5 GD SE R5
          go_upto_region 8 with fail
          rw [← hw4]
          clear hw4
          go_region
          all_goals
            go_wp2_with fail
            go_ret
            exact ⟨by rw [C0.out]; rfl, _, _, FIN.out, SO.out, Nat.le_refl _, FO.out⟩
    · have t2 : decide (1 ≤ x.r ∧ 0 ≤ x.p ∧ x.p < 8) = false := decide_eq_false h2
      have C1 := Lib.hid (show c = 1 from by rw [← HC.out]; exact if_neg (fun k => h2 ((may_of t x).1 k).2))
      rw [t2] at C25
      clear h2 t2
      go_enter Try.func11, Try.ntmps11
      go_wp2_with fail
      (with_reducible refine (C25.out _).mono ?_)
      rintro e w1 ⟨rfl, o⟩
      have O1 := Lib.hid (((Only.refl none_ w).alloc (.cells #[.int .i64 x.r, .int .i64 x.p] 31)).idle o)
      clear o
      go_wp2_with fail
      go_ret
      refine ⟨?_, came, es, H.out.still O1.out, ?_, Nat.le_succ _, O1.out.more (fun i hi k => absurd k (fun s => s))⟩
      · rw [C1.out]; rfl
      · unfold addS; rw [HC.out, C1.out]; rfl
end Go.Proofs.Ytgngaimbpnlkjaa

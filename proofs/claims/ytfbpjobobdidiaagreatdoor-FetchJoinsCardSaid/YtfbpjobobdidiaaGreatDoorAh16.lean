/- Package fetch's Ahead. -/
import Derived.Test.YtfbpjobobdidiaaGreatDoorGrpO

namespace Go.Proofs.YtfbpjobobdidiaaGreatDoor
open Go.RowKit Go.Maps
set_option linter.unusedVariables false
set_option maxRecDepth 100000

section
variable {p : Nat} {c : Nat → Nat} {X : Loc} {F H : Nat} {ks : List Tk} {E : Eng}
theorem etfree_any (w : World) (h : EP w p c X F H ks E) :
    Calls Tryz.prog 52 #[.pointer (some ⟨X.pt, 0, none⟩)] w fun e w' => e = .returned (.tuple #[.int .i64 E.fd, .int .i64 E.fa]) ∧ Only none_ w w' := by
  have m := h.may
  unfold Opt.MayC at m
  obtain ⟨L, ps, tn, hq, _⟩ := h.eo.tn
  have TF := tfree_any w tn
  unfold Freed12 at TF
  have e1 : ((E.o.b3.toNat : Int) - (ps.filter (fun q => q.a == false)).length) = E.fd := by
    unfold Eng.fd
    rw [← hq, row_len]
    omega
  have e2 : ((E.o.b4.toNat : Int) - (ps.filter (fun q => q.a == true)).length) = E.fa := by
    unfold Eng.fa
    rw [← hq, row_len]
    omega
  rw [e1, e2] at TF
  exact TF
def aheadA (E : Eng) (b : Int) : Value := .tuple #[if E.aheadC b = 0 then (E.new 3 b).told ((E.ahead b).cnt (E.nt + 1)) else noTk, .int .i64 (E.aheadC b)]
theorem ahead_no {E : Eng} {b : Int} (h : E.aheadC b ≠ 0) : aheadA E b = .tuple #[noTk, .int .i64 (E.aheadC b)] ∧ E.ahead b = E := by
  unfold aheadA Eng.ahead
  rw [if_neg h, if_neg h]
  exact ⟨rfl, rfl⟩
theorem ahead_yes {E : Eng} {b : Int} (h : E.aheadC b = 0) : aheadA E b = .tuple #[(E.new 3 b).told ((E.enter 3 b).cnt (E.nt + 1)), .int .i64 0] ∧ E.ahead b = E.enter 3 b := by
  unfold aheadA Eng.ahead
  rw [if_pos h, if_pos h, h]
  exact ⟨rfl, rfl⟩
set_option maxHeartbeats 4000000 in
theorem eahead_any (b : Int) (w : World) (h : EP w p c X F H ks E) (iv : Inv E) (hF : F + 10 < 100000000) (hH : H + 2 < 1000000) :
    Calls Tryz.prog 31 #[ptrTo p, .int .i64 b] w fun e w' => e = .returned (aheadA E b) ∧ EGto w p c (F + 10) (H + 2) (E.ahead b) w' := by
  obtain ⟨W1, hW1⟩ : ∃ W1, W1 = w.alloc (.cells #[.int .i64 0, .int .i64 0, .int .i64 0, .int .i64 0, .int .i64 0, .int .i64 0, .bool false, .bool false, .bool false] 54) := ⟨_, rfl⟩
  have tx : Row W1 w.heap.size 54 #[.int .i64 0, .int .i64 0, .int .i64 0, .int .i64 0, .int .i64 0, .int .i64 0, .bool false, .bool false, .bool false] := by rw [hW1]; exact Row.fresh _ _ _
  have o1 : Only none_ w W1 := by rw [hW1]; exact (Only.refl _ _).alloc _
  have h1 := h.still o1
  have HB := ehas_any b W1 h1
  have HI := Lib.hid (fun w' (o : Only none_ W1 w') => show Calls Tryz.prog 30 #[.pointer (some ⟨p, 0, none⟩), .int .i64 b] w' fun e w'' => e = .returned (.bool (E.idle b)) ∧ Only none_ w' w'' from eidle_any b w' (h1.still o))
  have TF := Lib.hid (fun w' (o : Only none_ W1 w') => etfree_any w' (h1.still o))
  have TX := Lib.hid tx
  have O1 := Lib.hid o1
  have H1 := Lib.hid h1
  have IV := Lib.hid iv
  have HFF := Lib.hid hF
  have HH := Lib.hid hH
  have Z1 := Lib.hid (h.zero (Nat.le_refl _))
  have lp := h.eo.row.lt
  have ls1 := tx.lt
  clear h h1 iv hF hH tx o1
  have NO := Lib.hid (@ahead_no E b)
  have EC := Lib.hid (show E.aheadC b = if E.has b = true then (if E.idle b = true then (if E.fa = 0 then 2 else 0) else 5) else 1 from rfl)
  unfold ptrTo at HB ⊢
  cases hb : E.has b with
  | false =>
    rw [hb] at HB
    have C1 := Lib.hid (show E.aheadC b = 1 from by rw [EC.out, hb]; rfl)
    clear hb
    have HB := Lib.hid HB
    go_enter Tryz.func31, Tryz.ntmps31
    go_wp2_with fail
    rw [← hW1]
    clear hW1
    (with_reducible refine HB.out.mono ?_)
    rintro e w2 ⟨rfl, o2⟩
    have O2 := Lib.hid o2
    clear o2
    have T2 := Lib.hid (O2.out.still TX.out)
    have H2 := Lib.hid (H1.out.still O2.out)
    obtain ⟨d0, d1, d2, d3, d4, d5, d6, d7, d8⟩ := T2.out.nine
    have z0 := T2.out.frozen 0
    have z1 := T2.out.frozen 1
    have z2 := T2.out.frozen 2
    have z3 := T2.out.frozen 3
    have z4 := T2.out.frozen 4
    have z5 := T2.out.frozen 5
    have z6 := T2.out.frozen 6
    have z7 := T2.out.frozen 7
    have z8 := T2.out.frozen 8
    have l2 := T2.out.lt
    have NO2 := Lib.hid (NO.out (by rw [C1.out]; decide))
    go_wp2_with fail
    refine bodyPost_ret (results_row1 rfl _ _ w.heap.size _ _ _ rfl (Row.zero9 T2.out) Tryz.underlying54 rfl info_tick) rfl ⟨?_, ?_⟩
    · rw [NO2.out.1, C1.out]; rfl
    · rw [NO2.out.2]
      exact EGto.fin H2.out O1.out (Gw.refl _ _) O2.out.up (Nat.le_refl _) Z1.out (only9' (Only.refl (fun g => g = w.heap.size) w2) (fun _ => rfl) _ _ _ _ _ _ _ _ _) (by omega) (by omega) HFF.out HH.out
  | true =>
    rw [hb] at HB
    have HS := Lib.hid hb
    have HB := Lib.hid HB
    cases hi : E.idle b with
    | false =>
      rw [hi] at HI
      have C1 := Lib.hid (show E.aheadC b = 5 from by rw [EC.out, hb, hi]; rfl)
      clear hb hi
      go_enter Tryz.func31, Tryz.ntmps31
      go_wp2_with fail
      rw [← hW1]
      clear hW1
      (with_reducible refine HB.out.mono ?_)
      rintro e w2 ⟨rfl, o2⟩
      have O2 := Lib.hid o2
      clear o2
      go_wp2_with fail
      (with_reducible refine (HI.out w2 O2.out).mono ?_)
      rintro e w3 ⟨rfl, o3⟩
      have O3 := Lib.hid (O2.out.same o3)
      clear o3
      have T2 := Lib.hid (O3.out.still TX.out)
      have H2 := Lib.hid (H1.out.still O3.out)
      obtain ⟨d0, d1, d2, d3, d4, d5, d6, d7, d8⟩ := T2.out.nine
      have z0 := T2.out.frozen 0
      have z1 := T2.out.frozen 1
      have z2 := T2.out.frozen 2
      have z3 := T2.out.frozen 3
      have z4 := T2.out.frozen 4
      have z5 := T2.out.frozen 5
      have z6 := T2.out.frozen 6
      have z7 := T2.out.frozen 7
      have z8 := T2.out.frozen 8
      have l2 := T2.out.lt
      have NO2 := Lib.hid (NO.out (by rw [C1.out]; decide))
      go_wp2_with fail
      refine bodyPost_ret (results_row1 rfl _ _ w.heap.size _ _ _ rfl (Row.zero9 T2.out) Tryz.underlying54 rfl info_tick) rfl ⟨?_, ?_⟩
      · rw [NO2.out.1, C1.out]; rfl
      · rw [NO2.out.2]
        exact EGto.fin H2.out O1.out (Gw.refl _ _) O3.out.up (Nat.le_refl _) Z1.out (only9' (Only.refl (fun g => g = w.heap.size) w3) (fun _ => rfl) _ _ _ _ _ _ _ _ _) (by omega) (by omega) HFF.out HH.out
    | true =>
      rw [hi] at HI
      by_cases hf : E.fa = 0
      · have C1 := Lib.hid (show E.aheadC b = 2 from by rw [EC.out, hb, hi, if_pos rfl, if_pos rfl, if_pos hf])
        rw [hf] at TF
        generalize E.fd = fd at *
        clear hb hi hf
        go_enter Tryz.func31, Tryz.ntmps31
        go_wp2_with fail
        rw [← hW1]
        clear hW1
        (with_reducible refine HB.out.mono ?_)
        rintro e w2 ⟨rfl, o2⟩
        have O2 := Lib.hid o2
        clear o2
        go_wp2_with fail
        (with_reducible refine (HI.out w2 O2.out).mono ?_)
        rintro e w3 ⟨rfl, o3⟩
        have O3 := Lib.hid (O2.out.same o3)
        clear o3
        have y15 : w3.cell? ⟨p, 15, none⟩ = some (.pointer (some ⟨X.pt, 0, none⟩)) := (H1.out.still O3.out).cell 15
        go_wp2_with fail
        (with_reducible refine (TF.out w3 O3.out).mono ?_)
        rintro e w4 ⟨rfl, o4⟩
        have O4 := Lib.hid (O3.out.same o4)
        clear o4 y15
        have T2 := Lib.hid (O4.out.still TX.out)
        have H2 := Lib.hid (H1.out.still O4.out)
        obtain ⟨d0, d1, d2, d3, d4, d5, d6, d7, d8⟩ := T2.out.nine
        have z0 := T2.out.frozen 0
        have z1 := T2.out.frozen 1
        have z2 := T2.out.frozen 2
        have z3 := T2.out.frozen 3
        have z4 := T2.out.frozen 4
        have z5 := T2.out.frozen 5
        have z6 := T2.out.frozen 6
        have z7 := T2.out.frozen 7
        have z8 := T2.out.frozen 8
        have l2 := T2.out.lt
        have NO2 := Lib.hid (NO.out (by rw [C1.out]; decide))
        go_wp2_with fail
        refine bodyPost_ret (results_row1 rfl _ _ w.heap.size _ _ _ rfl (Row.zero9 T2.out) Tryz.underlying54 rfl info_tick) rfl ⟨?_, ?_⟩
        · rw [NO2.out.1, C1.out]; rfl
        · rw [NO2.out.2]
          exact EGto.fin H2.out O1.out (Gw.refl _ _) O4.out.up (Nat.le_refl _) Z1.out (only9' (Only.refl (fun g => g = w.heap.size) w4) (fun _ => rfl) _ _ _ _ _ _ _ _ _) (by omega) (by omega) HFF.out HH.out
      · have C0 := Lib.hid (show E.aheadC b = 0 from by rw [EC.out, hb, hi, if_pos rfl, if_pos rfl, if_neg hf])
        obtain ⟨m1, m2, m3⟩ := room16 IV.out (kind := 3) (by rw [if_pos rfl]; exact hf)
        have RM := Lib.hid (show putC E.o.b3.toNat E.o.b4.toNat E.qs (E.nt + 1) ((3 : Int) == 3) = 0 ∧ E.ts.length < 128 ∧ (E.ts.length : Int) < E.o.b3 + E.o.b4 from ⟨m1, m2, m3⟩)
        have df : (E.fa == 0) = false := by simpa using hf
        generalize E.fd = fd at *
        generalize E.fa = fa at *
        clear hb hi hf m1 m2 m3
        go_enter Tryz.func31, Tryz.ntmps31
        go_wp2_with fail
        rw [← hW1]
        clear hW1
        (with_reducible refine HB.out.mono ?_)
        rintro e w2 ⟨rfl, o2⟩
        have O2 := Lib.hid o2
        clear o2
        go_wp2_with fail
        (with_reducible refine (HI.out w2 O2.out).mono ?_)
        rintro e w3 ⟨rfl, o3⟩
        have O3 := Lib.hid (O2.out.same o3)
        clear o3
        have y15 : w3.cell? ⟨p, 15, none⟩ = some (.pointer (some ⟨X.pt, 0, none⟩)) := (H1.out.still O3.out).cell 15
        go_wp2_with fail
        (with_reducible refine (TF.out w3 O3.out).mono ?_)
        rintro e w4 ⟨rfl, o4⟩
        have O4 := Lib.hid (O3.out.same o4)
        clear o4 y15
        have EN := eenter_any 3 b w4 (H1.out.still O4.out) HS.out RM.out.1 RM.out.2.1 RM.out.2.2 (by have := HFF.out; omega) (by have := HH.out; omega)
        unfold ptrTo at EN
        have EN := Lib.hid EN
        go_wp2_with fail
        (with_reducible refine EN.out.mono ?_)
        rintro e w7 ⟨g5, rfl, ⟨c7, h7, gw7⟩, lg7, o7⟩
        have hg5 : (X.with (E.nt + 1) g5).A (E.new 3 b).id = g5 := if_pos rfl
        have O7 := Lib.hid (Gw.only (S := fun g => c g ≠ 0 ∧ c g ≠ 6) (O4.out.up (S := fun g => c g ≠ 0)) (Gw.refl W1 c) o7 (fun g e => e.1))
        have G7 := Lib.hid (Gw.next (O4.out.up (S := fun g => c g ≠ 0)) (Gw.refl W1 c) gw7)
        have r7 := (h7.eo.tk (E.new 3 b) (by simp)).1
        rw [hg5] at r7
        have H7 := Lib.hid h7
        have TD := etold_any (E.new 3 b) g5 w7 h7 r7
        obtain ⟨tv, htv⟩ : ∃ tv, tv = E.new 3 b := ⟨_, rfl⟩
        rw [← htv] at TD
        generalize hn : Eng.cnt _ tv.id = n at TD
        unfold ptrTo Tk.told at TD
        have TD := Lib.hid TD
        have TV := Lib.hid htv
        have HN := Lib.hid hn
        clear htv hn h7 o7 gw7 lg7 r7 EN hg5
        go_wp2_with fail
        (with_reducible refine TD.out.mono ?_)
        rintro e w8 ⟨rfl, o8⟩
        have O8 := Lib.hid (O7.out.idle o8)
        have T8 := Lib.hid (O8.out.row TX.out (fun e => e Z1.out))
        have H8 := Lib.hid (H7.out.still o8)
        clear o8 TD
        obtain ⟨d0, d1, d2, d3, d4, d5, d6, d7, d8⟩ := T8.out.nine
        have z0 := T8.out.frozen 0
        have z1 := T8.out.frozen 1
        have z2 := T8.out.frozen 2
        have z3 := T8.out.frozen 3
        have z4 := T8.out.frozen 4
        have z5 := T8.out.frozen 5
        have z6 := T8.out.frozen 6
        have z7 := T8.out.frozen 7
        have z8 := T8.out.frozen 8
        have l8 := T8.out.lt
        go_wp2_with fail
        have AY := ahead_yes C0.out
        refine bodyPost_ret (results_row1 rfl _ _ w.heap.size _ _ _ rfl (Row.tick9 T8.out tv n) Tryz.underlying54 rfl info_tick) rfl ⟨?_, ?_⟩
        · rw [AY.1, ← HN.out, TV.out]
          rfl
        · rw [AY.2]
          exact EGto.fin H8.out O1.out G7.out O8.out (Nat.le_refl _) (G7.out.zero Z1.out ls1) (only9' (Only.refl (fun g => g = w.heap.size) _) (fun _ => rfl) _ _ _ _ _ _ _ _ _) (by omega) (by omega) HFF.out HH.out
end
end Go.Proofs.YtfbpjobobdidiaaGreatDoor

/- The walk through ReplayHeld's own text. -/
import Derived.Test.YtlfnncahhbbmpaaGreatDoorQHp19
import Derived.Test.YtlfnncahhbbmpaaGreatDoorQQ
import Derived.Test.YtlfnncahhbbmpaaGreatDoorQO
import Derived.Deep.CutRange
namespace Go.Proofs.YtlfnncahhbbmpaaGreatDoor.replayHeld
open Go.ChangeShapes Go.WideShapes Go.ChangeAt Go.RowKit Go.Maps
set_option linter.unusedVariables false
set_option maxRecDepth 100000
theorem find_ge {xs : List Int} {x : Int} (h : x ∈ xs) : decide (0 ≤ findI xs x) = true ∧ decide (findI xs x < 0) = false ∧ findI xs x = (xs.idxOf x : Int) := by
  unfold findI
  rw [if_pos h]
  exact ⟨decide_eq_true (Int.natCast_nonneg _), decide_eq_false (by omega), rfl⟩
theorem find_lt {xs : List Int} {x : Int} (h : x ∉ xs) : findI xs x = -1 := by
  unfold findI
  rw [if_neg h]
theorem reads_cells {w : World} {a : Option Addr} {n c : Nat} {xs : List Int} (h : Reads w (.slice a n c) xs) : ∀ (i : Nat) (x : Int), xs[i]? = some x → ∃ g o, a = some ⟨g, o, none⟩ ∧ w.cell? ⟨g, o + i, none⟩ = some (.int .i64 x) := by
  obtain ⟨a', c', e, hh⟩ := h
  injection e with e1
  subst e1
  exact hh
set_option maxHeartbeats 8000000 in
theorem walk (w : World) (hb : Bd w) (o : Opt) (wa0 : True) (A : Option Addr) (len cap : Nat) (xs : List Evn) (hmax : len ≤ maxLen) (hlen : xs.length = len) (hold : Holds w A 5 Evn.cells xs) (hwf : ∀ x ∈ xs, x.Wf) :
    Calls Tryz.prog 5 #[o.val, .slice A len cap] w fun e w' => e = .returned (.bool true) ∧ Below w.heap.size w w' := by
  unfold maxLen at hmax
  obtain ⟨wa, hwa⟩ : ∃ wa, wa = w.alloc (.cells o.cells 23) := ⟨_, rfl⟩
  have oa : Only none_ w wa := by rw [hwa]; exact (Only.refl none_ w).alloc _
  have ra : Row wa w.heap.size 23 o.cells := by rw [hwa]; exact Row.fresh _ _ _
  have HB := Lib.hid hb
  have HL := Lib.hid hlen
  have HO := Lib.hid hold
  have HW := Lib.hid hwf
  have OA := Lib.hid oa
  have RA := Lib.hid ra
  have MY := fun w => ropt_may o w
  have NW := Lib.hid (fun w hb (hm : o.mayB = true) => lm_new o w hb hm)
  clear hb hlen hold hwf oa ra
  unfold Opt.val at MY NW ⊢
  unfold Opt.cells at RA hwa
  have MY := Lib.hid MY
  go_enter Tryz.func5, Tryz.ntmps5
  go_upto_region 1 with fail
  rw [← hwa]
  clear hwa
  obtain ⟨bo, hbo⟩ : ∃ bo, w.heap.size = bo := ⟨_, rfl⟩
  rw [hbo] at RA ⊢
  go_wp2_with fail
  (with_reducible refine (awake19_any wa (HB.out.still OA.out)).mono ?_)
  rintro e w1 ⟨rfl, o1⟩
  have O1 := Lib.hid (OA.out.same o1)
  have R1 := Lib.hid (o1.still RA.out)
  clear o1 RA
  go_wp2_with (first | (refine wpList_load_row rfl 23 _ rfl bo rfl 23 _ (0, 0) _ R1.out Tryz.underlying23 rfl info_opt ?_) | fail)
  (with_reducible refine (MY.out w1).mono ?_)
  rintro e w2 ⟨rfl, o2⟩
  have O2 := Lib.hid (O1.out.same o2)
  have R2 := Lib.hid (o2.still R1.out)
  clear o2 R1 MY
  cases hm : o.mayB with
  | false =>
    clear hm
    go_wp2_with fail
    go_ret
    exact ⟨rfl, O2.out.to_below8⟩
  | true =>
    have NW := Lib.hid (NW.out w2 (HB.out.still O2.out) hm)
    have NM := Lib.hid (Opt.nums hm)
    clear hm
    go_wp2_with (first | (refine wpList_load_row rfl 23 _ rfl bo rfl 23 _ (0, 0) _ R2.out Tryz.underlying23 rfl info_opt ?_) | fail)
    (with_reducible refine NW.out.mono ?_)
    rintro E w3 ⟨p, K, rfl, l3⟩
    have L3 := Lib.hid l3
    have R3 := Lib.hid (l3.only.still R2.out)
    clear l3 NW
    go_wp2_with fail
    go_loopw [7, 8, 9, 10, 11, 12, 13, 14, 15, 16, 17] (fun i _ _ _ _ _ _ _ _ _ _ wr => ∃ (j : Nat) (m : Mo) (K : Nat → Nat), j ≤ len ∧ j ≤ 200 ∧ i = .int .i64 j ∧ LM w2 wr p K j (some m) ∧ m.o = o) (fun i _ _ _ _ _ _ _ _ _ _ _ => len - (intOf i).toNat)
    case atStart => exact ⟨0, _, K, Nat.zero_le _, Nat.zero_le _, rfl, L3.out, rfl⟩
    case round =>
      obtain ⟨j, m, K, hj, hj2, rfl, lm, mo⟩ := hrel
      have LL := Lib.hid lm
      have MO := Lib.hid mo
      have WW := Lib.hid (O2.out.same lm.only)
      clear lm mo L3
      have t12 : (j < len ∧ j < 200) ∨ (j < len ∧ 200 ≤ j) ∨ len ≤ j := by omega
      rcases t12 with ⟨q1, q2⟩ | q1
      · obtain ⟨e, he⟩ : ∃ e, xs[j]? = some e := ⟨_, List.getElem?_eq_getElem (by rw [HL.out]; exact q1)⟩
        obtain ⟨sb, so, hA, hsb, k0, k1, k2, k3, k4⟩ := ev_at HO.out WW.out he
        subst hA
        have KW := Lib.hid (HW.out e (List.mem_of_getElem? he))
        have HE := Lib.hid he
        clear he hsb k0 k1 k2 k3 k4
        have PO := Lib.hid (lm_policy LL.out)
        go_wp2_with fail
        (with_reducible refine PO.out.mono ?_)
        rintro E w5 ⟨a0, c0, a1, c1, a2, c2, rfl, y0, y1, y2, o5⟩
        have fine := (show m.Fine j from by obtain ⟨X, ss, c, h⟩ := LL.out.cm; exact h.fine)
        have FI := Lib.hid fine
        have FC := Lib.hid fine.ca.facts
        obtain ⟨w6, hw6⟩ : ∃ w6, w6 = w5.alloc (.cells #[.slice a0 m.ca.l0.length c0, .slice a1 m.ca.l1.length c1, .slice a2 m.ca.h.length c2, .int .i64 m.ca.want, .int .u64 m.ca.miss, .int .u64 m.ca.hits] 49) := ⟨_, rfl⟩
        have o6 : Only none_ w5 w6 := by rw [hw6]; exact (Only.refl none_ w5).alloc _
        have RQ := Lib.hid (show Row w6 w5.heap.size 49 #[.slice a0 m.ca.l0.length c0, .slice a1 m.ca.l1.length c1, .slice a2 m.ca.h.length c2, .int .i64 m.ca.want, .int .u64 m.ca.miss, .int .u64 m.ca.hits] from by rw [hw6]; exact Row.fresh _ _ _)
        have Y0 := Lib.hid (y0.still o6)
        have Y1 := Lib.hid (y1.still o6)
        have Y2 := Lib.hid (y2.still o6)
        have o56 := o5.same o6
        have L6 := Lib.hid (LL.out.still o56)
        have Z6 := Lib.hid (fun g (hg : wr.heap.size ≤ g) => LL.out.zero hg)
        have zq := Lib.hid (show K w5.heap.size = 0 from Z6.out _ o5.size)
        obtain ⟨sb', so', hA', _, k0, k1, k2, k3, k4⟩ := ev_at HO.out (WW.out.same o56) HE.out
        injection hA' with hA1
        injection hA1 with hA2 hA3
        subst hA2 hA3
        have ST := Lib.hid (lm_step e KW.out L6.out (by omega))
        clear y0 y1 y2 o5 o6 fine PO o56 LL
        unfold caO
        dsimp only
        go_upto_region 12 with fail
        rw [← hw6]
        clear hw6
        generalize w5.heap.size = xq at *
        go_wp2_with fail
        (with_reducible refine ST.out.mono ?_)
        rintro E w7 ⟨rfl, K7, l7, g7, o7⟩
        have L7 := Lib.hid l7
        have RQ := Lib.hid (o7.row RQ.out (fun z => z zq.out))
        have Y0 := Lib.hid (Y0.out.keep o7 (fun g hg z => z (Z6.out g (Y0.out.base_le hg).1)))
        have Y1 := Lib.hid (Y1.out.keep o7 (fun g hg z => z (Z6.out g (Y1.out.base_le hg).1)))
        have Y2 := Lib.hid (Y2.out.keep o7 (fun g hg z => z (Z6.out g (Y2.out.base_le hg).1)))
        clear l7 g7 o7 ST L6 k0 k1 k2 k3 k4
        cases hs : stepO (some m) e with
        | none =>
          rw [hs] at L7
          have BK := Lib.hid (lm_broken L7.out)
          have OF := Lib.hid (O2.out.same L7.out.only)
          clear hs
          unfold codeO
          go_wp2_with fail
          (with_reducible refine BK.out.mono ?_)
          rintro E w8 ⟨rfl, rfl⟩
          go_wp2_with fail
          go_ret
          exact ⟨rfl, OF.out.to_below8⟩
        | some m' =>
          rw [hs] at L7
          have can : m.can e = true ∧ m.next e = m' := by
            unfold stepO at hs
            dsimp only at hs
            split at hs
            · exact ⟨‹_›, Option.some.inj hs⟩
            · cases hs
          have CA := Lib.hid can
          clear hs can
          unfold codeO
          have PO := Lib.hid (lm_policy L7.out)
          go_wp2_with fail
          (with_reducible refine PO.out.mono ?_)
          rintro E w8 ⟨d0, e0, d1, e1, d2, e2, rfl, v0, v1, v2, o8⟩
          have fine := (show m'.Fine (j + 1) from by obtain ⟨X, ss, c, h⟩ := L7.out.cm; exact h.fine)
          have mo' : m'.o = o := by rw [← CA.out.2, Mo.next_o]; exact MO.out
          have fc := fine.ca.facts
          have nn := fine.n
          rw [mo'] at nn
          obtain ⟨w9, hw9⟩ : ∃ w9, w9 = w8.alloc (.cells #[.slice d0 m'.ca.l0.length e0, .slice d1 m'.ca.l1.length e1, .slice d2 m'.ca.h.length e2, .int .i64 m'.ca.want, .int .u64 m'.ca.miss, .int .u64 m'.ca.hits] 49) := ⟨_, rfl⟩
          have o9 : Only none_ w8 w9 := by rw [hw9]; exact (Only.refl none_ w8).alloc _
          have RP := Lib.hid (show Row w9 w8.heap.size 49 #[.slice d0 m'.ca.l0.length e0, .slice d1 m'.ca.l1.length e1, .slice d2 m'.ca.h.length e2, .int .i64 m'.ca.want, .int .u64 m'.ca.miss, .int .u64 m'.ca.hits] from by rw [hw9]; exact Row.fresh _ _ _)
          have o89 := o8.same o9
          have RQ := Lib.hid (o89.still RQ.out)
          have D0 := Lib.hid (show Reads w9 (.slice a0 m.ca.l0.length c0) m.ca.l0 from Reads.of_owns (Y0.out.still o89))
          have D1 := Lib.hid (show Reads w9 (.slice a1 m.ca.l1.length c1) m.ca.l1 from Reads.of_owns (Y1.out.still o89))
          have D2 := Lib.hid (show Reads w9 (.slice a2 m.ca.h.length c2) m.ca.h from Reads.of_owns (Y2.out.still o89))
          have E0 := Lib.hid (show Reads w9 (.slice d0 m'.ca.l0.length e0) m'.ca.l0 from Reads.of_owns (v0.still o9))
          have E1 := Lib.hid (show Reads w9 (.slice d1 m'.ca.l1.length e1) m'.ca.l1 from Reads.of_owns (v1.still o9))
          have L9 := Lib.hid (L7.out.still o89)
          have MO9 := Lib.hid mo'
          have R9 := Lib.hid (L9.out.only.still R2.out)
          have W9 := Lib.hid (O2.out.same L9.out.only)
          obtain ⟨sb', so', hA', _, k0, k1, k2, k3, k4⟩ := ev_at HO.out W9.out HE.out
          injection hA' with hA1
          injection hA1 with hA2 hA3
          subst hA2 hA3
          have N1 := Lib.hid (show m'.ca.l0.length ≤ 64 ∧ m'.ca.l1.length ≤ 64 ∧ m.ca.l0.length ≤ 64 ∧ m.ca.l1.length ≤ 64 ∧ m.ca.h.length ≤ 64 from by
            have := fc.len
            have := fc.n64
            have := FC.out.len
            have := FC.out.n64
            have h1 := sub_lenI (FC.out.up.imp (fun q => by omega)) (fun x hx => List.mem_append.2 (FC.out.hin x hx))
            rw [List.length_append] at h1
            omega)
          have bb : w9.cell? ⟨bo, 1, none⟩ = some (.int .i64 m'.ca.n) := by rw [nn]; exact R9.out.cell 1
          have dl : decide (((m'.ca.n : Nat) : Int) < (m'.ca.l0.length : Int) + (m'.ca.l1.length : Int)) = false := decide_eq_false (by have := fc.len; omega)
          have dw : decide (((m'.ca.want : Nat) : Int) < 0) = false := decide_eq_false (by omega)
          have dv : decide (((m'.ca.n : Nat) : Int) < (m'.ca.want : Int)) = false := decide_eq_false (by have := fc.want; omega)
          have n1a := N1.out.1
          have n1b := N1.out.2.1
          have HS := Lib.hid (fun x (hx : x ∈ m.ca.h) => held_stays FI.out.ca CA.out.1 hx)
          rw [CA.out.2] at HS
          have VL := Lib.hid (fun (k : e.k = 6) => victim_last FC.out (of_decide_eq_true ((kind6 (m := m) k).1 ▸ CA.out.1)))
          clear v0 v1 v2 o8 o9 o89 fine fc nn mo' PO R9
          unfold caO
          dsimp only
          go_upto_region 16 with fail
          rw [← hw9]
          clear hw9
          generalize w8.heap.size = xp at *
          have p0 : w9.cell? ⟨xp, 0, none⟩ = some (.slice d0 m'.ca.l0.length e0) := RP.out.cell 0
          have p1 : w9.cell? ⟨xp, 1, none⟩ = some (.slice d1 m'.ca.l1.length e1) := RP.out.cell 1
          have p3 : w9.cell? ⟨xp, 3, none⟩ = some (.int .i64 m'.ca.want) := RP.out.cell 3
          have s0 : w9.cell? ⟨xq, 0, none⟩ = some (.slice a0 m.ca.l0.length c0) := RQ.out.cell 0
          have s1 : w9.cell? ⟨xq, 1, none⟩ = some (.slice a1 m.ca.l1.length c1) := RQ.out.cell 1
          have s2 : w9.cell? ⟨xq, 2, none⟩ = some (.slice a2 m.ca.h.length c2) := RQ.out.cell 2
          have RP2 := Lib.hid (fun W (ow : Only none_ w9 W) => (show W.cell? ⟨xp, 0, none⟩ = some (.slice d0 m'.ca.l0.length e0) ∧ W.cell? ⟨xp, 1, none⟩ = some (.slice d1 m'.ca.l1.length e1) from ⟨(ow.still RP.out).cell 0, (ow.still RP.out).cell 1⟩))
          have RQ2 := Lib.hid (fun W (ow : Only none_ w9 W) => (show W.cell? ⟨xq, 0, none⟩ = some (.slice a0 m.ca.l0.length c0) ∧ W.cell? ⟨xq, 1, none⟩ = some (.slice a1 m.ca.l1.length c1) ∧ W.cell? ⟨xq, 2, none⟩ = some (.slice a2 m.ca.h.length c2) from ⟨(ow.still RQ.out).cell 0, (ow.still RQ.out).cell 1, (ow.still RQ.out).cell 2⟩))
          clear RP RQ
          generalize ((m'.ca.want : Nat) : Int) = wi at *
          generalize ((m'.ca.n : Nat) : Int) = ni at *
          by_cases k6 : e.k = 6
          · have b6 : (e.k == 6) = true := by simp [k6]
            obtain ⟨vh, v01⟩ := VL.out k6
            have hl3 := N1.out.2.2
            have F0 := find_any _ _ e.b _ D0.out (by omega)
            have F1 := find_any _ _ e.b _ D1.out (by omega)
            have F2 := find_any _ _ e.b _ D2.out (by omega)
            rw [find_lt vh] at F2
            rcases v01 with ⟨i0, vt⟩ | ⟨n0, i1, vt⟩
            · obtain ⟨g1, g2, g3⟩ := find_ge i0
              rw [g3] at F0
              have ix := List.idxOf_lt_length_of_mem i0
              have VT := Lib.hid vt
              have F0 := Lib.hid F0
              have F2 := Lib.hid F2
              have b0 : decide (((m.ca.l0.idxOf e.b : Nat) : Int) < 0) = false := decide_eq_false (by omega)
              clear g1 g2 g3 i0 vt F1 vh k6 VL
              go_wp2_with fail
              (with_reducible refine F0.out.mono ?_)
              rintro E w' ⟨rfl, rfl⟩
              go_wp2_with fail
              (with_reducible refine F2.out.mono ?_)
              rintro E w' ⟨rfl, rfl⟩
              go_wp2_with fail
              go_loopw [14] (fun v wr => ∃ t : Nat, t ≤ m.ca.l0.length ∧ m.ca.l0.idxOf e.b + 1 ≤ t ∧ v = .int .i64 t ∧ Only none_ w9 wr) (fun v _ => m.ca.l0.length - (intOf v).toNat)
              case atStart => exact ⟨m.ca.l0.idxOf e.b + 1, ix, Nat.le_refl _, by go_num, Only.refl _ _⟩
              case round =>
                obtain ⟨t, ht, ht2, rfl, ow⟩ := hrel
                have OW := Lib.hid ow
                clear ow
                clear s0 s1 s2 p0 p1 p3 bb k0 k1 k2 k3 k4
                have ODW := Lib.hid (OW.out.drew)
                obtain ⟨u0, u1, u2⟩ := RQ2.out wr OW.out
                obtain ⟨t0, t1, t2⟩ := RQ2.out wr.drew ODW.out
                by_cases lt : t < m.ca.l0.length
                · obtain ⟨x, hx⟩ : ∃ x, m.ca.l0[t]? = some x := ⟨_, List.getElem?_eq_getElem lt⟩
                  obtain ⟨g, of, rfl, hc⟩ := reads_cells (D0.out.still ODW.out) t x hx
                  have hmem : x ∈ m.ca.h := VT.out x (by
                    rw [List.mem_iff_getElem?]
                    exact ⟨t - (m.ca.l0.idxOf e.b + 1), by rw [List.getElem?_drop, show m.ca.l0.idxOf e.b + 1 + (t - (m.ca.l0.idxOf e.b + 1)) = t by omega]; exact hx⟩)
                  have F2 := Lib.hid (find_any _ _ x wr.drew (D2.out.still ODW.out) (by have := N1.out.2.2.2.2; omega))
                  have hl := N1.out.2.2
                  obtain ⟨g1, g2, _⟩ := find_ge hmem
                  generalize findI m.ca.h x = fx at *
                  clear hx hmem
                  go_wp2_with fail
                  refine wp_tail 9 (by kernel_rfl) (by kernel_rfl) ?_
                  simp only [List.take_succ_cons, List.take_zero, List.drop_succ_cons, List.drop_zero]
                  repeat (go_big_quiet_step (fail))
                  refine wpQuiet_nil ?_
                  go_wp2_with fail
                  (with_reducible refine F2.out.mono ?_)
                  rintro E w' ⟨rfl, rfl⟩
                  go_wp2_with fail
                  go_roundw
                  case rel => exact ⟨t + 1, by omega, by omega, by go_num, ODW.out⟩
                  case measure => simp [intOf]; omega
                · obtain rfl : t = m.ca.l0.length := by omega
                  go_wp2_with fail
                  obtain ⟨p0', p1'⟩ := RP2.out wr OW.out
                  obtain ⟨s0', s1', s2'⟩ := RQ2.out wr OW.out
                  obtain ⟨sb', so', hA', _, k0', k1', k2', k3', k4'⟩ := ev_at HO.out (W9.out.same OW.out) HE.out
                  injection hA' with hA1
                  injection hA1 with hA2 hA3
                  subst hA2 hA3
                  have D2 := Lib.hid (D2.out.still OW.out)
                  have E0 := Lib.hid (E0.out.still OW.out)
                  have E1 := Lib.hid (E1.out.still OW.out)
                  have L9 := Lib.hid (L9.out.still OW.out)
                  go_loop [15, 16, 17] (fun v _ _ => ∃ t : Nat, t ≤ m.ca.h.length ∧ v = .int .i64 t) (fun v _ _ => m.ca.h.length - (intOf v).toNat)
                  case atStart => exact ⟨0, Nat.zero_le _, rfl⟩
                  case round =>
                    obtain ⟨t, ht, rfl⟩ := hrel
                    by_cases lt : t < m.ca.h.length
                    · obtain ⟨x, hx⟩ : ∃ x, m.ca.h[t]? = some x := ⟨_, List.getElem?_eq_getElem lt⟩
                      obtain ⟨g, of, rfl, hc⟩ := reads_cells D2.out t x hx
                      have hmem := List.mem_of_getElem? hx
                      have F0 := Lib.hid (find_any _ _ x _ E0.out (by omega))
                      have F1 := Lib.hid (find_any _ _ x _ E1.out (by omega))
                      have HX := HS.out x hmem
                      have hl := N1.out.2.2.2.2
                      clear hx hmem
                      by_cases i0 : x ∈ m'.ca.l0
                      · obtain ⟨g1, g2, _⟩ := find_ge i0
                        generalize findI m'.ca.l0 x = fx at *
                        clear i0 HX
                        go_wp2_with fail
                        (with_reducible refine F0.out.mono ?_)
                        rintro E w' ⟨rfl, rfl⟩
                        go_wp2_with fail
                        go_round
                        case rel => exact ⟨t + 1, by omega, by go_num⟩
                        case measure => simp [intOf]; omega
                      · rw [find_lt i0] at F0
                        by_cases i1 : x ∈ m'.ca.l1
                        · obtain ⟨g1, g2, _⟩ := find_ge i1
                          generalize findI m'.ca.l1 x = fx at *
                          clear i0 i1 HX
                          go_wp2_with fail
                          (with_reducible refine F0.out.mono ?_)
                          rintro E w' ⟨rfl, rfl⟩
                          go_wp2_with fail
                          (with_reducible refine F1.out.mono ?_)
                          rintro E w' ⟨rfl, rfl⟩
                          go_wp2_with fail
                          go_round
                          case rel => exact ⟨t + 1, by omega, by go_num⟩
                          case measure => simp [intOf]; omega
                        · rw [find_lt i1] at F1
                          have kx : e.k = 7 ∧ x = e.b := HX.resolve_left (fun q => q.elim i0 i1)
                          have b7 : (e.k != 7) = false := by simp [kx.1]
                          have bx : (x != e.b) = false := by simp [kx.2]
                          clear i0 i1 HX kx
                          go_wp2_with fail
                          (with_reducible refine F0.out.mono ?_)
                          rintro E w' ⟨rfl, rfl⟩
                          go_wp2_with fail
                          (with_reducible refine F1.out.mono ?_)
                          rintro E w' ⟨rfl, rfl⟩
                          go_wp2_with fail
                          go_round
                          case rel => exact ⟨t + 1, by omega, by go_num⟩
                          case measure => simp [intOf]; omega
                    · obtain rfl : t = m.ca.h.length := by omega
                      go_wp2_with fail
                      go_roundw
                      case rel => exact ⟨j + 1, m', K7, by omega, by omega, by go_num, L9.out, MO9.out⟩
                      case measure => simp [intOf]; omega
            · obtain ⟨g1, g2, g3⟩ := find_ge i1
              rw [g3] at F1
              have ix := List.idxOf_lt_length_of_mem i1
              have VT := Lib.hid vt
              rw [find_lt n0] at F0
              have F0 := Lib.hid F0
              have F1 := Lib.hid F1
              have F2 := Lib.hid F2
              have b0 : decide (((m.ca.l1.idxOf e.b : Nat) : Int) < 0) = false := decide_eq_false (by omega)
              clear g1 g2 g3 i1 n0 vt vh k6 VL
              go_wp2_with fail
              (with_reducible refine F0.out.mono ?_)
              rintro E w' ⟨rfl, rfl⟩
              go_wp2_with fail
              (with_reducible refine F1.out.mono ?_)
              rintro E w' ⟨rfl, rfl⟩
              go_wp2_with fail
              (with_reducible refine F2.out.mono ?_)
              rintro E w' ⟨rfl, rfl⟩
              go_wp2_with fail
              go_loopw [14] (fun v wr => ∃ t : Nat, t ≤ m.ca.l1.length ∧ m.ca.l1.idxOf e.b + 1 ≤ t ∧ v = .int .i64 t ∧ Only none_ w9 wr) (fun v _ => m.ca.l1.length - (intOf v).toNat)
              case atStart => exact ⟨m.ca.l1.idxOf e.b + 1, ix, Nat.le_refl _, by go_num, Only.refl _ _⟩
              case round =>
                obtain ⟨t, ht, ht2, rfl, ow⟩ := hrel
                have OW := Lib.hid ow
                clear ow
                clear s0 s1 s2 p0 p1 p3 bb k0 k1 k2 k3 k4
                have ODW := Lib.hid (OW.out.drew)
                obtain ⟨u0, u1, u2⟩ := RQ2.out wr OW.out
                obtain ⟨t0, t1, t2⟩ := RQ2.out wr.drew ODW.out
                by_cases lt : t < m.ca.l1.length
                · obtain ⟨x, hx⟩ : ∃ x, m.ca.l1[t]? = some x := ⟨_, List.getElem?_eq_getElem lt⟩
                  obtain ⟨g, of, rfl, hc⟩ := reads_cells (D1.out.still ODW.out) t x hx
                  have hmem : x ∈ m.ca.h := VT.out x (by
                    rw [List.mem_iff_getElem?]
                    exact ⟨t - (m.ca.l1.idxOf e.b + 1), by rw [List.getElem?_drop, show m.ca.l1.idxOf e.b + 1 + (t - (m.ca.l1.idxOf e.b + 1)) = t by omega]; exact hx⟩)
                  have F2 := Lib.hid (find_any _ _ x wr.drew (D2.out.still ODW.out) (by have := N1.out.2.2.2.2; omega))
                  have hl := N1.out.2.2
                  obtain ⟨g1, g2, _⟩ := find_ge hmem
                  generalize findI m.ca.h x = fx at *
                  clear hx hmem
                  go_wp2_with fail
                  refine wp_tail 9 (by kernel_rfl) (by kernel_rfl) ?_
                  simp only [List.take_succ_cons, List.take_zero, List.drop_succ_cons, List.drop_zero]
                  repeat (go_big_quiet_step (fail))
                  refine wpQuiet_nil ?_
                  go_wp2_with fail
                  (with_reducible refine F2.out.mono ?_)
                  rintro E w' ⟨rfl, rfl⟩
                  go_wp2_with fail
                  go_roundw
                  case rel => exact ⟨t + 1, by omega, by omega, by go_num, ODW.out⟩
                  case measure => simp [intOf]; omega
                · obtain rfl : t = m.ca.l1.length := by omega
                  go_wp2_with fail
                  obtain ⟨p0', p1'⟩ := RP2.out wr OW.out
                  obtain ⟨s0', s1', s2'⟩ := RQ2.out wr OW.out
                  obtain ⟨sb', so', hA', _, k0', k1', k2', k3', k4'⟩ := ev_at HO.out (W9.out.same OW.out) HE.out
                  injection hA' with hA1
                  injection hA1 with hA2 hA3
                  subst hA2 hA3
                  have D2 := Lib.hid (D2.out.still OW.out)
                  have E0 := Lib.hid (E0.out.still OW.out)
                  have E1 := Lib.hid (E1.out.still OW.out)
                  have L9 := Lib.hid (L9.out.still OW.out)
                  go_loop [15, 16, 17] (fun v _ _ => ∃ t : Nat, t ≤ m.ca.h.length ∧ v = .int .i64 t) (fun v _ _ => m.ca.h.length - (intOf v).toNat)
                  case atStart => exact ⟨0, Nat.zero_le _, rfl⟩
                  case round =>
                    obtain ⟨t, ht, rfl⟩ := hrel
                    by_cases lt : t < m.ca.h.length
                    · obtain ⟨x, hx⟩ : ∃ x, m.ca.h[t]? = some x := ⟨_, List.getElem?_eq_getElem lt⟩
                      obtain ⟨g, of, rfl, hc⟩ := reads_cells D2.out t x hx
                      have hmem := List.mem_of_getElem? hx
                      have F0 := Lib.hid (find_any _ _ x _ E0.out (by omega))
                      have F1 := Lib.hid (find_any _ _ x _ E1.out (by omega))
                      have HX := HS.out x hmem
                      have hl := N1.out.2.2.2.2
                      clear hx hmem
                      by_cases i0 : x ∈ m'.ca.l0
                      · obtain ⟨g1, g2, _⟩ := find_ge i0
                        generalize findI m'.ca.l0 x = fx at *
                        clear i0 HX
                        go_wp2_with fail
                        (with_reducible refine F0.out.mono ?_)
                        rintro E w' ⟨rfl, rfl⟩
                        go_wp2_with fail
                        go_round
                        case rel => exact ⟨t + 1, by omega, by go_num⟩
                        case measure => simp [intOf]; omega
                      · rw [find_lt i0] at F0
                        by_cases i1 : x ∈ m'.ca.l1
                        · obtain ⟨g1, g2, _⟩ := find_ge i1
                          generalize findI m'.ca.l1 x = fx at *
                          clear i0 i1 HX
                          go_wp2_with fail
                          (with_reducible refine F0.out.mono ?_)
                          rintro E w' ⟨rfl, rfl⟩
                          go_wp2_with fail
                          (with_reducible refine F1.out.mono ?_)
                          rintro E w' ⟨rfl, rfl⟩
                          go_wp2_with fail
                          go_round
                          case rel => exact ⟨t + 1, by omega, by go_num⟩
                          case measure => simp [intOf]; omega
                        · rw [find_lt i1] at F1
                          have kx : e.k = 7 ∧ x = e.b := HX.resolve_left (fun q => q.elim i0 i1)
                          have b7 : (e.k != 7) = false := by simp [kx.1]
                          have bx : (x != e.b) = false := by simp [kx.2]
                          clear i0 i1 HX kx
                          go_wp2_with fail
                          (with_reducible refine F0.out.mono ?_)
                          rintro E w' ⟨rfl, rfl⟩
                          go_wp2_with fail
                          (with_reducible refine F1.out.mono ?_)
                          rintro E w' ⟨rfl, rfl⟩
                          go_wp2_with fail
                          go_round
                          case rel => exact ⟨t + 1, by omega, by go_num⟩
                          case measure => simp [intOf]; omega
                    · obtain rfl : t = m.ca.h.length := by omega
                      go_wp2_with fail
                      go_roundw
                      case rel => exact ⟨j + 1, m', K7, by omega, by omega, by go_num, L9.out, MO9.out⟩
                      case measure => simp [intOf]; omega
          · have b6 : (e.k == 6) = false := by simp [k6]
            clear k6 VL
            go_wp2_with fail
            go_loop [15, 16, 17] (fun v _ _ => ∃ t : Nat, t ≤ m.ca.h.length ∧ v = .int .i64 t) (fun v _ _ => m.ca.h.length - (intOf v).toNat)
            case atStart => exact ⟨0, Nat.zero_le _, rfl⟩
            case round =>
              obtain ⟨t, ht, rfl⟩ := hrel
              by_cases lt : t < m.ca.h.length
              · obtain ⟨x, hx⟩ : ∃ x, m.ca.h[t]? = some x := ⟨_, List.getElem?_eq_getElem lt⟩
                obtain ⟨g, of, rfl, hc⟩ := reads_cells D2.out t x hx
                have hmem := List.mem_of_getElem? hx
                have F0 := Lib.hid (find_any _ _ x _ E0.out (by omega))
                have F1 := Lib.hid (find_any _ _ x _ E1.out (by omega))
                have HX := HS.out x hmem
                have hl := N1.out.2.2.2.2
                clear hx hmem
                by_cases i0 : x ∈ m'.ca.l0
                · obtain ⟨g1, g2, _⟩ := find_ge i0
                  generalize findI m'.ca.l0 x = fx at *
                  clear i0 HX
                  go_wp2_with fail
                  (with_reducible refine F0.out.mono ?_)
                  rintro E w' ⟨rfl, rfl⟩
                  go_wp2_with fail
                  go_round
                  case rel => exact ⟨t + 1, by omega, by go_num⟩
                  case measure => simp [intOf]; omega
                · rw [find_lt i0] at F0
                  by_cases i1 : x ∈ m'.ca.l1
                  · obtain ⟨g1, g2, _⟩ := find_ge i1
                    generalize findI m'.ca.l1 x = fx at *
                    clear i0 i1 HX
                    go_wp2_with fail
                    (with_reducible refine F0.out.mono ?_)
                    rintro E w' ⟨rfl, rfl⟩
                    go_wp2_with fail
                    (with_reducible refine F1.out.mono ?_)
                    rintro E w' ⟨rfl, rfl⟩
                    go_wp2_with fail
                    go_round
                    case rel => exact ⟨t + 1, by omega, by go_num⟩
                    case measure => simp [intOf]; omega
                  · rw [find_lt i1] at F1
                    have kx : e.k = 7 ∧ x = e.b := HX.resolve_left (fun q => q.elim i0 i1)
                    have b7 : (e.k != 7) = false := by simp [kx.1]
                    have bx : (x != e.b) = false := by simp [kx.2]
                    clear i0 i1 HX kx
                    go_wp2_with fail
                    (with_reducible refine F0.out.mono ?_)
                    rintro E w' ⟨rfl, rfl⟩
                    go_wp2_with fail
                    (with_reducible refine F1.out.mono ?_)
                    rintro E w' ⟨rfl, rfl⟩
                    go_wp2_with fail
                    go_round
                    case rel => exact ⟨t + 1, by omega, by go_num⟩
                    case measure => simp [intOf]; omega
              · obtain rfl : t = m.ca.h.length := by omega
                go_wp2_with fail
                go_roundw
                case rel => exact ⟨j + 1, m', K7, by omega, by omega, by go_num, L9.out, MO9.out⟩
                case measure => simp [intOf]; omega
      · rcases q1 with ⟨q1, q2⟩ | q1
        all_goals
          go_wp2_with fail
          go_ret
          exact ⟨rfl, WW.out.to_below8⟩
end Go.Proofs.YtlfnncahhbbmpaaGreatDoor.replayHeld

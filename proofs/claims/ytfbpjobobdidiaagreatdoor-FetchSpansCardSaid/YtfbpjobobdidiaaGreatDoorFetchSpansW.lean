/- The walk through FetchSpans's own text. -/
import Derived.WalkKit
import Derived.ProofKit
import Derived.OpenShut
import Derived.Below
import Derived.Test.YtfbpjobobdidiaaGreatDoorGrpA
import Derived.Test.YtfbpjobobdidiaaGreatDoorAw16
import Derived.Test.YtfbpjobobdidiaaGreatDoorSp16
import Derived.Lib.MinMax
namespace Go.Proofs.YtfbpjobobdidiaaGreatDoor.fetchSpans
open Go.ChangeShapes Go.WideShapes Go.ChangeAt Go.RowKit
set_option linter.unusedVariables false
set_option maxHeartbeats 4000000 in
set_option maxRecDepth 100000 in
theorem walk (w : World) (hb : Bd w) (a0 : Int) (wa0 : (Lit.int .u8 a0).wf = true) (a1 : Int) (wa1 : (Lit.int .u8 a1).wf = true) (a2 : Int) (wa2 : (Lit.int .u8 a2).wf = true) :
    Calls Tryz.prog 8 #[.int .u8 a0, .int .u8 a1, .int .u8 a2] w fun e w' => e = .returned (.bool true) ∧ Below w.heap.size w w' := by
  obtain ⟨p0, p1⟩ := bd_u8 wa0
  obtain ⟨q0, q1⟩ := bd_u8 wa1
  obtain ⟨r0, r1⟩ := bd_u8 wa2
  obtain ⟨sp, hsp⟩ : ∃ d : Nat, 1 + a2 % 8 = (d : Int) := ⟨(1 + a2 % 8).toNat, by omega⟩
  obtain ⟨n, hn⟩ : ∃ n : Nat, 1 + a1 % 16 = (n : Int) := ⟨(1 + a1 % 16).toNat, by omega⟩
  obtain ⟨a, ha⟩ : ∃ d : Int, a0 % 240 = d := ⟨_, rfl⟩
  have SPB := Lib.hid (show 1 ≤ sp ∧ sp ≤ 8 from by omega)
  have NB := Lib.hid (show 1 ≤ n ∧ n ≤ 16 from by omega)
  have AB := Lib.hid (show 0 ≤ a ∧ a < 240 from by omega)
  have HSP := Lib.hid hsp
  have HN := Lib.hid hn
  have HA := Lib.hid ha
  have HB := Lib.hid hb
  clear hb hsp hn ha
  go_enter Tryz.func8, Tryz.ntmps8
  go_wp2_with fail
  (with_reducible refine (awake16_any w HB.out).mono ?_)
  rintro e w1 ⟨rfl, o1⟩
  have O1 := Lib.hid o1
  clear o1
  go_wp2_with fail
  (with_reducible refine (rusual_any 256 w1).mono ?_)
  rintro e w2 ⟨rfl, o2⟩
  obtain ⟨W3, hW3⟩ : ∃ W, W = w2.alloc (.cells #[.int .i64 256, .int .i64 8, .int .i64 2, .int .i64 16, .int .i64 8, .int .i64 4, .int .i64 4, .int .i64 3, .int .i64 8, .int .i64 32, .int .i64 4, .int .i64 8, .int .i64 16, .int .i64 4] 23) := ⟨_, rfl⟩
  unfold usual Opt.val
  dsimp only
  go_upto_region 4 with fail
  rw [← hW3]
  have o3 : Only none_ w2 W3 := by rw [hW3]; exact (Only.refl _ _).alloc _
  have r3 : Row W3 w2.heap.size 23 #[.int .i64 256, .int .i64 8, .int .i64 2, .int .i64 16, .int .i64 8, .int .i64 4, .int .i64 4, .int .i64 3, .int .i64 8, .int .i64 32, .int .i64 4, .int .i64 8, .int .i64 16, .int .i64 4] := by rw [hW3]; exact Row.fresh _ _ _
  have O3 := Lib.hid ((O1.out.same o2).same o3)
  have G7 := Lib.hid (show w.heap.size ≤ w2.heap.size from (O1.out.same o2).size)
  clear hW3 o2 o3
  generalize w2.heap.size = g7 at *
  have R3 := Lib.hid r3
  have c5 : W3.cell? ⟨g7, 5, none⟩ = some (.int .i64 4) := r3.cell 5
  have c6 : W3.cell? ⟨g7, 6, none⟩ = some (.int .i64 4) := r3.cell 6
  have f5 := r3.frozen 5
  have f6 := r3.frozen 6
  have lg := r3.lt
  clear r3
  go_upto_region 6 with fail
  rw [HSP.out]
  obtain ⟨W5, hW5⟩ : ∃ W, W = (W3.setCell ⟨g7, 6, none⟩ (.int .i64 sp)).setCell ⟨g7, 5, none⟩ (.int .i64 16) := ⟨_, rfl⟩
  have r5 : Row W5 g7 23 #[.int .i64 256, .int .i64 8, .int .i64 2, .int .i64 16, .int .i64 8, .int .i64 16, .int .i64 sp, .int .i64 3, .int .i64 8, .int .i64 32, .int .i64 4, .int .i64 8, .int .i64 16, .int .i64 4] := by rw [hW5]; exact (R3.out.put 6 _).put 5 _
  have o5 : Only (fun k => k = g7) W3 W5 := by rw [hW5]; exact ((Only.refl (fun k => k = g7) W3).into rfl _ _).into rfl _ _
  have O5 := Lib.hid (show Only none_ w W5 from O3.out.trans o5 (fun i hi e => by have e1 : i = g7 := e; have := G7.out; omega))
  rw [← hW5]
  have R5 := Lib.hid r5
  have x0 := r5.cell 0
  have x1 := r5.cell 1
  have x2 := r5.cell 2
  have x3 := r5.cell 3
  have x4 := r5.cell 4
  have x5 := r5.cell 5
  have x6 := r5.cell 6
  have x7 := r5.cell 7
  have x8 := r5.cell 8
  have x9 := r5.cell 9
  have x10 := r5.cell 10
  have x11 := r5.cell 11
  have x12 := r5.cell 12
  have x13 := r5.cell 13
  simp only [List.getElem?_toArray, List.getElem?_cons_zero, List.getElem?_cons_succ] at x0 x1 x2 x3 x4 x5 x6 x7 x8 x9 x10 x11 x12 x13
  have NW := lnew (w0 := w) (oS sp) (HB.out.still O5.out) (oS_may (by have := SPB.out; omega) (by have := SPB.out; omega)) O5.out
  unfold ptrTo oS usual Opt.val at NW
  dsimp only at NW
  replace NW := Lib.hid NW
  clear hW5 r5 o5 c5 c6 f5 f6 lg R3 O3
  go_wp2_with fail
  (with_reducible refine NW.out.mono ?_)
  rintro e w6 ⟨p, rfl, ⟨c0, h6, n6⟩, o6⟩
  have L6 := Lib.hid (show LE w w6 p c0 0 0 (spE (oS sp) a 0 0 [] 0) from h6)
  have R6 := Lib.hid (show Row w6 g7 23 #[.int .i64 256, .int .i64 8, .int .i64 2, .int .i64 16, .int .i64 8, .int .i64 16, .int .i64 sp, .int .i64 3, .int .i64 8, .int .i64 32, .int .i64 4, .int .i64 8, .int .i64 16, .int .i64 4] ∧ c0 g7 = 0 from ⟨o6.still R5.out, Classical.byContradiction fun q => by have := n6 g7 q; have := R5.out.lt; omega⟩)
  clear h6 n6 o6 NW x0 x1 x2 x3 x4 x5 x6 x7 x8 x9 x10 x11 x12 x13 R5
  go_upto_region 10 with fail
  rw [HN.out]
  go_upto_region 11 with fail
  rw [HA.out]
  go_wp2_with fail
  go_loopw [12, 13, 14, 15, 16] (fun i _ _ _ _ wr => ∃ (k : Nat) (c : Nat → Nat), i = .int .i64 k ∧ k ≤ n ∧ LE w wr p c (10 * k) (2 * k) (spE (oS sp) a k 0 [] 0) ∧ (Row wr g7 23 #[.int .i64 256, .int .i64 8, .int .i64 2, .int .i64 16, .int .i64 8, .int .i64 16, .int .i64 sp, .int .i64 3, .int .i64 8, .int .i64 32, .int .i64 4, .int .i64 8, .int .i64 16, .int .i64 4] ∧ c g7 = 0)) (fun i _ _ _ _ _ => n - (intOf i).toNat)
  case atStart => exact ⟨0, c0, rfl, Nat.zero_le _, L6.out, R6.out⟩
  case round =>
    obtain ⟨k, c, rfl, hk, hl, hr⟩ := hrel
    have L := Lib.hid hl
    have R := Lib.hid hr
    clear hl hr L6 R6
    have nb := NB.out
    have ab := AB.out
    by_cases hlt : k < n
    · have t1 : decide (k < n) = true := decide_eq_true hlt
      have g1 : a + (k : Int) < (oS sp).b0 := by show a + (k : Int) < 256; omega
      have g2 : (k : Int) < (oS sp).b3 := by show (k : Int) < 16; omega
      have g3 : (k : Int) < (oS sp).b9 := by show (k : Int) < 32; omega
      obtain ⟨_, rd⟩ := sp_read (ms := []) (ng := 0) ab.1 g1 g2 g3
      obtain ⟨kk, hra⟩ := sp_readA L.out.inv ab.1 g1 g2 g3
      have wv : wtS k = ⟨1 + (k : Int) / 8, (k : Int) % 8⟩ := by unfold wtS; simp
      have CA := lread (a + k) 0 (wtS k) L.out ⟨wf_i _ (by rw [wv]; dsimp only; omega), wf_i _ (by rw [wv]; dsimp only; omega)⟩ (by omega) (by omega)
      rw [hra, rd, wv] at CA
      unfold ptrTo Wt.val at CA
      replace CA := Lib.hid CA
      have v1 : IntKind.i64.wrap (a + (k : Int)) = a + (k : Int) := by rw [IntKind.wrap_i64]; omega
      have v2 : IntKind.i64.wrap (1 + (k : Int) / 8) = 1 + (k : Int) / 8 := by rw [IntKind.wrap_i64]; omega
      clear hra rd wv g1 g2 g3
      go_wp2_with fail
      (with_reducible refine CA.out.mono ?_)
      rintro e w7 ⟨rfl, c2, h7, gw7, _, o7⟩
      have L7 := Lib.hid h7
      have R7 := Lib.hid (kept gw7 o7 R.out)
      clear h7 gw7 o7 CA
      go_wp2_with fail
      go_roundw
      case rel => exact ⟨k + 1, c2, by go_num, by omega, (L7.out.still ((Only.refl none_ _).alloc _)).up (by omega) (by omega) (by omega) (by omega), still0 R7.out ((Only.refl none_ _).alloc _)⟩
      case measure => simp [intOf]; omega
    · have t1 : decide (k < n) = false := decide_eq_false hlt
      obtain rfl : k = n := by omega
      have L2 := Lib.hid (show LE w wr p c (200 + 1000 * 0) (40 + 0) (spE (oS sp) a k (min 0 k) [] 0) from by rw [Nat.zero_min]; exact L.out.up (by omega) (by omega) (by omega) (by omega))
      clear L
      go_wp2_with fail
      go_loopw [17, 18, 19, 20, 21] (fun i _ _ _ _ wr => ∃ (j : Nat) (c : Nat → Nat) (ms : List Mv) (ng : Nat), i = .int .i64 j ∧ j ≤ k + 8 ∧ ms.length ≤ min j k ∧ LE w wr p c (200 + 1000 * j) (40 + j) (spE (oS sp) a k (min j k) ms ng) ∧ (Row wr g7 23 #[.int .i64 256, .int .i64 8, .int .i64 2, .int .i64 16, .int .i64 8, .int .i64 16, .int .i64 sp, .int .i64 3, .int .i64 8, .int .i64 32, .int .i64 4, .int .i64 8, .int .i64 16, .int .i64 4] ∧ c g7 = 0)) (fun i _ _ _ _ _ => k - (intOf i).toNat)
      case atStart => exact ⟨0, c, [], 0, rfl, Nat.zero_le _, Nat.zero_le _, L2.out, R.out⟩
      case round =>
        obtain ⟨j, c, ms, ng, rfl, hj, hms, hl, hr⟩ := hrel
        have L := Lib.hid hl
        have R := Lib.hid hr
        clear hl hr L2
        have sb := SPB.out
        by_cases hjl : j < k
        · have t2 : decide (j < k) = true := decide_eq_true hjl
          have iv := L.out.inv
          have lw := L.out
          rw [Nat.min_eq_left (Nat.le_of_lt hjl)] at iv lw hms
          obtain ⟨mv, ng', ms', nx, m1, m2, m3, m4, m5, _⟩ := sp_next iv ab.1 (by show a + (k : Int) ≤ 256; omega) hjl (by show (ms.length : Int) < 16; omega)
          have e6 : (oS sp).b6.toNat = sp := rfl
          rw [e6] at nx m3 m4 m5
          obtain ⟨q, hq⟩ : ∃ q : Nat, q = min sp (k - j) := ⟨_, rfl⟩
          rw [← hq] at nx m3 m4 m5
          have CA := lnext_some lw (room := 64) (by decide) (congrArg (·.2) nx) (by omega) (by omega)
          rw [nx] at CA
          dsimp only at CA
          rw [m1, m2, m3, m4, m5] at CA
          replace CA := Lib.hid CA
          have Q := Lib.hid (show (q : Int) = min (sp : Int) ((k : Int) - (j : Int)) ∧ 1 ≤ q ∧ min (j + sp) k = j + q from by omega)
          clear nx m1 m2 m3 m4 m5 iv lw e6 hq
          go_wp2_with fail
          (with_reducible refine CA.out.mono ?_)
          rintro e w8 ⟨u1, k1, u2, k2, u3, k3, dv, rfl, hd, _, c3, h8, g8, _, o8⟩
          obtain ⟨da, dc, ed⟩ := owns_form hd
          subst ed
          obtain ⟨W8, hW8⟩ : ∃ W, W = w8.alloc (.cells #[.int .i64 mv.tag, .bool false, .int .i64 (a + (j : Int)), .int .i64 q, .slice u1 q k1, .slice u2 mv.vs.length k2, .slice u3 q k3] 47) := ⟨_, rfl⟩
          have oa : Only none_ w8 W8 := by rw [hW8]; exact (Only.refl _ _).alloc _
          have rm : Row W8 w8.heap.size 47 #[.int .i64 mv.tag, .bool false, .int .i64 (a + (j : Int)), .int .i64 q, .slice u1 q k1, .slice u2 mv.vs.length k2, .slice u3 q k3] := by rw [hW8]; exact Row.fresh _ _ _
          obtain ⟨m0, m1, m2, m3, m4, m5, m6⟩ := rm.seven
          have R8 := Lib.hid (still0 (kept g8 o8 R.out) oa)
          have L8 := Lib.hid (h8.still oa)
          have x6 : W8.cell? ⟨g7, 6, none⟩ = some (.int .i64 sp) := R8.out.1.cell 6
          have v1 : IntKind.i64.wrap (a + (j : Int)) = a + (j : Int) := by rw [IntKind.wrap_i64]; omega
          have v2 : IntKind.i64.wrap ((k : Int) - (j : Int)) = (k : Int) - (j : Int) := by rw [IntKind.wrap_i64]; omega
          have v3 : IntKind.i64.wrap ((j : Int) + (sp : Int)) = (j : Int) + (sp : Int) := by rw [IntKind.wrap_i64]; omega
          have nr := neq_run (a + (j : Int)) q W8
          clear hd h8 g8 o8 oa rm CA L R
          go_upto_region 21 with fail
          rw [← hW8]
          clear hW8
          go_upto_region 22 with fail
          rw [← Q.out.1]
          go_wp2_with fail
          go_roundw
          case rel => exact ⟨j + sp, c3, ms ++ [mv], ng', by go_num, by omega, by rw [List.length_append, List.length_singleton, Q.out.2.2]; have := Q.out.2.1; omega, by rw [Q.out.2.2]; exact L8.out.up (by omega) (by omega) (by omega) (by omega), R8.out⟩
          case measure => simp [intOf]; omega
        · have t2 : decide (j < k) = false := decide_eq_false hjl
          have lw := L.out
          rw [Nat.min_eq_right (by omega)] at lw hms
          have CA := Lib.hid (lnext_none lw (room := 64) (by decide) (sp_over (by show (ms.length : Int) ≤ 16; omega)) (by omega) (by omega))
          clear L lw
          go_wp2_with fail
          (with_reducible refine CA.out.mono ?_)
          rintro e w8 ⟨dv, rfl, _, c3, h8, g8, _, o8⟩
          have O8 := Lib.hid h8.only
          clear h8 g8 o8 CA
          go_wp2_with fail
          go_ret
          exact ⟨rfl, (O8.out.alloc _).to_below16⟩
end Go.Proofs.YtfbpjobobdidiaaGreatDoor.fetchSpans

/- The walk through FetchJoins's own text. -/
import Derived.WalkKit
import Derived.ProofKit
import Derived.OpenShut
import Derived.Below
import Derived.Test.YtfbpjobobdidiaaGreatDoorGrpA
import Derived.Test.YtfbpjobobdidiaaGreatDoorAw16
import Derived.Test.YtfbpjobobdidiaaGreatDoorJn16
import Derived.Test.YtfbpjobobdidiaaGreatDoorGrpI
import Derived.Lib.MinMax
namespace Go.Proofs.YtfbpjobobdidiaaGreatDoor.fetchJoins
open Go.ChangeShapes Go.WideShapes Go.ChangeAt Go.RowKit
set_option linter.unusedVariables false
theorem wt_one16 : ∀ y, ∀ u ∈ Wt.cells y, u.oneCell' = true := by
  intro y u hu
  simp only [Wt.cells, List.mem_cons, List.not_mem_nil, or_false] at hu
  rcases hu with rfl | rfl <;> rfl
theorem info_wt2 : (Tryz.prog.info? 36).map (fun i => (i.zero, i.size, i.bytes)) = some (some (.agg #[.int .i64 0, .int .i64 0]), 2, 16) := by kernel_rfl
theorem oc_one {w : World} {c : Nat → Nat} {base : Nat} {v : Value} {qs : List (Oc × Value)} {o1 : Oc} (h : OcAt w base c v qs) (e : qs.map (·.1) = [o1]) : ∃ (g cap : Nat) (q0 : Oc × Value), v = .slice (some ⟨g, 0, none⟩) 1 cap ∧ q0.1 = o1 ∧ w.cell? ⟨g, 9, none⟩ = some (.int .i64 q0.1.f) ∧ w.cell? ⟨g, 11, none⟩ = some q0.2 ∧ ReadsW w q0.2 q0.1.ws ∧ ∃ a k, q0.2 = .slice a q0.1.ws.length k := by
  have ql : qs.length = 1 := by have := congrArg List.length e; rw [List.length_map] at this; exact this
  match qs, ql with
  | [q0], _ =>
    obtain ⟨g, cap, rfl, _⟩ := h.own.form (by simp)
    have c0 := Owns.cell h.own ocC12 (i := 0) (a := q0) rfl (j := 9) (by decide)
    have c2 := Owns.cell h.own ocC12 (i := 0) (a := q0) rfl (j := 11) (by decide)
    obtain ⟨a, k, e3⟩ := (h.rd q0 (by simp)).len
    simp only [List.map_cons, List.map_nil, List.cons.injEq, and_true] at e
    exact ⟨g, cap, q0, rfl, e, c0, c2, (h.rd q0 (by simp)).1, a, k, e3⟩
theorem Reads.one1 {w : World} {g : Nat} {T : TypeId} {a : Int} (r : Row w g T #[.int .i64 a]) : Reads w (.slice (some ⟨g, 0, none⟩) 1 1) [a] := by
  refine ⟨some ⟨g, 0, none⟩, 1, rfl, fun i x hx => ⟨g, 0, rfl, ?_⟩⟩
  rw [Nat.zero_add, r.cell]
  match i, hx with
  | 0, hx => injection hx with hx; rw [← hx]; rfl
  | n + 1, hx => cases hx
set_option maxHeartbeats 4000000 in
set_option maxRecDepth 100000 in
theorem walk (w : World) (hb : Bd w) (a0 : Int) (wa0 : (Lit.int .u8 a0).wf = true) (a1 : Int) (wa1 : (Lit.int .u8 a1).wf = true) (a2 : Int) (wa2 : (Lit.int .u8 a2).wf = true) :
    Calls Tryz.prog 7 #[.int .u8 a0, .int .u8 a1, .int .u8 a2] w fun e w' => e = .returned (.bool true) ∧ Below w.heap.size w w' := by
  obtain ⟨p0, p1⟩ := bd_u8 wa0
  obtain ⟨q0, q1⟩ := bd_u8 wa1
  obtain ⟨r0, r1⟩ := bd_u8 wa2
  obtain ⟨b, hbb⟩ : ∃ d : Int, a0 % 20 = d := ⟨_, rfl⟩
  obtain ⟨n, hn⟩ : ∃ n : Nat, 1 + a1 % 32 = (n : Int) := ⟨(1 + a1 % 32).toNat, by omega⟩
  obtain ⟨k, hk⟩ : ∃ d : Nat, a2 % (n : Int) = (d : Int) := ⟨(a2 % (n : Int)).toNat, by have := Int.emod_nonneg a2 (show (n : Int) ≠ 0 by omega); omega⟩
  have KB := Lib.hid (show k < n from by have := Int.emod_lt_of_pos a2 (show (0 : Int) < (n : Int) by omega); omega)
  have NB := Lib.hid (show 1 ≤ n ∧ n ≤ 32 from by omega)
  have BB := Lib.hid (show 0 ≤ b ∧ b < 20 from by omega)
  have nz : ((n : Int) == 0) = false := by simp; omega
  have nz2 : ¬ (n : Int) = 0 := by omega
  have nz3 : ¬ n = 0 := by omega
  have HN := Lib.hid hn
  have HK := Lib.hid hk
  have HBB := Lib.hid hbb
  have HB := Lib.hid hb
  obtain ⟨i0, hi0, hz0, hz1, hz2⟩ := info_parts info_wt2
  have I0 := Lib.hid hi0
  have I1 := Lib.hid hz0
  have I2 := Lib.hid hz1
  have I3 := Lib.hid hz2
  clear hb hn hk hbb hi0 hz0 hz1 hz2
  go_enter Tryz.func7, Tryz.ntmps7
  go_wp2_with fail
  (with_reducible refine (awake16_any w HB.out).mono ?_)
  rintro e w1 ⟨rfl, o1⟩
  have O1 := Lib.hid o1
  clear o1
  go_wp2_with fail
  (with_reducible refine (rusual_any 20 w1).mono ?_)
  rintro e w2 ⟨rfl, o2⟩
  have O2 := Lib.hid (O1.out.same o2)
  have NW := lnew (w0 := w) (usual 20) (HB.out.still O2.out) (show (usual 20).MayC from by decide) O2.out
  unfold ptrTo at NW
  replace NW := Lib.hid NW
  clear o2
  go_wp2_with fail
  (with_reducible refine NW.out.mono ?_)
  rintro e w6 ⟨p, rfl, ⟨c0, h6, _⟩, _⟩
  have L6 := Lib.hid (show LE w w6 p c0 (2000 * 0) (4 * 0) (stJ (usual 20) b k 0) from h6)
  clear h6 NW
  go_upto_region 7 with fail
  rw [HBB.out]
  go_upto_region 8 with fail
  rw [HN.out]
  go_upto_region 9 with fail
  rw [HK.out]
  go_wp2_with fail
  go_loopw [12, 13, 14, 15, 16, 17, 18, 19, 20, 21, 22] (fun va tg i _ _ _ _ _ _ _ _ wr => ∃ (j : Nat) (c : Nat → Nat) (v : Value) (tj : Int), v = va ∧ i = .int .i64 j ∧ j ≤ n ∧ tg = .int .i64 tj ∧ tj = (if k < j then 1 else 0) ∧ LE w wr p c (2000 * j) (4 * j) (stJ (usual 20) b k j) ∧ OwnsWt wr 0 v ((List.range j).map wtS) ∧ (∀ g, v.ownBlock = some g → c g = 0 ∧ w.heap.size ≤ g)) (fun _ _ i _ _ _ _ _ _ _ _ _ => n - (intOf i).toNat)
  case atStart => exact ⟨0, c0, _, 0, rfl, rfl, Nat.zero_le _, rfl, by rw [if_neg (Nat.not_lt_zero k)], L6.out, Owns.start _ _ _ _ _, fun g hg => (by cases hg)⟩
  case round =>
    obtain ⟨j, c, v, tj, rfl, rfl, hj, rfl, htj, hl, hv, hc⟩ := hrel
    have TJ := Lib.hid htj
    clear htj
    have L := Lib.hid hl
    have V := Lib.hid hv
    have C := Lib.hid hc
    clear hl hv hc L6
    have nb := NB.out
    have bb := BB.out
    have kb := KB.out
    by_cases hlt : j < n
    · have t1 : decide (j < n) = true := decide_eq_true hlt
      obtain ⟨rd, ra⟩ := stJ_read (o := usual 20) (k := k) bb.1 (by show b < 20; omega) (by decide) (by show (j : Int) < 32; omega) L.out.inv
      have wv : wtS j = ⟨1 + (j : Int) / 8, (j : Int) % 8⟩ := by unfold wtS; simp
      obtain ⟨W7, hW7⟩ : ∃ W, W = wr.alloc (.cells #[.int .i64 (1 + (j : Int) / 8), .int .i64 ((j : Int) % 8)] 36) := ⟨_, rfl⟩
      have oa : Only none_ wr W7 := by rw [hW7]; exact (Only.refl _ _).alloc _
      have RW := Lib.hid (show Row W7 wr.heap.size 36 #[.int .i64 (1 + (j : Int) / 8), .int .i64 ((j : Int) % 8)] ∧ c wr.heap.size = 0 from by rw [hW7]; exact fresh0 L.out _ _)
      have L7 := Lib.hid (L.out.still oa)
      have V7 := Lib.hid (V.out.still oa)
      have WN := Lib.hid (show ∀ g, v.ownBlock = some g → g ≠ wr.heap.size from fun g hg e => by have := (V.out.base_le hg).2; omega)
      have CA := lread b 1 (wtS j) L7.out ⟨wf_i _ (by rw [wv]; dsimp only; omega), wf_i _ (by rw [wv]; dsimp only; omega)⟩ (by omega) (by omega)
      obtain ⟨bo, ck⟩ : ∃ bo, decide (k < j) = bo := ⟨_, rfl⟩
      obtain ⟨bj, cj⟩ : ∃ bj, decide (0 < j) = bj := ⟨_, rfl⟩
      rw [ra, rd, wv, ck, cj] at CA
      have CK := Lib.hid ck
      unfold ptrTo Wt.val at CA
      replace CA := Lib.hid CA
      have v2 : IntKind.i64.wrap (1 + (j : Int) / 8) = 1 + (j : Int) / 8 := by rw [IntKind.wrap_i64]; omega
      have v3 : IntKind.i64.wrap ((j : Int) + 1) = (j : Int) + 1 := by rw [IntKind.wrap_i64]; omega
      have WV := Lib.hid wv
      obtain ⟨x0, x1⟩ : W7.cell? ⟨wr.heap.size, 0, none⟩ = some (.int .i64 (1 + (j : Int) / 8)) ∧ W7.cell? ⟨wr.heap.size, 1, none⟩ = some (.int .i64 ((j : Int) % 8)) := ⟨RW.out.1.cell 0, RW.out.1.cell 1⟩
      clear ra rd wv oa L V
      go_upto_region 15 with fail
      rw [← hW7]
      clear hW7
      generalize wr.heap.size = g15 at *
      go_wp2_with fail
      (with_reducible refine CA.out.mono ?_)
      rintro e w8 ⟨rfl, c2, h8, g8, _, o8⟩
      obtain ⟨W8, hW8⟩ : ∃ W, W = w8.alloc (.cells #[.int .i64 1, .int .i64 1, .int .i64 b, .int .i64 1, .int .i64 0, .int .i64 ((j : Int) + 1), .bool bo, .bool bo, .bool false] 54) := ⟨_, rfl⟩
      have oa : Only none_ w8 W8 := by rw [hW8]; exact (Only.refl _ _).alloc _
      have rt : Row W8 w8.heap.size 54 #[.int .i64 1, .int .i64 1, .int .i64 b, .int .i64 1, .int .i64 0, .int .i64 ((j : Int) + 1), .bool bo, .bool bo, .bool false] := by rw [hW8]; exact Row.fresh _ _ _
      have y0 : W8.cell? ⟨w8.heap.size, 0, none⟩ = some (.int .i64 1) := rt.cell 0
      have y5 : W8.cell? ⟨w8.heap.size, 5, none⟩ = some (.int .i64 ((j : Int) + 1)) := rt.cell 5
      have y6 : W8.cell? ⟨w8.heap.size, 6, none⟩ = some (.bool bo) := rt.cell 6
      have RW8 := Lib.hid (still0 (kept g8 o8 RW.out) oa)
      have V8 := Lib.hid ((V7.out.keep o8 (fun g hg z => z (C.out g hg).1)).still oa)
      have C8 := Lib.hid (show ∀ g, v.ownBlock = some g → c2 g = 0 ∧ w.heap.size ≤ g from fun g hg => ⟨g8.zero (C.out g hg).1 (V7.out.base_le hg).2, (C.out g hg).2⟩)
      have L8 := Lib.hid (h8.still oa)
      have z0 : W8.cell? ⟨g15, 0, none⟩ = some (.int .i64 (1 + (j : Int) / 8)) := RW8.out.1.cell 0
      have z1 : W8.cell? ⟨g15, 1, none⟩ = some (.int .i64 ((j : Int) % 8)) := RW8.out.1.cell 1
      have b1 : (bj != bj) = false := by simp
      have b2 : (bo != bo) = false := by simp
      clear h8 g8 o8 oa rt CA x0 x1 L7 V7
      go_upto_region 16 with fail
      rw [← hW8]
      clear hW8
      obtain ⟨W9, hW9⟩ : ∃ W, W = W8.alloc (.cells #[.int .i64 (1 + (j : Int) / 8), .int .i64 ((j : Int) % 8)] 36) := ⟨_, rfl⟩
      have oa : Only none_ W8 W9 := by rw [hW9]; exact (Only.refl _ _).alloc _
      have rf : Row W9 W8.heap.size 36 #[.int .i64 (1 + (j : Int) / 8), .int .i64 ((j : Int) % 8)] := by rw [hW9]; exact Row.fresh _ _ _
      have ES : W9.heap.size = W8.heap.size + 1 := by rw [hW9]; simp
      have SR := Lib.hid (show Src W9 (.slice (some ⟨W8.heap.size, 0, none⟩) 1 1) 1 (Wt.cells ⟨1 + (j : Int) / 8, (j : Int) % 8⟩) from .inr ⟨_, 1, rfl, fun i u hj => by
        rw [addL11, Nat.zero_add, rf.cell, List.getElem?_toArray]
        exact hj⟩)
      have V9 := Lib.hid (V8.out.still oa)
      have L9 := Lib.hid (L8.out.still oa)
      have ZN := Lib.hid (show c2 W9.heap.size = 0 ∧ w.heap.size ≤ W9.heap.size from ⟨Classical.byContradiction fun q => Nat.lt_irrefl _ (L9.out.lt _ q), L9.out.only.size⟩)
      have VL : ((List.range j).map wtS).length ≤ 1000 := by rw [List.length_map, List.length_range]; omega
      clear oa rf V8 L8
      go_wp2_with (at_builtin; go_loud (first | rw [← hW9] | skip); (refine wpList_append_src _ rfl (.tmp 99) (.tmp 101) 59 rfl 0 36 i0 _ 2 16 Tryz.underlying59 I0.out I1.out I2.out I3.out rfl (by decide) _ ((List.range j).map wtS).length (((List.range j).map wtS).flatMap Wt.cells) rfl V9.out _ 1 (Wt.cells ⟨1 + (j : Int) / 8, (j : Int) % 8⟩) rfl SR.out rfl (wt_one16 _) (by unfold maxLen; omega) (by omega) (Nat.zero_le _) ?_))
      intro v' w10 hown hgrow hblk
      rw [← hW9] at hgrow
      rw [← ES] at hblk
      have V10 := Lib.hid (show OwnsWt w10 0 v' ((List.range (j + 1)).map wtS) from by
        rw [List.range_succ, List.map_append, List.map_cons, List.map_nil, WV.out]
        show Owns _ _ _ _ _ _ _
        unfold Owns
        rw [List.flatMap_append, List.length_append]
        simpa using hown)
      have og := Only.of_grown hgrow
      have L10 := Lib.hid (L9.out.keepN og (fun g q => C8.out g q.symm))
      have C10 := Lib.hid (show ∀ g, v'.ownBlock = some g → c2 g = 0 ∧ w.heap.size ≤ g from fun g hg => by
        rcases hblk with q | q
        · exact C8.out g (by rw [← q]; exact hg)
        · rw [hg] at q; injection q with q; rw [q]; exact ZN.out)
      clear hown hgrow hblk og V9 L9 hW9 ES SR ZN y0 y5 y6 z0 z1 b1 b2 VL ck cj
      by_cases hjk : j = k
      · have tq : ((j : Int) == (k : Int)) = true := by simp [hjk]
        have L11 := L10.out
        rw [show bo = false from by rw [← CK.out]; exact decide_eq_false (show ¬ k < j by omega)] at L11
        have NX := jn_next L11.inv bb.1 (by show b < 20; omega) (by decide)
        have CA := lnext_some L11 (room := 8) (by decide) (congrArg (·.2) NX) (by omega) (by omega)
        rw [NX] at CA
        dsimp only [mvJ, List.length_cons, List.length_nil] at CA
        replace CA := Lib.hid CA
        have SJ := Lib.hid (show stJ (usual 20) b k (j + 1) = jnE (usual 20) b (j + 1) true from by unfold stJ; rw [if_neg (by omega), decide_eq_true (show k < j + 1 by omega)])
        have TG := Lib.hid (show (if k < j + 1 then (1 : Int) else 0) = 1 from if_pos (by omega))
        clear L11 NX hjk
        go_wp2_with fail
        (with_reducible refine CA.out.mono ?_)
        rintro e w11 ⟨u1, k1, u2, k2, u3, k3, dv, rfl, _, m11, c3, h11, g11, _, o11⟩
        obtain ⟨W11, hW11⟩ : ∃ W, W = w11.alloc (.cells #[.int .i64 1, .bool false, .int .i64 b, .int .i64 1, .slice u1 1 k1, .slice u2 0 k2, .slice u3 1 k3] 47) := ⟨_, rfl⟩
        have oa : Only none_ w11 W11 := by rw [hW11]; exact (Only.refl _ _).alloc _
        have RM := Lib.hid (show Row W11 w11.heap.size 47 #[.int .i64 1, .bool false, .int .i64 b, .int .i64 1, .slice u1 1 k1, .slice u2 0 k2, .slice u3 1 k3] from by rw [hW11]; exact Row.fresh _ _ _)
        have MK := Lib.hid (m11.ks.still oa)
        have V11 := Lib.hid ((V10.out.keep o11 (fun g hg z => z (C10.out g hg).1)).still oa)
        have C11 := Lib.hid (show ∀ g, v'.ownBlock = some g → c3 g = 0 ∧ w.heap.size ≤ g from fun g hg => ⟨g11.zero (C10.out g hg).1 (V10.out.base_le hg).2, (C10.out g hg).2⟩)
        have L11 := Lib.hid (h11.still oa)
        clear m11 h11 g11 o11 oa CA L10 V10 C10
        go_upto_region 21 with fail
        rw [← hW11]
        clear hW11
        have nr := neq_run b 1 W11
        obtain ⟨m0, m1, m2, m3, m4, m5, m6⟩ := RM.out.seven
        go_wp2_with fail
        obtain ⟨W12, hW12⟩ : ∃ W, W = W11.alloc (.cells #[.int .i64 1] 3) := ⟨_, rfl⟩
        have oa : Only none_ W11 W12 := by rw [hW12]; exact (Only.refl _ _).alloc _
        have ra := Reads.of_owns (MK.out.still oa)
        have rb : Reads W12 (.slice (some ⟨W11.heap.size, 0, none⟩) 1 1) [1] := Reads.one1 (T := 3) (by rw [hW12]; exact Row.fresh _ _ _)
        have IA := Lib.hid (ints16_yes _ _ [1] W12 ra rb (by decide))
        have O12 := Lib.hid oa
        rw [← hW12]
        clear hW12 oa ra rb m0 m1 m2 m3 m4 m5 m6 nr MK
        (with_reducible refine IA.out.mono ?_)
        rintro e w13 ⟨rfl, o13⟩
        have O13 := Lib.hid (O12.out.same o13)
        have m0 : w13.cell? ⟨w11.heap.size, 0, none⟩ = some (.int .i64 1) := (O13.out.still RM.out).cell 0
        clear o13 IA O12
        go_wp2_with fail
        go_roundw
        case rel => exact ⟨j + 1, c3, v', 1, rfl, by go_num, by omega, rfl, TG.out.symm, by rw [SJ.out]; exact (L11.out.still O13.out).up (by omega) (by omega) (by omega) (by omega), V11.out.still O13.out, C11.out⟩
        case measure => simp [intOf]; omega
      · have tq : ((j : Int) == (k : Int)) = false := by simp; omega
        have SJ := Lib.hid (show stJ (usual 20) b k (j + 1) = jnE (usual 20) b (j + 1) bo from by unfold stJ; rw [if_neg (by omega), show decide (k < j + 1) = decide (k < j) from by rw [decide_eq_decide]; omega, CK.out])
        have TG := Lib.hid (show (if k < j + 1 then (1 : Int) else 0) = if k < j then 1 else 0 from by
          by_cases q : k < j
          · rw [if_pos q, if_pos (by omega)]
          · rw [if_neg q, if_neg (by omega)])
        clear hjk
        go_wp2_with fail
        go_roundw
        case rel => exact ⟨j + 1, c2, v', tj, rfl, by go_num, by omega, rfl, by rw [TJ.out, TG.out], by rw [SJ.out]; exact L10.out.up (by omega) (by omega) (by omega) (by omega), V10.out, C10.out⟩
        case measure => simp [intOf]; omega
    · have t1 : decide (j < n) = false := decide_eq_false hlt
      obtain rfl : j = n := by omega
      have L2 := Lib.hid (show LE w wr p c (2000 * j) (4 * j) (jnE (usual 20) b j true) from by
        have q := L.out
        rw [show stJ (usual 20) b k j = jnE (usual 20) b j true from by unfold stJ; rw [if_neg (by omega), decide_eq_true kb]] at q
        exact q)
      have CA := lnext_none (ds := []) L2.out (room := 8) (by decide) (jn_idle (by decide)) (by omega) (by omega)
      rw [jn_idle1 (by decide)] at CA
      replace CA := Lib.hid CA
      clear L
      obtain rfl : tj = 1 := by rw [TJ.out, if_pos kb]
      go_wp2_with fail
      (with_reducible refine CA.out.mono ?_)
      rintro e w8 ⟨dv, rfl, _, c2, h8, g8, _, o8⟩
      obtain ⟨W8, hW8⟩ : ∃ W, W = w8.alloc (.cells #[.int .i64 0, .bool false, .int .i64 0, .int .i64 0, .slice none 0 0, .slice none 0 0, .slice none 0 0] 47) := ⟨_, rfl⟩
      have oa : Only none_ w8 W8 := by rw [hW8]; exact (Only.refl _ _).alloc _
      have V8 := Lib.hid ((V.out.keep o8 (fun g hg z => z (C.out g hg).1)).still oa)
      have C8 := Lib.hid (show ∀ g, v.ownBlock = some g → c2 g = 0 from fun g hg => g8.zero (C.out g hg).1 (V.out.base_le hg).2)
      have L8 := Lib.hid (h8.still oa)
      clear h8 g8 o8 oa CA L2 V C
      go_upto_region 25 with fail
      rw [← hW8]
      clear hW8
      obtain ⟨f1, f2, f3⟩ := jn_finish (o := usual 20) (b := b) j
      have CA := lfinish 1 true L8.out rfl (by omega)
      unfold ptrTo at CA
      rw [f1, f2, f3] at CA
      replace CA := Lib.hid CA
      clear f1 f2 f3
      go_wp2_with fail
      (with_reducible refine CA.out.mono ?_)
      rintro e w9 ⟨v9, qs9, rfl, e9, c3, h9, g9, oc9, o9⟩
      obtain ⟨gl, lc, q0, rfl, hq, fc, wc9, rd9, sa, sk, es⟩ := oc_one oc9 e9
      rw [hq] at fc rd9 es
      rw [es] at wc9 rd9
      dsimp only at fc wc9 rd9
      have lj : ((List.range j).map wtS).length = j := by rw [List.length_map, List.length_range]
      rw [lj] at wc9 rd9
      have V9 := Lib.hid (V8.out.keep o9 (fun g hg z => z (C8.out g hg)))
      have L9 := Lib.hid h9
      have FC := Lib.hid (show w9.cell? ⟨gl, 9, none⟩ = some (.int .i64 0) ∧ w9.cell? ⟨gl, 11, none⟩ = some (.slice sa j sk) from ⟨fc, wc9⟩)
      have RD := Lib.hid rd9
      have CF := lfree L9.out
      unfold ptrTo at CF
      have CF := Lib.hid (show Calls Tryz.prog 17 #[.pointer (some ⟨p, 0, none⟩)] w9 (fun e w' => e = .returned (.tuple #[.int .i64 16, .int .i64 8, .int .i64 32]) ∧ Only none_ w9 w') from CF)
      clear h9 g9 oc9 o9 e9 hq fc wc9 rd9 es CA L8 V8 C8
      go_wp2_with fail
      (with_reducible refine CF.out.mono ?_)
      rintro e w10 ⟨rfl, o10⟩
      have fc := o10.cell FC.out.1 (fun s => s)
      have wc9 := o10.cell FC.out.2 (fun s => s)
      have WL : ((List.range j).map wtS).length ≤ 1000000 := by rw [List.length_map, List.length_range]; omega
      have SM := Lib.hid ((same14_any _ _ _ _ w10 (ReadsW.still RD.out o10) (ReadsW.of_owns (V9.out.still o10)) WL WL).mono (fun e w' z => (show e = .returned (.bool true) ∧ Only none_ w10 w' from ⟨by rw [z.1, decide_eq_true rfl], z.2⟩)))
      have L10 := Lib.hid (L9.out.still o10)
      clear o10 CF V9 RD WL L9
      go_wp2_with fail
      (with_reducible refine SM.out.mono ?_)
      rintro e w11 ⟨rfl, o11⟩
      have CI := lidle b (L10.out.still o11)
      unfold ptrTo at CI
      have IB : (⟨usual 20, [], [], [], [], 1, 1⟩ : Eng).idle b = true := by
        unfold Eng.idle Eng.has
        rw [decide_eq_true (show 0 ≤ b ∧ b < (usual 20).b0 from ⟨bb.1, bb.2⟩)]
        rfl
      rw [IB] at CI
      have CI := Lib.hid CI
      have O11 := Lib.hid (L10.out.only.same o11)
      clear o11 IB SM
      go_wp2_with fail
      (with_reducible refine CI.out.mono ?_)
      rintro e w12 ⟨rfl, o12⟩
      have O12 := Lib.hid (O11.out.same o12)
      clear o12 CI
      go_wp2_with fail
      go_ret
      exact ⟨rfl, O12.out.to_below16⟩
end Go.Proofs.YtfbpjobobdidiaaGreatDoor.fetchJoins

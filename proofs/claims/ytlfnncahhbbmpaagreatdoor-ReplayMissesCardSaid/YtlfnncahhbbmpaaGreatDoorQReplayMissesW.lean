/- The walk through ReplayMisses's own text. -/
import Derived.Test.YtlfnncahhbbmpaaGreatDoorQMq19
import Derived.Test.YtlfnncahhbbmpaaGreatDoorQQ
import Derived.Lib.MinMax
import Derived.Deep.CutRange
namespace Go.Proofs.YtlfnncahhbbmpaaGreatDoor.replayMisses
open Go.ChangeShapes Go.WideShapes Go.ChangeAt Go.RowKit Go.Maps
set_option linter.unusedVariables false
set_option maxRecDepth 100000
theorem calm_policy {w1 wr : World} {p L n W : Nat} {K : Nat → Nat} {m : Mo} (h : LM w1 wr p K L (some m)) (c : Calm m n W) : Calls Tryz.prog 16 #[.pointer (some ⟨p, 0, none⟩)] wr fun E w' => ∃ a0 c0 a1 c1 a2 c2 ms, E = .returned (.agg #[.slice a0 0 c0, .slice a1 0 c1, .slice a2 0 c2, .int .i64 W, .int .u64 ms, .int .u64 0]) ∧ Only none_ wr w' := by
  refine (lm_policy h).mono ?_
  rintro E w' ⟨a0, c0, a1, c1, a2, c2, he, _, _, _, o⟩
  refine ⟨a0, c0, a1, c1, a2, c2, ((m.ca.miss : Nat) : Int), ?_, o⟩
  rw [he]
  show Ending.returned (.agg #[.slice a0 m.ca.l0.length c0, .slice a1 m.ca.l1.length c1, .slice a2 m.ca.h.length c2, .int .i64 m.ca.want, .int .u64 m.ca.miss, .int .u64 m.ca.hits]) = _
  rw [c.l0, c.l1, c.h, c.want, c.hits]
  rfl
set_option maxHeartbeats 8000000 in
theorem walk (w : World) (hb : Bd w) (a0 : Int) (wa0 : (Lit.int .u8 a0).wf = true) (A : Option Addr) (len cap : Nat) (xs : List Evn) (hmax : len ≤ maxLen) (hlen : xs.length = len) (hold : Holds w A 5 Evn.cells xs) (hwf : ∀ x ∈ xs, x.Wf) :
    Calls Tryz.prog 7 #[.int .u8 a0, .slice A len cap] w fun e w' => e = .returned (.bool true) ∧ Below w.heap.size w w' := by
  obtain ⟨p0, p1⟩ := bd_u8 wa0
  unfold maxLen at hmax
  obtain ⟨n, hn⟩ : ∃ n : Nat, 1 + a0 % 64 = (n : Int) := ⟨(1 + a0 % 64).toNat, by omega⟩
  have NB := Lib.hid (show 1 ≤ n ∧ n ≤ 64 from by omega)
  have HN := Lib.hid hn
  have HB := Lib.hid hb
  have HL := Lib.hid hlen
  have HO := Lib.hid hold
  have HW := Lib.hid hwf
  clear hb hn hlen hold hwf
  go_enter Tryz.func7, Tryz.ntmps7
  go_wp2_with fail
  (with_reducible refine (awake19_any w HB.out).mono ?_)
  rintro e w1 ⟨rfl, o1⟩
  have O1 := Lib.hid o1
  clear o1
  go_wp2_with fail
  (with_reducible refine (rusual_any 20 w1).mono ?_)
  rintro e w2 ⟨rfl, o2⟩
  obtain ⟨W3, hW3⟩ : ∃ W, W = w2.alloc (.cells #[.int .i64 20, .int .i64 8, .int .i64 2, .int .i64 16, .int .i64 8, .int .i64 4, .int .i64 4, .int .i64 3, .int .i64 8, .int .i64 32, .int .i64 4, .int .i64 8, .int .i64 16, .int .i64 4] 23) := ⟨_, rfl⟩
  unfold usual Opt.val
  dsimp only
  go_upto_region 5 with fail
  rw [← hW3]
  have o3 : Only none_ w2 W3 := by rw [hW3]; exact (Only.refl _ _).alloc _
  have r3 : Row W3 w2.heap.size 23 #[.int .i64 20, .int .i64 8, .int .i64 2, .int .i64 16, .int .i64 8, .int .i64 4, .int .i64 4, .int .i64 3, .int .i64 8, .int .i64 32, .int .i64 4, .int .i64 8, .int .i64 16, .int .i64 4] := by rw [hW3]; exact Row.fresh _ _ _
  have O3 := Lib.hid ((O1.out.same o2).same o3)
  have G7 := Lib.hid (show w.heap.size ≤ w2.heap.size from (O1.out.same o2).size)
  clear hW3 o2 o3
  generalize w2.heap.size = g7 at *
  have R3 := Lib.hid r3
  have c1 : W3.cell? ⟨g7, 1, none⟩ = some (.int .i64 8) := r3.cell 1
  have c2 : W3.cell? ⟨g7, 2, none⟩ = some (.int .i64 2) := r3.cell 2
  have f5 := r3.frozen
  have lg := r3.lt
  clear r3
  go_upto_region 7 with fail
  rw [HN.out]
  obtain ⟨W5, hW5⟩ : ∃ W, W = (W3.setCell ⟨g7, 1, none⟩ (.int .i64 n)).setCell ⟨g7, 2, none⟩ (.int .i64 1) := ⟨_, rfl⟩
  have r5 : Row W5 g7 23 (opt19 20 n).cells := by rw [hW5]; exact (R3.out.put 1 _).put 2 _
  have o5 : Only (fun k => k = g7) W3 W5 := by rw [hW5]; exact ((Only.refl (fun k => k = g7) W3).into rfl _ _).into rfl _ _
  have O5 := Lib.hid (show Only none_ w W5 from O3.out.trans o5 (fun i hi e => by have e1 : i = g7 := e; have := G7.out; omega))
  rw [← hW5]
  have NW := lm_new (opt19 20 n) W5 (HB.out.still O5.out) (opt19_may ⟨by decide, by decide⟩ (by have := NB.out; omega))
  unfold opt19 Opt.val at NW
  unfold opt19 Opt.cells at r5
  dsimp only at NW r5
  have NW := Lib.hid NW
  have R5 := Lib.hid r5
  clear hW5 o5 r5 R3 c1 c2 f5 lg O3
  go_wp2_with (first | (refine wpList_load_row rfl 23 _ rfl g7 rfl 23 _ (0, 0) _ R5.out Tryz.underlying23 rfl info_opt ?_) | fail)
  (with_reducible refine NW.out.mono ?_)
  rintro E w6 ⟨p, K, rfl, l6⟩
  have L6 := Lib.hid (show LM W5 w6 p K 0 (some (newMo (opt19 20 n))) from l6)
  clear l6 NW R5
  go_wp2_with fail
  go_loopw [9, 10, 11, 12] (fun v9 i _ _ wr => ∃ (j W : Nat) (m : Mo) (K : Nat → Nat), j ≤ len ∧ j ≤ 200 ∧ i = .int .i64 j ∧ v9 = .int .i64 W ∧ LM W5 wr p K j (some m) ∧ Calm m n W) (fun _ i _ _ _ => len - (intOf i).toNat)
  case atStart => exact ⟨0, 0, _, K, Nat.zero_le _, Nat.zero_le _, rfl, rfl, L6.out, calm_new 20 n⟩
  case round =>
    obtain ⟨j, W, m, K, hj, hj2, rfl, rfl, lm, cm⟩ := hrel
    have LL := Lib.hid lm
    have CC := Lib.hid cm
    have WW := Lib.hid (O5.out.same lm.only)
    have wn := cm.le
    clear lm cm L6
    have t12 : (j < len ∧ j < 200) ∨ (j < len ∧ 200 ≤ j) ∨ len ≤ j := by omega
    rcases t12 with ⟨q1, q2⟩ | q1
    · obtain ⟨e, he⟩ : ∃ e, xs[j]? = some e := ⟨_, List.getElem?_eq_getElem (by rw [HL.out]; exact q1)⟩
      obtain ⟨sb, so, hA, hsb, k0, k1, k2, k3, k4⟩ := ev_at HO.out WW.out he
      subst hA
      have KW := Lib.hid (HW.out e (List.mem_of_getElem? he))
      have NB1 := NB.out.1
      have NB2 := NB.out.2
      obtain ⟨ek, eb, el, en, es⟩ := e
      dsimp only at k0 k1 k2 k3 k4
      have HE := Lib.hid he
      clear he hsb
      by_cases kk : ek = 3 ∨ ek = 1 ∨ ek = 9 ∨ ek = 10 ∨ ek = 11
      · have CN := Lib.hid (fun m' (hm : stepO (some m) ⟨ek, eb, el, en, es⟩ = some m') => (show Calm m' n (calmW W n ⟨ek, eb, el, en, es⟩) from by
          unfold stepO at hm
          dsimp only at hm
          split at hm
          · rw [← Option.some.inj hm]; exact calm_next CC.out kk
          · cases hm))
        have ST := Lib.hid (lm_step ⟨ek, eb, el, en, es⟩ KW.out LL.out (by omega))
        rcases kk with rfl | rfl | rfl | rfl | rfl
        · go_wp2_with fail
          (with_reducible refine ST.out.mono ?_)
          rintro E w7 ⟨rfl, K7, l7, _, _⟩
          have L7 := Lib.hid l7
          clear l7
          cases hs : stepO (some m) ⟨3, eb, el, en, es⟩ with
          | none =>
            rw [hs] at L7
            have BK := Lib.hid (lm_broken L7.out)
            have OF := Lib.hid (O5.out.same L7.out.only)
            clear hs
            unfold codeO
            go_wp2_with fail
            (with_reducible refine BK.out.mono ?_)
            rintro E w8 ⟨rfl, rfl⟩
            go_wp2_with fail
            go_ret
            exact ⟨rfl, OF.out.to_below8⟩
          | some m' =>
            rw [hs] at L7
            have C7 := Lib.hid (CN.out m' hs)
            have OF := Lib.hid (O5.out.same L7.out.only)
            have PO := Lib.hid (calm_policy L7.out C7.out)
            obtain ⟨sb', so', hA', _, _, _, j2, _, _⟩ := ev_at (i := j) HO.out OF.out (a := ⟨3, eb, el, en, es⟩) HE.out
            injection hA' with hA1
            injection hA1 with hA2 hA3
            subst hA2 hA3
            clear hs
            unfold codeO
            by_cases hl : el = 0
            · have eW : calmW W n ⟨3, eb, el, en, es⟩ = min (W + 1) n := by unfold calmW; rw [if_pos ⟨rfl, hl⟩]
              rw [eW] at C7 PO
              have d0 : (el == 0) = true := by simp [hl]
              have mn : (min ((W : Int) + 1) (n : Int)) = ((min (W + 1) n : Nat) : Int) := by omega
              clear eW hl
              go_wp2_with fail
              (with_reducible refine PO.out.mono ?_)
              rintro E w8 ⟨a0', c0', a1', c1', a2', c2', ms, rfl, o8⟩
              have L8 := Lib.hid (L7.out.still (o8.alloc (.cells #[.slice a0' 0 c0', .slice a1' 0 c1', .slice a2' 0 c2', .int .i64 (min (W + 1) n : Nat), .int .u64 ms, .int .u64 0] 49)))
              have nn : (((min (W + 1) n : Nat) : Int) != ((min (W + 1) n : Nat) : Int)) = false := by simp
              clear o8
              go_wp2_with fail
              go_roundw
              case rel => exact ⟨j + 1, (min (W + 1) n : Nat), m', K7, by omega, by omega, by go_num, by first | rfl | (go_num; done) | (simp; omega), L8.out, C7.out⟩
              case measure => simp [intOf]; omega
            · have eW : calmW W n ⟨3, eb, el, en, es⟩ = W := by unfold calmW; rw [if_neg (fun q => hl q.2)]
              rw [eW] at C7 PO
              have d0 : (el == 0) = false := by simp [hl]
              clear eW hl
              go_wp2_with fail
              (with_reducible refine PO.out.mono ?_)
              rintro E w8 ⟨a0', c0', a1', c1', a2', c2', ms, rfl, o8⟩
              have L8 := Lib.hid (L7.out.still (o8.alloc (.cells #[.slice a0' 0 c0', .slice a1' 0 c1', .slice a2' 0 c2', .int .i64 W, .int .u64 ms, .int .u64 0] 49)))
              have nn : ((W : Int) != (W : Int)) = false := by simp
              clear o8
              go_wp2_with fail
              go_roundw
              case rel => exact ⟨j + 1, W, m', K7, by omega, by omega, by go_num, by first | rfl | (go_num; done) | (simp; omega), L8.out, C7.out⟩
              case measure => simp [intOf]; omega
        · go_wp2_with fail
          (with_reducible refine ST.out.mono ?_)
          rintro E w7 ⟨rfl, K7, l7, _, _⟩
          have L7 := Lib.hid l7
          clear l7
          cases hs : stepO (some m) ⟨1, eb, el, en, es⟩ with
          | none =>
            rw [hs] at L7
            have BK := Lib.hid (lm_broken L7.out)
            have OF := Lib.hid (O5.out.same L7.out.only)
            clear hs
            unfold codeO
            go_wp2_with fail
            (with_reducible refine BK.out.mono ?_)
            rintro E w8 ⟨rfl, rfl⟩
            go_wp2_with fail
            go_ret
            exact ⟨rfl, OF.out.to_below8⟩
          | some m' =>
            rw [hs] at L7
            have C7 := Lib.hid (CN.out m' hs)
            have OF := Lib.hid (O5.out.same L7.out.only)
            have PO := Lib.hid (calm_policy L7.out C7.out)
            obtain ⟨sb', so', hA', _, _, _, j2, _, _⟩ := ev_at (i := j) HO.out OF.out (a := ⟨1, eb, el, en, es⟩) HE.out
            injection hA' with hA1
            injection hA1 with hA2 hA3
            subst hA2 hA3
            clear hs
            unfold codeO
            have eW : calmW W n ⟨1, eb, el, en, es⟩ = W := by unfold calmW; rw [if_neg (fun q => by have q1 := q.1; dsimp only at q1; omega)]
            rw [eW] at C7 PO
            clear eW
            go_wp2_with fail
            (with_reducible refine PO.out.mono ?_)
            rintro E w8 ⟨a0', c0', a1', c1', a2', c2', ms, rfl, o8⟩
            have L8 := Lib.hid (L7.out.still (o8.alloc (.cells #[.slice a0' 0 c0', .slice a1' 0 c1', .slice a2' 0 c2', .int .i64 W, .int .u64 ms, .int .u64 0] 49)))
            have nn : ((W : Int) != (W : Int)) = false := by simp
            clear o8
            go_wp2_with fail
            go_roundw
            case rel => exact ⟨j + 1, W, m', K7, by omega, by omega, by go_num, by first | rfl | (go_num; done) | (simp; omega), L8.out, C7.out⟩
            case measure => simp [intOf]; omega
        · go_wp2_with fail
          (with_reducible refine ST.out.mono ?_)
          rintro E w7 ⟨rfl, K7, l7, _, _⟩
          have L7 := Lib.hid l7
          clear l7
          cases hs : stepO (some m) ⟨9, eb, el, en, es⟩ with
          | none =>
            rw [hs] at L7
            have BK := Lib.hid (lm_broken L7.out)
            have OF := Lib.hid (O5.out.same L7.out.only)
            clear hs
            unfold codeO
            go_wp2_with fail
            (with_reducible refine BK.out.mono ?_)
            rintro E w8 ⟨rfl, rfl⟩
            go_wp2_with fail
            go_ret
            exact ⟨rfl, OF.out.to_below8⟩
          | some m' =>
            rw [hs] at L7
            have C7 := Lib.hid (CN.out m' hs)
            have OF := Lib.hid (O5.out.same L7.out.only)
            have PO := Lib.hid (calm_policy L7.out C7.out)
            obtain ⟨sb', so', hA', _, _, _, j2, _, _⟩ := ev_at (i := j) HO.out OF.out (a := ⟨9, eb, el, en, es⟩) HE.out
            injection hA' with hA1
            injection hA1 with hA2 hA3
            subst hA2 hA3
            clear hs
            unfold codeO
            have eW : calmW W n ⟨9, eb, el, en, es⟩ = W := by unfold calmW; rw [if_neg (fun q => by have q1 := q.1; dsimp only at q1; omega)]
            rw [eW] at C7 PO
            clear eW
            go_wp2_with fail
            (with_reducible refine PO.out.mono ?_)
            rintro E w8 ⟨a0', c0', a1', c1', a2', c2', ms, rfl, o8⟩
            have L8 := Lib.hid (L7.out.still (o8.alloc (.cells #[.slice a0' 0 c0', .slice a1' 0 c1', .slice a2' 0 c2', .int .i64 W, .int .u64 ms, .int .u64 0] 49)))
            have nn : ((W : Int) != (W : Int)) = false := by simp
            clear o8
            go_wp2_with fail
            go_roundw
            case rel => exact ⟨j + 1, W, m', K7, by omega, by omega, by go_num, by first | rfl | (go_num; done) | (simp; omega), L8.out, C7.out⟩
            case measure => simp [intOf]; omega
        · go_wp2_with fail
          (with_reducible refine ST.out.mono ?_)
          rintro E w7 ⟨rfl, K7, l7, _, _⟩
          have L7 := Lib.hid l7
          clear l7
          cases hs : stepO (some m) ⟨10, eb, el, en, es⟩ with
          | none =>
            rw [hs] at L7
            have BK := Lib.hid (lm_broken L7.out)
            have OF := Lib.hid (O5.out.same L7.out.only)
            clear hs
            unfold codeO
            go_wp2_with fail
            (with_reducible refine BK.out.mono ?_)
            rintro E w8 ⟨rfl, rfl⟩
            go_wp2_with fail
            go_ret
            exact ⟨rfl, OF.out.to_below8⟩
          | some m' =>
            rw [hs] at L7
            have C7 := Lib.hid (CN.out m' hs)
            have OF := Lib.hid (O5.out.same L7.out.only)
            have PO := Lib.hid (calm_policy L7.out C7.out)
            obtain ⟨sb', so', hA', _, _, _, j2, _, _⟩ := ev_at (i := j) HO.out OF.out (a := ⟨10, eb, el, en, es⟩) HE.out
            injection hA' with hA1
            injection hA1 with hA2 hA3
            subst hA2 hA3
            clear hs
            unfold codeO
            have eW : calmW W n ⟨10, eb, el, en, es⟩ = W := by unfold calmW; rw [if_neg (fun q => by have q1 := q.1; dsimp only at q1; omega)]
            rw [eW] at C7 PO
            clear eW
            go_wp2_with fail
            (with_reducible refine PO.out.mono ?_)
            rintro E w8 ⟨a0', c0', a1', c1', a2', c2', ms, rfl, o8⟩
            have L8 := Lib.hid (L7.out.still (o8.alloc (.cells #[.slice a0' 0 c0', .slice a1' 0 c1', .slice a2' 0 c2', .int .i64 W, .int .u64 ms, .int .u64 0] 49)))
            have nn : ((W : Int) != (W : Int)) = false := by simp
            clear o8
            go_wp2_with fail
            go_roundw
            case rel => exact ⟨j + 1, W, m', K7, by omega, by omega, by go_num, by first | rfl | (go_num; done) | (simp; omega), L8.out, C7.out⟩
            case measure => simp [intOf]; omega
        · go_wp2_with fail
          (with_reducible refine ST.out.mono ?_)
          rintro E w7 ⟨rfl, K7, l7, _, _⟩
          have L7 := Lib.hid l7
          clear l7
          cases hs : stepO (some m) ⟨11, eb, el, en, es⟩ with
          | none =>
            rw [hs] at L7
            have BK := Lib.hid (lm_broken L7.out)
            have OF := Lib.hid (O5.out.same L7.out.only)
            clear hs
            unfold codeO
            go_wp2_with fail
            (with_reducible refine BK.out.mono ?_)
            rintro E w8 ⟨rfl, rfl⟩
            go_wp2_with fail
            go_ret
            exact ⟨rfl, OF.out.to_below8⟩
          | some m' =>
            rw [hs] at L7
            have C7 := Lib.hid (CN.out m' hs)
            have OF := Lib.hid (O5.out.same L7.out.only)
            have PO := Lib.hid (calm_policy L7.out C7.out)
            obtain ⟨sb', so', hA', _, _, _, j2, _, _⟩ := ev_at (i := j) HO.out OF.out (a := ⟨11, eb, el, en, es⟩) HE.out
            injection hA' with hA1
            injection hA1 with hA2 hA3
            subst hA2 hA3
            clear hs
            unfold codeO
            have eW : calmW W n ⟨11, eb, el, en, es⟩ = W := by unfold calmW; rw [if_neg (fun q => by have q1 := q.1; dsimp only at q1; omega)]
            rw [eW] at C7 PO
            clear eW
            go_wp2_with fail
            (with_reducible refine PO.out.mono ?_)
            rintro E w8 ⟨a0', c0', a1', c1', a2', c2', ms, rfl, o8⟩
            have L8 := Lib.hid (L7.out.still (o8.alloc (.cells #[.slice a0' 0 c0', .slice a1' 0 c1', .slice a2' 0 c2', .int .i64 W, .int .u64 ms, .int .u64 0] 49)))
            have nn : ((W : Int) != (W : Int)) = false := by simp
            clear o8
            go_wp2_with fail
            go_roundw
            case rel => exact ⟨j + 1, W, m', K7, by omega, by omega, by go_num, by first | rfl | (go_num; done) | (simp; omega), L8.out, C7.out⟩
            case measure => simp [intOf]; omega
      · have b3 : (ek != 3) = true := by simp; omega
        have b1 : (ek != 1) = true := by simp; omega
        have b9 : (ek != 9) = true := by simp; omega
        have b10 : (ek != 10) = true := by simp; omega
        have b11 : (ek != 11) = true := by simp; omega
        clear kk
        go_wp2_with fail
        go_roundw
        case rel => exact ⟨j + 1, W, m, K, by omega, by omega, by go_num, rfl, LL.out.up (Nat.le_succ j), CC.out⟩
        case measure => simp [intOf]; omega
    · rcases q1 with ⟨q1, q2⟩ | q1
      all_goals
        go_wp2_with fail
        go_ret
        exact ⟨rfl, WW.out.to_below8⟩
end Go.Proofs.YtlfnncahhbbmpaaGreatDoor.replayMisses

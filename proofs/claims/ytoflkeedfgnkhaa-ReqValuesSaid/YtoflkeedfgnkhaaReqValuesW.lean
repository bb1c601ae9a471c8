/- The walk through ReqValues's own text. -/
import Derived.WalkKit
import Derived.ProofKit
import Derived.OpenShut
import Derived.Below
import Derived.Test.YtoflkeedfgnkhaaArgs
import Derived.Test.YtoflkeedfgnkhaaAw17
import Derived.Test.YtoflkeedfgnkhaaPk17
import Derived.Deep.RegionHeld3
import Derived.Deep.Cut
import Derived.Deep.CutRange
import Derived.Deep.CutBlock
import Derived.Deep.DeepCutAuto
import Derived.Test.YtoflkeedfgnkhaaVa17
import Derived.Lib.MinMax
namespace Go.Proofs.Ytoflkeedfgnkhaa.reqValues
open Go.ChangeShapes Go.WideShapes Go.ChangeAt Go.RowKit
set_option linter.unusedVariables false


set_option maxHeartbeats 4000000 in
set_option maxRecDepth 100000 in
theorem walk (w : World) (a0 : U8) (wa0 : True) (a1 : Int) (w1 : (Lit.int .u8 a1).wf = true) (a2 : Int) (w2 : (Lit.int .u8 a2).wf = true) :
    Calls Try.prog 7 #[a0.val, .int .u8 a1, .int .u8 a2] w fun e w' => e = .returned (.bool true) ∧ Below w.heap.size w w' := by
  obtain ⟨nb, rfl⟩ := Int.eq_ofNat_of_zero_le (bd_u8 w1).1
  obtain ⟨fb, rfl⟩ := Int.eq_ofNat_of_zero_le (bd_u8 w2).1
  have hb1 := (bd_u8 w1).2
  have hb2 := (bd_u8 w2).2
  obtain ⟨n, hn⟩ : ∃ n : Nat, 1 + nb % 8 = n := ⟨_, rfl⟩
  obtain ⟨A, hA⟩ : ∃ n : Nat, fb % 8 = n := ⟨_, rfl⟩
  obtain ⟨B, hB⟩ : ∃ n : Nat, fb / 8 % 4 = n := ⟨_, rfl⟩
  have n1 : 1 ≤ n := by omega
  have n8 : n ≤ 8 := by omega
  have A8 : A < 8 := by omega
  have B4 : B < 4 := by omega
  have FX := Lib.hid (fun i (hi : i < 8) => by
    have := facts17 ⟨A, A8⟩ ⟨B, B4⟩ ⟨n - 1, by omega⟩ ⟨i, hi⟩
    simp only [show n - 1 + 1 = n from by omega] at this
    exact this)
  have HN := Lib.hid (show 1 + (nb : Int) % 8 = (n : Int) from by omega)
  have HA_ := Lib.hid (show (fb : Int) % 8 = (A : Int) from by omega)
  have HB_ := Lib.hid (show (fb : Int) / 8 % 4 = (B : Int) from by omega)
  have ST := Lib.hid (stV_start a0.f A (2 * B + 1) n n1 n8)
  clear hn hA hB wa0
  unfold U8.val U8.cells
  go_enter Try.func7, Try.ntmps7
  obtain ⟨W0, hW0⟩ : ∃ W, W = w.alloc (.cells a0.cells 55) := ⟨_, rfl⟩
  have oz : Only none_ w W0 := by rw [hW0]; exact (Only.refl _ _).alloc _
  have RV := Lib.hid (show Row W0 w.heap.size 55 a0.cells from by rw [hW0]; exact Row.fresh _ _ _)
  have OZ := Lib.hid oz
  unfold U8.cells at hW0
  clear oz
  go_upto_region 1 with fail
  first | rw [← hW0] | skip
  clear hW0
  have G9 := Lib.hid (show w.heap.size < W0.heap.size from RV.out.lt)
  go_wp2_with fail
  (with_reducible refine (awake17_any _).mono ?_)
  rintro e w1 ⟨rfl, o1⟩
  have O1 := Lib.hid (OZ.out.same o1)
  have R1 := Lib.hid (o1.still RV.out)
  clear o1
  go_wp2_with fail
  (with_reducible refine (new_one17 w1).mono ?_)
  rintro e w2 ⟨p, rfl, h⟩
  have R2 := Lib.hid (h.2.still R1.out)
  obtain ⟨c1, hm, hnw⟩ := LT.start O1.out h
  have H2 := Lib.hid hm
  have C9 := Lib.hid (show c1 w.heap.size = 0 from Classical.byContradiction fun q => by have := hnw _ q; have := R1.out.lt; omega)
  clear h hm hnw O1 RV R1 OZ
  generalize w.heap.size = g9 at R2 C9
  have CO := lopen 3 1 n H2.out rfl
  rw [ST.out.2.1, ST.out.2.2.1] at CO
  have CO := Lib.hid CO
  go_upto_region 5 with fail
  rw [HN.out]
  go_wp2_with fail
  (with_reducible refine CO.out.mono ?_)
  rintro e w3 ⟨rfl, c3, h3, g3, o3⟩
  have H3 := Lib.hid h3
  have R3 := Lib.hid (o3.row R2.out (fun q => q C9.out))
  have C3 := Lib.hid (show c3 g9 = 0 from Classical.byContradiction fun q => by
    rcases g3 g9 q with z | z
    · exact z C9.out
    · have := R2.out.lt; omega)
  clear h3 g3 o3 CO C9 R2 H2
  go_upto_region 8 with fail
  rw [HA_.out]
  obtain ⟨W4, hW4⟩ : ∃ W, W = w3.alloc (.cells #[.int .i64 1, .int .i64 3, .int .i64 5, .int .i64 7] 3) := ⟨_, rfl⟩
  have o4 : Only none_ w3 W4 := by rw [hW4]; exact (Only.refl _ _).alloc _
  have r4 : Row W4 w3.heap.size 3 #[.int .i64 1, .int .i64 3, .int .i64 5, .int .i64 7] := by rw [hW4]; exact Row.fresh _ _ _
  obtain ⟨b, hb⟩ : ∃ b : Nat, b = 2 * B + 1 := ⟨_, rfl⟩
  have q4 : W4.cell? ⟨w3.heap.size, B, none⟩ = some (.int .i64 (b : Int)) := by
    rw [r4.cell, hb]
    have : B = 0 ∨ B = 1 ∨ B = 2 ∨ B = 3 := by omega
    rcases this with rfl | rfl | rfl | rfl <;> rfl
  rw [hW4] at q4
  have b7 : b ≤ 7 := by omega
  rw [← hb] at FX ST
  have H4 := Lib.hid (H3.out.still o4)
  have R4 := Lib.hid (o4.still R3.out)
  clear o4 r4 H3 R3 hb
  have hB_ := HB_.out
  go_upto_region 9 with fail
  rw [← hW4]
  clear hW4 q4 hB_
  have S4 := Lib.hid (show LT w W4 p c3 1 1 (stV a0.f A b n 0) from by rw [ST.out.1]; exact H4.out)
  clear H4
  go_wp2_with fail
  go_loopw [12, 13] (fun sl si wr => ∃ (i : Nat) (c : Nat → Nat), i ≤ 8 ∧ si = .int .i64 i ∧ sl = .int .i64 (leftV A b n i) ∧ LT w wr p c 1 (1 + i) (stV a0.f A b n i) ∧ c g9 = 0 ∧ Row wr g9 55 a0.cells) (fun _ si _ => 8 - (intOf si).toNat)
  case atStart => exact ⟨0, c3, Nat.zero_le _, rfl, by rw [ST.out.2.2.2], S4.out, C3.out, R4.out⟩
  case round =>
    obtain ⟨i, c, hi, rfl, rfl, hd, hc, hr⟩ := hrel
    have H := Lib.hid hd
    have C9 := Lib.hid hc
    have R := Lib.hid hr
    clear hd hc hr S4 C3 R4
    by_cases hlt : i < 8
    · have t1 : decide ((i : Int) < 8) = true := decide_eq_true (by omega)
      have t2 : decide (i < 8) = true := decide_eq_true hlt
      obtain ⟨f1, f2, f3⟩ := FX.out i hlt
      obtain ⟨K, hK⟩ : ∃ K, kkV A b i = K := ⟨_, rfl⟩
      have K8 : K < 8 := by rw [← hK]; exact kkV_lt _ _ _
      have P1 : i * b ≤ 49 := by have := Nat.mul_le_mul (show i ≤ 7 by omega) b7; omega
      obtain ⟨P, hP⟩ : ∃ P, i * b = P := ⟨_, rfl⟩
      have HP := Lib.hid (show (i : Int) * (b : Int) = (P : Int) from by rw [← hP]; simp)
      have HK := Lib.hid (show ((A : Int) + (P : Int)) % 8 = (K : Int) from by
        rw [← hK, ← hP]; unfold kkV; omega)
      have P49 : P ≤ 49 := by omega
      have KK := Lib.hid hK
      have LB := Lib.hid (show leftV A b n i ≤ 8 from by
        unfold leftV
        have := List.length_filter_le (fun j => !givV A b i j) (List.range n)
        rw [List.length_range] at this
        omega)
      have dk : wr.cell? ⟨g9, K, none⟩ = some (.int .u64 (a0.f K)) := by rw [R.out.cell]; exact a0.get K8
      have CG := lgive 3 K (a0.f K) H.out rfl (by omega)
      have F1 := Lib.hid f1
      clear hK hP P1 f1
      have hP := HP.out
      go_upto_region 14 with fail
      first | rw [HK.out] | skip
      clear hP
      by_cases hkn : K < n
      · have t3 : decide ((n : Int) ≤ (K : Int)) = false := decide_eq_false (by omega)
        have t4 : decide (n ≤ K) = false := decide_eq_false (by omega)
        rw [KK.out] at F1 f3
        rw [if_pos hkn] at f3
        have SI := step_in a0.f (a := A) (b := b) (n := n) (i := i) (by rw [KK.out]; exact F1.out) (by rw [KK.out]; exact hkn) (by omega)
        rw [KK.out] at SI
        rw [SI.1, SI.2] at CG
        have CG := Lib.hid CG
        have TC := Lib.hid (stV_touched a0.f (a := A) (b := b) (n := n) (i := i) (by rw [KK.out]; exact hkn))
        have LN := Lib.hid (stV_len a0.f A b n (i + 1))
        obtain ⟨l, hl⟩ : ∃ l, leftV A b n (i + 1) = l := ⟨_, rfl⟩
        rw [hl] at f3 TC LN
        have v1 : IntKind.i64.wrap (((l + 1 : Nat) : Int) - 1) = (l : Int) := by have := LB.out; rw [IntKind.wrap_i64]; omega
        have HL := Lib.hid hl
        have F3 := Lib.hid f3
        rw [f3]
        have lb8 : l ≤ 8 := by have := LB.out; omega
        clear hl f3 SI F1
        go_wp2_with fail
        (with_reducible refine CG.out.mono ?_)
        rintro e w4 ⟨rfl, c', h4, g4, o4⟩
        have H4 := Lib.hid h4
        have R4 := Lib.hid (o4.row R.out (fun q => q C9.out))
        have C4 := Lib.hid (show c' g9 = 0 from Classical.byContradiction fun q => by
          rcases g4 g9 q with z | z
          · exact z C9.out
          · have := R.out.lt; omega)
        have PE := Lib.hid (lpending h4)
        have TO := Lib.hid (fun w' (o : Only none_ w4 w') => ltouched 3 (h4.still o) rfl)
        rw [TC.out] at TO
        have m1 : (((min l 1 : Nat) : Int) != min (l : Int) 1) = false := by simp; omega
        clear h4 g4 o4 CG
        go_wp2_with fail
        (with_reducible refine PE.out.mono ?_)
        rintro e w5 ⟨v5, rfl, hv5, o5⟩
        obtain ⟨vf, vg, hve⟩ := owns_form hv5
        rw [sortI_len, List.length_map, LN.out] at hve
        subst hve
        have O5 := Lib.hid o5
        have H5 := Lib.hid (H4.out.still o5)
        clear hv5 o5 PE
        by_cases z : l = 0
        · have d1 : decide (0 < l) = false := decide_eq_false (by omega)
          have d2 : decide ((0 : Int) < (l : Int)) = false := decide_eq_false (by omega)
          rw [d1] at TO
          clear z
          go_wp2_with fail
          (with_reducible refine (TO.out w5 O5.out).mono ?_)
          rintro e w6 ⟨rfl, o6⟩
          have H6 := Lib.hid (H5.out.still o6)
          have R6 := Lib.hid (o6.still (O5.out.still R4.out))
          clear o6
          go_wp2_with fail
          go_roundw
          case rel => exact ⟨i + 1, c', by omega, by go_num, by rw [HL.out] <;> go_num, H6.out, C4.out, R6.out⟩
          case measure => simp [intOf]; omega
        · have z1 : 0 < l := by omega
          have d1 : decide (0 < l) = true := decide_eq_true z1
          have d2 : decide ((0 : Int) < (l : Int)) = true := decide_eq_true (by omega)
          rw [d1] at TO
          go_wp2_with fail
          (with_reducible refine (TO.out w5 O5.out).mono ?_)
          rintro e w6 ⟨rfl, o6⟩
          have H6 := Lib.hid (H5.out.still o6)
          have R6 := Lib.hid (o6.still (O5.out.still R4.out))
          clear o6
          go_wp2_with fail
          go_roundw
          case rel => exact ⟨i + 1, c', by omega, by go_num, by rw [HL.out] <;> go_num, H6.out, C4.out, R6.out⟩
          case measure => simp [intOf]; omega
      · have t3 : decide ((n : Int) ≤ (K : Int)) = true := decide_eq_true (by omega)
        have t4 : decide (n ≤ K) = true := decide_eq_true (by omega)
        rw [KK.out, if_neg hkn] at f3
        have SI := step_out a0.f (a := A) (b := b) (n := n) (i := i) (by rw [KK.out]; exact hkn) f3
        rw [KK.out] at SI
        rw [SI.1, SI.2] at CG
        obtain ⟨l, hl⟩ : ∃ l, leftV A b n i = l := ⟨_, rfl⟩
        rw [hl] at f3 CG
        rw [hl]
        have F3 := Lib.hid f3
        have lb8 : l ≤ 8 := by have := LB.out; omega
        clear hl f3 SI F1
        by_cases z : l = 0
        · subst z
          rw [if_pos rfl] at CG
          have CG := Lib.hid CG
          go_wp2_with fail
          (with_reducible refine CG.out.mono ?_)
          rintro e w4 ⟨rfl, c', h4, g4, o4⟩
          have H4 := Lib.hid h4
          have R4 := Lib.hid (o4.row R.out (fun q => q C9.out))
          have C4 := Lib.hid (show c' g9 = 0 from Classical.byContradiction fun q => by
            rcases g4 g9 q with z | z
            · exact z C9.out
            · have := R.out.lt; omega)
          clear h4 g4 o4 CG
          go_wp2_with fail
          go_roundw
          case rel => exact ⟨i + 1, c', by omega, by go_num, by rw [← F3.out] <;> rfl, H4.out, C4.out, R4.out⟩
          case measure => simp [intOf]; omega
        · have z1 : 0 < l := by omega
          have d1 : decide (0 < l) = true := decide_eq_true z1
          have d2 : decide ((0 : Int) < (l : Int)) = true := decide_eq_true (by omega)
          have d3 : ((l : Int) == 0) = false := by rw [beq_eq_false_iff_ne]; omega
          rw [if_neg z] at CG
          have CG := Lib.hid CG
          go_wp2_with fail
          (with_reducible refine CG.out.mono ?_)
          rintro e w4 ⟨rfl, c', h4, g4, o4⟩
          have H4 := Lib.hid h4
          have R4 := Lib.hid (o4.row R.out (fun q => q C9.out))
          have C4 := Lib.hid (show c' g9 = 0 from Classical.byContradiction fun q => by
            rcases g4 g9 q with z | z
            · exact z C9.out
            · have := R.out.lt; omega)
          clear h4 g4 o4 CG
          go_wp2_with fail
          go_roundw
          case rel => exact ⟨i + 1, c', by omega, by go_num, by rw [← F3.out] <;> rfl, H4.out, C4.out, R4.out⟩
          case measure => simp [intOf]; omega
    · have t1 : decide ((i : Int) < 8) = false := decide_eq_false (by omega)
      have t2 : decide (i < 8) = false := decide_eq_false hlt
      have i8 : i = 8 := by omega
      have e8 : stV a0.f A b n i = ⟨[], [⟨3, 0, (List.range n).map a0.f⟩]⟩ := by
        unfold stV
        rw [i8, if_pos (FX.out 0 (by decide)).2.1]
      rw [e8] at H
      obtain ⟨LS, hLS⟩ : ∃ l, l = (List.range n).map a0.f := ⟨_, rfl⟩
      rw [← hLS] at H
      have LL := Lib.hid (show LS.length = n from by rw [hLS, List.length_map, List.length_range])
      have VL := Lib.hid (fun (w' : World) (h : Row w' g9 55 a0.cells) => show VR w' (fun _ => True) (.slice (some ⟨g9, 0, none⟩) n 8) LS from ⟨_, 8, by rw [LL.out], fun q x hx => ⟨g9, 0, rfl, trivial, by
        rw [hLS, List.getElem?_map] at hx
        have hq : q < n := by
          rcases Nat.lt_or_ge q n with z | z
          · exact z
          · rw [List.getElem?_eq_none (by rw [List.length_range]; omega)] at hx; cases hx
        rw [List.getElem?_range hq] at hx
        injection hx with hx
        rw [Nat.zero_add, h.cell, a0.get (by omega), ← hx]⟩⟩)
      have AL := Lib.hid (fun (w' : World) (g : Nat) (h : Row w' g9 55 a0.cells) (k : Row w' g 49 #[.int .i64 3, .int .i64 0, .slice (some ⟨g9, 0, none⟩) n 8]) => show AR w' (fun _ => True) (.slice (some ⟨g, 0, none⟩) 1 1) [⟨3, 0, LS⟩] from
        AR.row (ks := [⟨3, 0, .slice (some ⟨g9, 0, none⟩) n 8⟩]) (ns := [⟨3, 0, LS⟩]) k ((KeptAt.nil w' _).push (a := ⟨3, 0, .slice (some ⟨g9, 0, none⟩) n 8⟩) (n := ⟨3, 0, LS⟩) ⟨rfl, rfl, VL.out w' h⟩))
      have AN := Lib.hid (fun (w' : World) (v u : Value) (G : Nat → Prop) (hv : AR w' G v [⟨3, 0, LS⟩]) (hu : AR w' (fun _ => True) u [⟨3, 0, LS⟩]) => show Calls Try.prog 19 #[v, u] w' (fun e w'' => e = .returned (.bool true) ∧ Only none_ w' w'') from by
        have := answers_any v u [⟨3, 0, LS⟩] [⟨3, 0, LS⟩] _ _ w' hv hu (by show 1 ≤ 1000000; decide) (by show 1 ≤ 1000000; decide) (fun m hm => by rw [List.mem_singleton.1 hm]; show LS.length ≤ 1000000; have := LL.out; omega) (fun m hm => by rw [List.mem_singleton.1 hm]; show LS.length ≤ 1000000; have := LL.out; omega)
        rwa [decide_eq_true rfl] at this)
      have SA := fun w => slice8 ⟨g9, 0, none⟩ n n8 w
      have TKA := Lib.hid (ltake (H.out.still (Only.refl none_ wr).drew))
      have TKB := Lib.hid (ltake (H.out.still (((Only.refl none_ wr).alloc (.cells #[.int .i64 3, .int .i64 0, .slice (some ⟨g9, 0, none⟩) n 8] 49)).drew)))
      have OB := Lib.hid (((Only.refl none_ wr).alloc (.cells #[.int .i64 3, .int .i64 0, .slice (some ⟨g9, 0, none⟩) n 8] 49)).drew)
      have CN := Lib.hid (show c wr.heap.size = 0 from Classical.byContradiction fun q => by have := H.out.lt _ q; omega)
      have RB := Lib.hid ((Row.fresh wr 49 #[.int .i64 3, .int .i64 0, .slice (some ⟨g9, 0, none⟩) n 8]).drew)
      clear e8 hLS i8
      go_upto_region 21 with fail
      go_region_with (first
        | (go_at_call 20; (with_reducible refine TKA.out.mono ?_); rintro e w6 ⟨v6, rfl, c6, h6, hv6, _, o6⟩; obtain ⟨va, vc, hve⟩ := hv6.len; change v6 = .slice va 1 vc at hve; subst hve; have r6 := o6.row (((Only.refl none_ wr).drew).still R.out) (fun q => q C9.out); have o7 := (Only.refl none_ w6).alloc (.cells #[.int .i64 3, .int .i64 0, .slice (some ⟨g9, 0, none⟩) n 8] 49); have ANA := Lib.hid (AN.out _ _ _ _ (hv6.still o7) (AL.out _ _ (o7.still r6) (Row.fresh _ _ _))); have HX := Lib.hid (h6.still o7); clear hv6 o6 r6 o7 h6)
        | (go_at_call 20; (with_reducible refine TKB.out.mono ?_); rintro e w6 ⟨v6, rfl, c6, h6, hv6, _, o6⟩; obtain ⟨va, vc, hve⟩ := hv6.len; change v6 = .slice va 1 vc at hve; subst hve; have r6 := o6.row (OB.out.still R.out) (fun q => q C9.out); have l6 := o6.row RB.out (fun q => q CN.out); have ANB := Lib.hid (AN.out _ _ _ _ hv6 (AL.out _ _ r6 l6)); have HX := Lib.hid h6; clear hv6 o6 r6 l6 h6)
        | (go_at_call 19; (with_reducible refine ANA.out.mono ?_); rintro e w8 ⟨rfl, o8⟩)
        | (go_at_call 19; (with_reducible refine ANB.out.mono ?_); rintro e w8 ⟨rfl, o8⟩)
        | fail)
      all_goals
        have HY := Lib.hid (HX.out.still o8)
        clear o8
        go_wp2_with fail
        go_ret
        exact ⟨rfl, HY.out.only.to_below17⟩



end Go.Proofs.Ytoflkeedfgnkhaa.reqValues

/- Proved: the statement GaugeOrders of layer 2, for every two gauges and every row of gauges, on no condition. -/
import Derived.Test.YthknbmjobllonaaRows
import Derived.WalkKit
import Derived.ProofKit
import Derived.OpenShut
import Derived.Below
import Derived.ChangeSlices
import Derived.Test.YthknbmjobllonaaFawake
namespace Go.Proofs.Ythknbmjobllonaa.gaugeOrders
open Go.ChangeShapes Go.WideShapes Go.ChangeAt Go.RowKit Fl
set_option linter.unusedVariables false

theorem own : ownKnob Try.prog.godebug = none := by kernel_rfl
theorem laidOut : laidOutB Try.prog = true := by kernel_rfl
theorem cellsU : Try.prog.cellsOf 22 = 1 := by kernel_rfl

theorem side_flip (x y : Int) : Fl.side y x = - Fl.side x y := by unfold Fl.side; split <;> split <;> (try split) <;> omega
theorem side_in (x y : Int) : -1 ≤ Fl.side x y ∧ Fl.side x y ≤ 1 := by unfold Fl.side; split <;> (try split) <;> omega
theorem side_le {x y : Int} : Fl.side x y ≤ 0 ↔ x ≤ y := by unfold Fl.side; split <;> (try split) <;> omega

theorem cmp_same (x y : Nat) (w : World) : Calls Try.prog 11 #[.int .u64 x, .int .u64 y] w fun e w' => e = .returned (.int .i64 (Fl.side (key x) (key y))) ∧ w' = w :=
  (cmp_any x y w).mono fun _ _ ⟨h1, h2⟩ => ⟨h1, h2.symm⟩

theorem Drew.below {B : Nat} {w w' : World} (h : Drew w w') : Below B w w' := by
  obtain ⟨n, rfl⟩ := h; exact below_drewN (Below.refl _ _) n

set_option maxHeartbeats 2000000 in
theorem some_any (a b : Nat) (ha : a < 18446744073709551616) (hb : b < 18446744073709551616) (bk off len cap : Nat) (ns : List Nat) (w : World) (hz : len ≤ ns.length) (h0 : 0 < len) (h100 : len ≤ 100) (hc : Lies w bk off ns) (hlt : bk < w.heap.size) (hn : ∀ n ∈ ns, n < 18446744073709551616) :
    Calls Try.prog 3 #[.int .u64 a, .int .u64 b, .slice (some ⟨bk, off, none⟩) len cap] w fun e w' => e = .returned (.bool true) ∧ Below w.heap.size w w' := by
  have hbig : len ≤ 9223372036854775807 := by omega
  have HBA := Lib.hid (fun w hc => best_any bk off len cap ns w hz hbig h0 hc)
  have HBR := Lib.hid (fun w hc => best_ref bk off len cap ns w hz hbig h0 hc hn)
  have C1 := Lib.hid (cmp_any a b)
  have C2 := Lib.hid (cmp_ref a b ha hb)
  have C3 := cmp_any b a
  rw [side_flip] at C3
  have C3 := Lib.hid C3
  have HM := Lib.hid (bst_most (keys ns) len)
  have hbl := bst_lt' (keys ns) len h0
  have HC := Lib.hid hc
  obtain ⟨l1, l2⟩ := side_in (key a) (key b)
  have SL := Lib.hid (@side_le (key a) (key b))
  have ST := Lib.hid (rfl : Fl.side (key a) (key b) = Fl.side (key a) (key b))
  clear hc hn
  generalize bst (keys ns) len = i at *
  go_enter Try.func3, Try.ntmps3
  go_wp2_with fail
  (with_reducible refine (awake_any _).mono ?_)
  rintro e w1 ⟨rfl, hb1⟩
  have H1 := Lib.hid hb1
  clear hb1
  have L1 := Lib.hid (show Lies w1 bk off ns from fun j hj => (H1.out.cell (p := ⟨bk, off + j, none⟩) hlt).trans (HC.out j hj))
  go_wp2_with fail
  (with_reducible refine (HBA.out _ L1.out).mono ?_)
  rintro e w' ⟨rfl, rfl⟩
  go_wp2_with fail
  (with_reducible refine (HBR.out _ L1.out).mono ?_)
  rintro e w2 ⟨rfl, hd2⟩
  have L2 := Lib.hid (show Lies w2 bk off ns from fun j hj => (hd2.cell _).trans (L1.out j hj))
  have H2 := Lib.hid (H1.out.trans (Drew.below hd2))
  clear hd2 H1 L1
  go_wp2_with fail
  (with_reducible refine (C1.out _).mono ?_)
  rintro e w' ⟨rfl, rfl⟩
  go_wp2_with fail
  (with_reducible refine (C2.out _).mono ?_)
  rintro e w' ⟨rfl, rfl⟩
  go_wp2_with fail
  (with_reducible refine (C1.out _).mono ?_)
  rintro e w' ⟨rfl, rfl⟩
  go_wp2_with fail
  (with_reducible refine (C3.out _).mono ?_)
  rintro e w' ⟨rfl, rfl⟩
  go_wp2
  go_loopw [11] (fun i wr => ∃ j : Nat, j ≤ len ∧ i = .int .i64 j ∧ Drew w2 wr) (fun i _ => len - (intOf i).toNat)
  case atStart => exact ⟨0, Nat.zero_le _, rfl, Drew.refl _⟩
  case round =>
    obtain ⟨j, hj, rfl, hd⟩ := hrel
    have HD := Lib.hid hd
    clear hd
    by_cases hl : j < len
    · have c1 := (HD.out.cell _).trans (L2.out j (by omega))
      have c2 := (HD.out.cell _).trans (L2.out i (by omega))
      have m := HM.out j hl
      have t1 : decide ((0 : Int) < Fl.side (key (ns.getD j 0)) (key (ns.getD i 0))) = false := by
        rw [decide_eq_false_iff_not]
        have := side_le.2 (show key (ns.getD j 0) ≤ key (ns.getD i 0) from m)
        omega
      clear m
      generalize ns.getD j 0 = x at *
      generalize ns.getD i 0 = y at *
      by_cases g : key a ≤ key b
      · have t2 : decide (Fl.side (key a) (key b) ≤ 0) = true := by rw [decide_eq_true_eq]; exact side_le.2 g
        by_cases g2 : key b ≤ key x
        · have t3 : decide (Fl.side (key b) (key x) ≤ 0) = true := by rw [decide_eq_true_eq]; exact side_le.2 g2
          have t4 : decide ((0 : Int) < Fl.side (key a) (key x)) = false := by
            rw [decide_eq_false_iff_not]
            have := side_le.2 (show key a ≤ key x by omega)
            omega
          clear g g2
          go_wp2
          go_quiet ((go_at_call 11; exact Calls.quiet_of_same (cmp_same _ _ _)))
          go_wp2
          exact ⟨⟨j + 1, by omega, by go_num, HD.out.more _⟩, by simp [intOf]; omega⟩
        · have t3 : decide (Fl.side (key b) (key x) ≤ 0) = false := by
            rw [decide_eq_false_iff_not]; intro k; exact g2 (side_le.1 k)
          clear g g2
          go_wp2
          go_quiet ((go_at_call 11; exact Calls.quiet_of_same (cmp_same _ _ _)))
          go_wp2
          exact ⟨⟨j + 1, by omega, by go_num, HD.out.more _⟩, by simp [intOf]; omega⟩
      · have t2 : decide (Fl.side (key a) (key b) ≤ 0) = false := by
          rw [decide_eq_false_iff_not]; intro k; exact g (side_le.1 k)
        clear g
        go_wp2
        go_quiet ((go_at_call 11; exact Calls.quiet_of_same (cmp_same _ _ _)))
        go_wp2
        exact ⟨⟨j + 1, by omega, by go_num, HD.out.more _⟩, by simp [intOf]; omega⟩
    · go_wp2
      go_ret
      exact ⟨rfl, H2.out.trans (Drew.below HD.out)⟩

set_option maxHeartbeats 1000000 in
theorem none_any (a b : Nat) (ha : a < 18446744073709551616) (hb : b < 18446744073709551616) (ad : Option Addr) (cap : Nat) (w : World) :
    Calls Try.prog 3 #[.int .u64 a, .int .u64 b, .slice ad 0 cap] w fun e w' => e = .returned (.bool true) ∧ Below w.heap.size w w' := by
  have C1 := Lib.hid (cmp_any a b)
  have C2 := Lib.hid (cmp_ref a b ha hb)
  have C3 := cmp_any b a
  rw [side_flip] at C3
  have C3 := Lib.hid C3
  obtain ⟨l1, l2⟩ := side_in (key a) (key b)
  generalize Fl.side (key a) (key b) = s at *
  go_enter Try.func3, Try.ntmps3
  go_wp2_with fail
  (with_reducible refine (awake_any _).mono ?_)
  rintro e w1 ⟨rfl, hb1⟩
  have H1 := Lib.hid hb1
  clear hb1
  go_wp2_with fail
  (with_reducible refine (best_empty _ _ _).mono ?_)
  rintro e w' ⟨rfl, rfl⟩
  go_wp2_with fail
  (with_reducible refine (best_ref_empty _ _ _).mono ?_)
  rintro e w2 ⟨rfl, hd2⟩
  have H2 := Lib.hid (H1.out.trans (Drew.below hd2))
  clear hd2 H1
  go_wp2_with fail
  (with_reducible refine (C1.out _).mono ?_)
  rintro e w' ⟨rfl, rfl⟩
  go_wp2_with fail
  (with_reducible refine (C2.out _).mono ?_)
  rintro e w' ⟨rfl, rfl⟩
  go_wp2_with fail
  (with_reducible refine (C1.out _).mono ?_)
  rintro e w' ⟨rfl, rfl⟩
  go_wp2_with fail
  (with_reducible refine (C3.out _).mono ?_)
  rintro e w' ⟨rfl, rfl⟩
  go_wp2
  go_loopw [11] (fun i wr => i = .int .i64 0 ∧ Drew w2 wr) (fun _ _ => 0)
  case atStart => exact ⟨rfl, Drew.refl _⟩
  case round =>
    obtain ⟨rfl, hd⟩ := hrel
    have HD := Lib.hid hd
    clear hd
    go_wp2
    go_ret
    exact ⟨rfl, H2.out.trans (Drew.below HD.out)⟩

theorem long_any (a b : Nat) (ad : Option Addr) (len cap : Nat) (h : 100 < len) (hbig : len ≤ 9223372036854775807) (w : World) :
    Calls Try.prog 3 #[.int .u64 a, .int .u64 b, .slice ad len cap] w fun e w' => e = .returned (.bool true) ∧ Below w.heap.size w w' := by
  have t : decide ((100 : Int) < (len : Int)) = true := by rw [decide_eq_true_eq]; omega
  go_enter Try.func3, Try.ntmps3
  go_wp2_with fail
  (with_reducible refine (awake_any _).mono ?_)
  rintro e w1 ⟨rfl, hb1⟩
  have H1 := Lib.hid hb1
  clear hb1
  go_wp2_with fail
  go_ret
  exact ⟨rfl, H1.out⟩

theorem walk (a b : Int) (wa : (Lit.int .u64 a).wf = true) (wb : (Lit.int .u64 b).wf = true) (ad : Addr) (len cap : Nat) (zs : List Int) (w : World) (hm : cap ≤ maxLen) (hl : len ≤ cap) (hz : zs.length = cap)
    (hcell : ∀ i, i < zs.length → w.cell? (ad.add i) = some (.int .u64 (zs.getD i 0))) (hwz : ∀ n ∈ zs, (Lit.int .u64 n).wf = true) (hlt : 0 < cap → ad.block < w.heap.size) :
    Calls Try.prog 3 #[.int .u64 a, .int .u64 b, .slice (some ad) len cap] w fun e w' => e = .returned (.bool true) ∧ Below w.heap.size w w' := by
  obtain ⟨la, ua⟩ := bounds_u64 wa
  obtain ⟨lb, ub⟩ := bounds_u64 wb
  obtain ⟨a, rfl⟩ := Int.eq_ofNat_of_zero_le la
  obtain ⟨b, rfl⟩ := Int.eq_ofNat_of_zero_le lb
  by_cases h0 : len = 0
  · subst h0
    exact none_any a b (by omega) (by omega) _ _ w
  · by_cases h100 : 100 < len
    · exact long_any a b _ len cap h100 (by unfold maxLen at hm; omega) w
    · obtain ⟨bk, off, spot⟩ := ad
      have hspot : spot = none := by simpa [Addr.add] using World.cell?_spot (hcell 0 (by omega))
      subst hspot
      have nn : ∀ n ∈ zs, 0 ≤ n ∧ n ≤ 18446744073709551615 := fun n h => bounds_u64 (hwz n h)
      have lies : Lies w bk off (zs.map Int.toNat) := by
        intro j hj
        rw [List.length_map] at hj
        have h := hcell j hj
        rw [add_plain] at h
        rw [h]
        have e1 : zs.getD j 0 = zs[j] := by simp [List.getD, hj]
        have e2 : (zs.map Int.toNat).getD j 0 = zs[j].toNat := by simp [List.getD, hj]
        have := nn zs[j] (List.getElem_mem hj)
        rw [e1, e2]
        congr 2
        omega
      refine some_any a b (by omega) (by omega) bk off len cap (zs.map Int.toNat) w (by rw [List.length_map]; omega) (by omega) (by omega) lies (hlt (by omega)) ?_
      intro n hn
      obtain ⟨z, hz', rfl⟩ := List.mem_map.1 hn
      have := nn z hz'
      omega

set_option maxRecDepth 100000 in
theorem lifted (os : Os) (started : os.Started) (H : Type) (enc : TypeId × Value → H) :
    ReturnsInHanded {} Try.checked os 3 .any (Rows.gaugeOrdersSpec.pre6 enc Try.prog Try.f3 Rows.gaugeOrdersRow.domain false) (Rows.gaugeOrdersSpec.post enc Try.prog Try.f3 false true false false) := by
  refine returnsInHanded_of_change (C := Try.checked) own started (by kernel_rfl) Try.func3
    (ChangeSpec.witness6 (enc := enc) (C := Try.checked) false ⟨#[], #[.int .u64 0, .int .u64 0, .slice none 0 0], []⟩ 8 (by kernel_rfl) (by kernel_rfl) (by kernel_rfl) (by kernel_rfl)) ?_
  intro W base args ds gs before hval0 hW hcnd _
  have hval : ∀ (j : Nat) t v, Try.f3.params[j]? = some t → args[j]? = some v → Value.okWide Try.prog W .any base t v := hval0
  have hW' := hW
  obtain ⟨p, q, hA0, hV, rfl, hfz, hnd⟩ := hW
  have hA : DataW.TrodAll enc Try.prog W 0 (fun _ => true) true Try.f3.params.toList args.toList ds p := hA0
  rw [Try.params3] at hA hval
  obtain ⟨v0, vs0, d0, ds0, p0, q0, hargs, rfl, rfl, h0, r0⟩ := trodAll_cons hA
  obtain ⟨v1, vs1, d1, ds1, p1, q1, rfl, rfl, rfl, h1, r1⟩ := trodAll_cons r0
  obtain ⟨v2, vs2, d2, ds2, p2, q2, rfl, rfl, rfl, h2, r2⟩ := trodAll_cons r1
  obtain ⟨rfl, rfl, rfl⟩ := trodAll_nil r2
  obtain rfl : args = #[v0, v1, v2] := by cases args; simp_all
  obtain ⟨rfl, rfl⟩ := trodVars_none hV
  obtain ⟨a, rfl, rfl, rfl, wa⟩ := open_int Try.underlying22 (hval 0 22 v0 rfl rfl) h0
  obtain ⟨b, rfl, rfl, rfl, wb⟩ := open_int Try.underlying22 (hval 1 22 v1 rfl rfl) h1
  have k2 := h2
  have lt2 : ∀ x ∈ p2, x.block < W.heap.size := by obtain ⟨m, hm⟩ := k2; exact DataW.trod_lt m _ _ _ hm
  obtain ⟨ad, len, cap, rfl⟩ := okWide_slice Try.underlying23 (hval 2 23 v2 rfl rfl)
  have shut : ∀ W', Below W.heap.size W W' → DataW.TrodAll enc Try.prog W' 0 (fun b => decide (b < W.heap.size)) true [22, 22, 23] [.int .u64 a, .int .u64 b, .slice ad len cap] [.lit (.int .u64 a), .lit (.int .u64 b), d2] ([] ++ ([] ++ (p2 ++ []))) := fun W' bel =>
    trodAll_cons_mk (shut_int Try.underlying22 wa) (trodAll_cons_mk (shut_int Try.underlying22 wb) (trodAll_cons_mk (Below.trod laidOut (by kernel_rfl) (of_decide_eq_true (by kernel_rfl)) k2 bel lt2) trodAll_mk0))
  obtain ⟨fuel, hf⟩ := h2
  clear hA0 hval0
  have fin : Calls Try.prog 3 #[.int .u64 a, .int .u64 b, .slice ad len cap] W fun e w' => e = .returned (.bool true) ∧ Below W.heap.size W w' := by
    rcases open_ints Try.underlying23 Try.underlying22 cellsU hf with ⟨hcs, hx⟩ | ⟨x, len', cap', zs, hcs, _, hl, hm, hz, hx, hcell, hwz⟩
    · simp [Value.cells] at hcs
      obtain ⟨rfl, rfl, rfl⟩ := hcs
      obtain ⟨la, ua⟩ := bounds_u64 wa
      obtain ⟨lb, ub⟩ := bounds_u64 wb
      obtain ⟨a, rfl⟩ := Int.eq_ofNat_of_zero_le la
      obtain ⟨b, rfl⟩ := Int.eq_ofNat_of_zero_le lb
      exact none_any a b (by omega) (by omega) none 0 W
    · simp [Value.cells] at hcs
      obtain ⟨rfl, rfl, rfl⟩ := hcs
      simp only [if_true] at hz
      simp only [Prod.mk.injEq] at hx
      obtain ⟨_, rfl⟩ := hx
      refine walk a b wa wb x len cap zs W hm hl hz hcell hwz fun hc => ?_
      exact lt2 (.cell x.block x.off) (MemPlace.mem_row.2 ⟨0, by omega, by simp⟩)
  refine fin.mono fun e W' ⟨he, bel⟩ => ?_
  subst he
  exact ⟨_, rfl, _, _, _, [], _, [], hW', trodAll_mk1 (shut_bool Try.underlying4 _), shut W' bel, rfl, bel.frame _, fun h => by cases h⟩

theorem over : Rows.gaugeOrdersRow.holds Try.pinned (OpenSpec.ofChange Rows.gaugeOrdersSpec) :=
  OpenClaim.holds_of_wide 3 Try.f3 rfl rfl rfl rfl rfl rfl rfl ⟨rfl, rfl, rfl, rfl, rfl⟩ rfl rfl rfl rfl rfl (by kernel_rfl) Try.func3 (by kernel_rfl)
    (of_decide_eq_true (by kernel_rfl)) (by unfold Func.isWrapper; first | (rw [if_pos (by decide +kernel)]; kernel_rfl) | (rw [if_neg (by decide +kernel)]; exact ⟨rfl, rfl⟩))
    (fun os started H enc _ => lifted os started H enc)

theorem gaugeOrders_holds : Rows.GaugeOrdersSaid := over
#print axioms gaugeOrders_holds
end Go.Proofs.Ythknbmjobllonaa.gaugeOrders

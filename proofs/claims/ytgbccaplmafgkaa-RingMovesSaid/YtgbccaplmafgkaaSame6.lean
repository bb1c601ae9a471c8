/- Whether a shelf tells all that the document's own says. -/
import Derived.Test.YtgbccaplmafgkaaBoth6
namespace Go.Proofs.Ytgbccaplmafgkaa
open Go.RowKit
set_option linter.unusedVariables false

theorem listOf_no {s : Sh} {k : Int} (h0 : k ≠ 0) (h1 : k ≠ 1) : s.listOf k = [] := by
  unfold Sh.listOf
  have : hasL k = false := by unfold hasL; simp; omega
  rw [this]
  rfl
theorem revL_listOf (s : Sh) (k : Int) : (s.revL k).length = (s.listOf k).length := by
  rw [← rev_revL, List.length_reverse]

theorem as_only {w w' : World} (h : Below w.heap.size w w') : Only none_ w w' := ⟨h.os, h.tape, h.output, h.size, fun k hk _ => h.block k hk⟩

set_option maxHeartbeats 8000000 in
set_option maxRecDepth 100000 in
theorem same_any (p b q hb base : Nat) (s : Sh) (w : World) (h : Both w p b q hb base s s) :
    Calls Try.prog 13 #[.pointer (some ⟨p, 0, none⟩), .pointer (some ⟨q, 0, none⟩)] w fun e w' => e = .returned (.bool true) ∧ Below w.heap.size w w' := by
  have HB := Lib.hid h
  have n64 := h.one.fine.n64
  have FF := Lib.hid h.one.fine
  clear h
  go_enter Try.func13, Try.ntmps13
  go_wp2_with fail
  go_loopw [5] (fun v wr => ∃ K : Int, -1 ≤ K ∧ K ≤ 3 ∧ v = .int .i64 K ∧ Below w.heap.size w wr) (fun v _ => (3 - intOf v).toNat)
  case atStart => exact ⟨-1, by decide, by decide, rfl, Below.refl _ _⟩
  case round =>
    obtain ⟨K, k1, k2, rfl, bl⟩ := hrel
    have B := Lib.hid bl
    have HW := Lib.hid (show Both wr p b q hb base s s from
      ⟨HB.out.one.on bl, HB.out.two.still (as_only bl), HB.out.pq, HB.out.ph, HB.out.bq, HB.out.bh, HB.out.bb⟩)
    clear bl
    by_cases hlt : K < 3
    · have L1 := Lib.hid ((callsIn_wide (n := 5)).1 (last_in p b s K wr HW.out.one))
      have R1 := Lib.hid (fun w' o => last_ref q hb base s K w' (HW.out.two.still o))
      have le64 := revL_len FF.out K
      have LS := Lib.hid (fun w' (o : Only none_ wr w') => list_any p b s K w' (HW.out.one.still o))
      have LN := Lib.hid (fun w' (o : Only none_ wr w') => (callsIn_wide (n := 5)).1 (len_in p b s K w' (HW.out.one.still o)))
      obtain ⟨x0, b0, e0⟩ : ∃ (x0 : Nat) (b0 : Bool), lastV (s.lastOk K) = .tuple #[.int .i64 x0, .bool b0] := ⟨_, _, rfl⟩
      rw [e0] at L1
      simp only [e0] at R1
      clear e0
      have RL := Lib.hid (revL_listOf s K)
      by_cases K0 : K = 0
      · subst K0
        have ne1 : ((x0 : Int) != (x0 : Int)) = false := by simp
        have ne2 : (b0 != b0) = false := by simp
        go_wp2_with fail
        (with_reducible refine (L1.out).mono ?_)
        rintro e w1 ⟨rfl, o1⟩
        have O1 := Lib.hid (as_only o1)
        clear o1
        go_wp2_with fail
        (with_reducible refine (R1.out _ O1.out).mono ?_)
        rintro e w2 ⟨rfl, o2⟩
        have O2 := Lib.hid (O1.out.same o2)
        clear o2 O1 R1 L1
        obtain ⟨v, cv, ov⟩ := (HW.out.two.still O2.out).listAt (k := 0) (by decide)
        obtain ⟨av, kv, rfl, _⟩ := Reads.of_owns ov
        rw [ints_len] at cv ov
        have OV := Lib.hid (show OwnsInts w2 base (.slice av (s.listOf 0).length kv) (ints (s.listOf 0)) from ov)
        replace cv : w2.cell? ⟨q, 2 + 0, none⟩ = some (.slice av (s.listOf 0).length kv) := cv
        clear ov
        have LS2 := Lib.hid (LS.out _ O2.out)
        go_wp2_with fail
        (with_reducible refine (LS2.out).mono ?_)
        rintro e w3 ⟨v3, rfl, hv3, o3⟩
        have O3 := Lib.hid (O2.out.same (as_only o3))
        have IN := Lib.hid (ints_any v3 (.slice av (s.listOf 0).length kv) _ _ w3 (Reads.of_owns hv3) (Reads.of_owns (OV.out.still (as_only o3))) (by rw [ints_len]; exact Nat.le_trans (listOf_len FF.out _) (by decide)) (by rw [ints_len]; exact Nat.le_trans (listOf_len FF.out _) (by decide)))
        have IT := Lib.hid (show decide (ints (s.listOf 0) = ints (s.listOf 0)) = true by simp)
        rw [IT.out] at IN
        clear o3 hv3 LS2
        go_wp2_with fail
        (with_reducible refine (IN.out).mono ?_)
        rintro e w4 ⟨rfl, o4⟩
        have O4 := Lib.hid (O3.out.same o4)
        have LN2 := LN.out _ O4.out
        rw [RL.out] at LN2
        have LN2 := Lib.hid LN2
        have B0 := B
        clear o4 O3
        rw [RL.out] at le64
        have ne3 : (((s.listOf 0).length : Int) != ((s.listOf 0).length : Int)) = false := by simp
        go_wp2_with fail
        (with_reducible refine (LN2.out).mono ?_)
        rintro e w5 ⟨rfl, o5⟩
        have B5 := Lib.hid (below_on B0.out (O4.out.same (as_only o5)).to_below)
        clear o5
        go_wp2_with fail
        go_roundw
        case rel => exact ⟨0 + 1, by omega, by omega, by go_num, B5.out⟩
        case measure => simp [intOf]
      · by_cases K1 : K = 1
        · subst K1
          have ne1 : ((x0 : Int) != (x0 : Int)) = false := by simp
          have ne2 : (b0 != b0) = false := by simp
          go_wp2_with fail
          (with_reducible refine (L1.out).mono ?_)
          rintro e w1 ⟨rfl, o1⟩
          have O1 := Lib.hid (as_only o1)
          clear o1
          go_wp2_with fail
          (with_reducible refine (R1.out _ O1.out).mono ?_)
          rintro e w2 ⟨rfl, o2⟩
          have O2 := Lib.hid (O1.out.same o2)
          clear o2 O1 R1 L1
          obtain ⟨v, cv, ov⟩ := (HW.out.two.still O2.out).listAt (k := 1) (by decide)
          obtain ⟨av, kv, rfl, _⟩ := Reads.of_owns ov
          rw [ints_len] at cv ov
          have OV := Lib.hid (show OwnsInts w2 base (.slice av (s.listOf 1).length kv) (ints (s.listOf 1)) from ov)
          replace cv : w2.cell? ⟨q, 2 + 1, none⟩ = some (.slice av (s.listOf 1).length kv) := cv
          clear ov
          have LS2 := Lib.hid (LS.out _ O2.out)
          go_wp2_with fail
          (with_reducible refine (LS2.out).mono ?_)
          rintro e w3 ⟨v3, rfl, hv3, o3⟩
          have O3 := Lib.hid (O2.out.same (as_only o3))
          have IN := Lib.hid (ints_any v3 (.slice av (s.listOf 1).length kv) _ _ w3 (Reads.of_owns hv3) (Reads.of_owns (OV.out.still (as_only o3))) (by rw [ints_len]; exact Nat.le_trans (listOf_len FF.out _) (by decide)) (by rw [ints_len]; exact Nat.le_trans (listOf_len FF.out _) (by decide)))
          have IT := Lib.hid (show decide (ints (s.listOf 1) = ints (s.listOf 1)) = true by simp)
          rw [IT.out] at IN
          clear o3 hv3 LS2
          go_wp2_with fail
          (with_reducible refine (IN.out).mono ?_)
          rintro e w4 ⟨rfl, o4⟩
          have O4 := Lib.hid (O3.out.same o4)
          have LN2 := LN.out _ O4.out
          rw [RL.out] at LN2
          have LN2 := Lib.hid LN2
          have B0 := B
          clear o4 O3
          rw [RL.out] at le64
          have ne3 : (((s.listOf 1).length : Int) != ((s.listOf 1).length : Int)) = false := by simp
          go_wp2_with fail
          (with_reducible refine (LN2.out).mono ?_)
          rintro e w5 ⟨rfl, o5⟩
          have B5 := Lib.hid (below_on B0.out (O4.out.same (as_only o5)).to_below)
          clear o5
          go_wp2_with fail
          go_roundw
          case rel => exact ⟨1 + 1, by omega, by omega, by go_num, B5.out⟩
          case measure => simp [intOf]
        · have t0 : (K == 0) = false := by simpa using K0
          have t1 : (K == 1) = false := by simpa using K1
          have LO := Lib.hid (show ints (s.listOf K) = [] by rw [listOf_no K0 K1]; rfl)
          have ne1 : ((x0 : Int) != (x0 : Int)) = false := by simp
          have ne2 : (b0 != b0) = false := by simp
          go_wp2_with fail
          (with_reducible refine (L1.out).mono ?_)
          rintro e w1 ⟨rfl, o1⟩
          have O1 := Lib.hid (as_only o1)
          clear o1
          go_wp2_with fail
          (with_reducible refine (R1.out _ O1.out).mono ?_)
          rintro e w2 ⟨rfl, o2⟩
          have O2 := Lib.hid (O1.out.same o2)
          clear o2 O1 R1 L1
          have LS2 := Lib.hid (LS.out _ O2.out)
          go_wp2_with fail
          (with_reducible refine (LS2.out).mono ?_)
          rintro e w3 ⟨v3, rfl, hv3, o3⟩
          have O3 := Lib.hid (O2.out.same (as_only o3))
          have IN := Lib.hid (ints_any v3 (.slice none 0 0) _ _ w3 (Reads.of_owns hv3) (LO.out.symm ▸ Reads.of_owns (Owns.start w3 base 3 1 one)) (by rw [ints_len]; exact Nat.le_trans (listOf_len FF.out _) (by decide)) (by rw [ints_len]; exact Nat.le_trans (listOf_len FF.out _) (by decide)))
          have IT := Lib.hid (show decide (ints (s.listOf K) = ints (s.listOf K)) = true by simp)
          rw [IT.out] at IN
          clear o3 hv3 LS2
          go_wp2_with fail
          (with_reducible refine (IN.out).mono ?_)
          rintro e w4 ⟨rfl, o4⟩
          have O4 := Lib.hid (O3.out.same o4)
          have LN2 := LN.out _ O4.out
          rw [RL.out, listOf_no K0 K1, show ((([] : List Nat).length : Nat) : Int) = 0 from rfl] at LN2
          have LN2 := Lib.hid LN2
          have B0 := B
          clear o4 O3
          rw [RL.out] at le64
          have ne3 : (((s.listOf K).length : Int) != ((s.listOf K).length : Int)) = false := by simp
          go_wp2_with fail
          (with_reducible refine (LN2.out).mono ?_)
          rintro e w5 ⟨rfl, o5⟩
          have B5 := Lib.hid (below_on B0.out (O4.out.same (as_only o5)).to_below)
          clear o5
          go_wp2_with fail
          go_roundw
          case rel => exact ⟨K + 1, by omega, by omega, by go_num, B5.out⟩
          case measure => simp [intOf]; omega
    · have e3 : K = 3 := by omega
      subst e3
      clear k1 k2 hlt
      go_wp2_with fail
      go_loopw [11] (fun v wx => ∃ k : Nat, k ≤ s.n + 2 ∧ v = .int .i64 ((k : Int) - 1) ∧ Below w.heap.size w wx) (fun v _ => (s.n + 1 - intOf v).toNat)
      case atStart => exact ⟨0, by omega, rfl, B.out⟩
      case round =>
        obtain ⟨k, hk, rfl, bl⟩ := hrel
        clear B HW
        have B := Lib.hid bl
        have HW := Lib.hid (show Both wr p b q hb base s s from
          ⟨HB.out.one.on bl, HB.out.two.still (as_only bl), HB.out.pq, HB.out.ph, HB.out.bq, HB.out.bh, HB.out.bb⟩)
        have cn : wr.cell? ⟨q, 0, none⟩ = some (.int .i64 s.n) := by
          obtain ⟨f, ⟨v0, v1, r, o0, o1⟩, _⟩ := HW.out.two
          rw [r.cell]; rfl
        clear bl
        by_cases hlt : k < s.n + 2
        · have t : decide ((k : Int) - 1 ≤ (s.n : Int)) = true := by simp; omega
          have W1 := Lib.hid (where_any p b s ((k : Int) - 1) wr HW.out.one)
          have W2 := Lib.hid (fun w' o => where_ref q hb base s ((k : Int) - 1) w' (HW.out.two.still o))
          obtain ⟨x0, b0, b1, e0⟩ : ∃ (x0 : Int) (b0 b1 : Bool), s.whereV ((k : Int) - 1) = .tuple #[.int .i64 x0, .bool b0, .bool b1] := by
            unfold Sh.whereV
            split <;> exact ⟨_, _, _, rfl⟩
          rw [e0] at W1
          simp only [e0] at W2
          clear e0
          have ne1 : (x0 != x0) = false := by simp
          have ne2 : (b0 != b0) = false := by simp
          have ne3 : (b1 != b1) = false := by simp
          have wk : IntKind.i64.wrap ((k : Int) - 1 + 1) = (k : Int) := by rw [IntKind.wrap_i64]; omega
          go_wp2_with fail
          (with_reducible refine (W1.out).mono ?_)
          rintro e w1 ⟨rfl, o1⟩
          have O1 := Lib.hid (as_only o1)
          clear o1
          go_wp2_with fail
          (with_reducible refine (W2.out _ O1.out).mono ?_)
          rintro e w2 ⟨rfl, o2⟩
          have B2 := Lib.hid (below_on B.out (O1.out.same o2).to_below)
          clear o2 cn
          go_wp2_with fail
          go_roundw
          case rel => exact ⟨k + 1, by omega, by go_num, B2.out⟩
          case measure => simp [intOf]; omega
        · have hk2 : k = s.n + 2 := by omega
          subst hk2
          have t : decide (((s.n + 2 : Nat) : Int) - 1 ≤ (s.n : Int)) = false := by simp; omega
          have HE := Lib.hid (held_any p b s wr HW.out.one)
          have HR := Lib.hid (fun w' o => held_ref q hb base s w' (HW.out.two.still o))
          go_wp2_with fail
          (with_reducible refine (HE.out).mono ?_)
          rintro e w1 ⟨v1, rfl, hv1, o1⟩
          have O1 := Lib.hid (as_only o1)
          have V1 := Lib.hid hv1
          clear hv1 o1
          go_wp2_with fail
          (with_reducible refine (HR.out _ O1.out).mono ?_)
          rintro e w2 ⟨v2, rfl, hv2, o2⟩
          have B2 := Lib.hid (below_on B.out (O1.out.same o2).to_below)
          have IN := Lib.hid (ints_any v1 v2 _ _ w2 (Reads.of_owns (V1.out.still o2)) (Reads.of_owns hv2) (by rw [ints_len]; exact Nat.le_trans (List.length_filter_le _ _) (by simp; omega)) (by rw [ints_len]; exact Nat.le_trans (List.length_filter_le _ _) (by simp; omega)))
          have IT := Lib.hid (show decide (ints s.heldL = ints s.heldL) = true by simp)
          rw [IT.out] at IN
          clear o2 hv2 cn
          go_wp2_with fail
          (with_reducible refine (IN.out).mono ?_)
          rintro e w3 ⟨rfl, o3⟩
          have B3 := Lib.hid (below_on B2.out o3.to_below)
          clear o3
          go_wp2_with fail
          go_ret
          exact ⟨rfl, B3.out⟩
end Go.Proofs.Ytgbccaplmafgkaa

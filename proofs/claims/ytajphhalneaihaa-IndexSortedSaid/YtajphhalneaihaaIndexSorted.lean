/- Proved: the statement IndexSorted of layer 5, for every size and row of steps, on no condition. -/
import Derived.Test.YtajphhalneaihaaRows
import Derived.WalkKit
import Derived.ProofKit
import Derived.OpenShut
import Derived.Below
import Derived.Test.YtajphhalneaihaaArgs
import Derived.Test.YtajphhalneaihaaActs5
import Derived.StillTailTactics
namespace Go.Proofs.Ytajphhalneaihaa.indexSorted
open Go.ChangeShapes Go.WideShapes Go.ChangeAt Go.RowKit
set_option linter.unusedVariables false

theorem own : ownKnob Try.prog.godebug = none := by kernel_rfl
theorem laidOut : laidOutB Try.prog = true := by kernel_rfl

set_option maxHeartbeats 8000000 in
set_option maxRecDepth 100000 in
theorem walk (w : World) (a : Int) (wa : (Lit.int .u8 a).wf = true) (A : Option Addr) (len cap : Nat) (xs : List Act1) (hmax : len ≤ maxLen) (hlen : xs.length = len) (hold : Holds w A 3 Act1.cells xs) (_ : ∀ a ∈ xs, True) :
    Calls Try.prog 6 #[.int .u8 a, .slice A len cap] w fun e w' => e = .returned (.bool true) ∧ Below w.heap.size w w' := by
  obtain ⟨la, ua⟩ := bd_u8 wa
  clear wa
  obtain ⟨P, hP, pw⟩ := size_of a la
  obtain ⟨p2, p256⟩ := pw.le
  unfold maxLen at hmax
  have HL := Lib.hid hlen
  have HO := Lib.hid hold
  clear hlen hold
  go_enter Try.func6, Try.ntmps6
  go_wp2_with fail
  (with_reducible refine (awake_any _).mono ?_)
  rintro e w1 ⟨rfl, b1⟩
  have B1 := Lib.hid b1
  clear b1
  go_wp2_with fail
  rw [hP]
  clear hP
  (with_reducible refine (new_yes P _ pw).mono ?_)
  rintro e w2 ⟨p, b, rfl, h, kp, kb, o⟩
  have H2 := Lib.hid h
  have B2 := Lib.hid (Only.below_to B1.out o (Nat.le_refl _) (fun _ _ s => s))
  have kb' : w.heap.size ≤ b := Nat.le_trans B1.out.size kb
  have kp' : w.heap.size ≤ p := Nat.le_trans B1.out.size kp
  clear h o kp kb B1
  go_wp2_with fail
  go_loopw [8] (fun i wr => ∃ (j : Nat) (ps : List Pl), j ≤ len ∧ j ≤ 120 ∧ i = .int .i64 j ∧ Ix wr p b ps ∧ Good ps ∧ ps.length = P ∧ Below w.heap.size w wr) (fun i _ => len - (intOf i).toNat)
  case atStart => exact ⟨0, fresh P, Nat.zero_le _, Nat.zero_le _, rfl, H2.out, good_fresh (by omega), fresh_len P, B2.out⟩
  case round =>
    obtain ⟨j, ps, hj, hj2, rfl, h, hG, hn, bl⟩ := hrel
    have H := Lib.hid h
    have G := Lib.hid hG
    have HN := Lib.hid hn
    have B := Lib.hid bl
    clear h bl hG hn H2 B2
    have t12 : (j < len ∧ j < 120) ∨ (j < len ∧ 120 ≤ j) ∨ len ≤ j := by omega
    rcases t12 with ⟨t1, t2⟩ | ⟨t1, t2⟩ | t1
    ·
      obtain ⟨act, hact⟩ : ∃ act, xs[j]? = some act := ⟨_, List.getElem?_eq_getElem (by rw [HL.out]; exact t1)⟩
      obtain ⟨sb, so, hA, hsb, c0, c1, c2⟩ := act_at HO.out B.out hact
      subst hA
      have AM := Lib.hid (act_more HO.out hact)
      have kb2 : w.heap.size ≤ wr.heap.size := B.out.size
      have G3 := Lib.hid (stepP_good G.out act)
      have N3 := Lib.hid ((stepP_len G.out act).trans HN.out)
      by_cases hk : act.kind = 0
      · have t3 : (act.kind == 0) = true := by simpa using hk
        have ES := Lib.hid (show stepP ps act = (putP ps act.key act.n).1 by unfold stepP; rw [if_pos hk])
        have PA := Lib.hid (put_any p b ps act.key act.n wr.drew H.out.drew G.out)
        have BD := Lib.hid B.out.drew
        have d1 : wr.drew.cell? ⟨sb, so + j * 3 + 1, none⟩ = some (.int .i64 act.key) := c1
        have d2 : wr.drew.cell? ⟨sb, so + j * 3 + 2, none⟩ = some (.int .i64 act.n) := c2
        clear hk hact
        go_wp2_with fail
        refine wp_region_still_tail 11 (by kernel_rfl) (by kernel_rfl) ?_
        change wpStill _ _ (World.drew wr) (fun a' => wpList _ _ _ _ a' (World.drew wr)) _ _
        simp only [List.take_succ_cons, List.take_zero, List.drop_succ_cons, List.drop_zero]
        generalize World.drew wr = W2 at *
        repeat still_step
        refine wpStill_nil ?_
        go_wp2_with fail
        (with_reducible refine (PA.out).mono ?_)
        rintro e w3 ⟨rfl, h3, o3⟩
        have H3 := Lib.hid (show Ix w3 p b (stepP ps act) by rw [ES.out]; exact h3)
        have B3 := Lib.hid (Only.below_to BD.out o3 (Nat.le_refl _) (fun i hi q => by rcases q with q | q <;> omega))
        clear h3 o3 BD
        have T := Lib.hid (rfl : stepP ps act = stepP ps act)
        generalize stepP ps act = qs at *
        have KA := Lib.hid (keys_any p b qs w3 H3.out G3.out.clean)
        go_wp2_with fail
        (with_reducible refine (KA.out).mono ?_)
        rintro e w4 ⟨v, rfl, hv, o4⟩
        obtain ⟨va, vc, rfl, hform⟩ := hv.shape
        have H4 := Lib.hid (H3.out.still o4)
        have B4 := Lib.hid (Only.below_to B3.out o4 (Nat.le_refl _) (fun _ _ s => s))
        have V4 := Lib.hid hv
        have HF := Lib.hid hform
        have kl := keys_len qs
        have LA := len_any p b qs w4 H4.out
        rw [← kl] at LA
        have LA := Lib.hid LA
        have lt := cnt_of_gap G3.out.gap
        rw [← kl, N3.out] at lt
        have sz := Nat.le_trans B3.out.size o4.size
        have sz3 := B3.out.size
        have KL := Lib.hid kl
        have q2 : decide (P ≤ (keysP qs).length) = false := by simp; omega
        clear hv hform o4 kl H3 B3 KA H
        go_wp2_with fail
        (with_reducible refine (LA.out).mono ?_)
        rintro e w' ⟨rfl, rfl⟩
        go_wp2_with fail
        go_loopw [10] (fun i wx => ∃ k : Nat, k ≤ (keysP qs).length ∧ i = .int .i64 k ∧ Ix wx p b qs ∧ Below w.heap.size w wx ∧ OwnsInts wx w3.heap.size (.slice va (keysP qs).length vc) (keysP qs)) (fun i _ => (keysP qs).length - (intOf i).toNat)
        case atStart => exact ⟨0, Nat.zero_le _, rfl, H4.out, B4.out, V4.out⟩
        case round =>
          obtain ⟨k, hk, rfl, h, bl, ow⟩ := hrel
          have H5 := Lib.hid h
          have B5 := Lib.hid bl
          have V5 := Lib.hid ow
          clear h bl ow H4 B4 V4 LA
          by_cases hlt : k < (keysP qs).length
          · obtain ⟨x, hx⟩ : ∃ x, (keysP qs)[k]? = some x := ⟨_, List.getElem?_eq_getElem hlt⟩
            obtain ⟨g, rfl, hg, hg2⟩ := HF.out (by intro c; rw [c] at hlt; simp at hlt)
            have c5 := V5.out.cell one1 hx (j := 0) (by decide)
            simp only [one, List.getElem?_cons_zero, Nat.mul_one, Nat.add_zero] at c5
            obtain ⟨n, hn⟩ := keys_mem.1 (List.mem_of_getElem? hx)
            obtain ⟨g1, g2⟩ := (G3.out.get x).2.2 n hn
            have GA := get_any p b qs x wr H5.out G3.out
            rw [g1, g2] at GA
            have GA := Lib.hid GA
            have FA := Lib.hid (fun W (h : Ix W p b qs) => far_any p b qs x W h G3.out)
            obtain ⟨f0, f1⟩ := far_bound G3.out g1
            rw [← KL.out] at f1
            have HX := Lib.hid hx
            clear hn g1 g2 hx
            generalize farP qs x = far at *
            go_wp2_with fail
            (with_reducible refine (GA.out).mono ?_)
            rintro e w5 ⟨rfl, o5⟩
            have H6 := Lib.hid (H5.out.still o5)
            have B6 := Lib.hid (Only.below_to B5.out o5 (Nat.le_refl _) (fun _ _ s => s))
            have V6 := Lib.hid (V5.out.still o5)
            have c6 := o5.cell c5 (fun s => s)
            clear o5 c5 H5 B5 V5
            go_wp2_with fail
            (with_reducible refine (FA.out _ H6.out).mono ?_)
            rintro e w' ⟨rfl, rfl⟩
            have s1 : decide (far < 0) = false := by simp; omega
            have s2 : decide (((keysP qs).length : Int) ≤ far) = false := by simp; omega
            rcases Nat.eq_zero_or_pos k with k0 | k0
            · have s3 : decide ((0 : Int) < (k : Int)) = false := by simp; omega
              have s5 : decide (0 < k) = false := by simp; omega
              clear k0
              go_wp2_with fail
              go_quiet (fail)
              go_wp2_with fail
              go_roundw
              case rel => exact ⟨k + 1, by omega, by go_num, H6.out.drewN _, below_n B6.out _, V6.out.still ((Only.refl _ _).drewN _)⟩
              case measure => simp [intOf]; omega
            · have s3 : decide ((0 : Int) < (k : Int)) = true := by simp; omega
              obtain ⟨i, rfl⟩ : ∃ i, k = i + 1 := ⟨k - 1, by omega⟩
              obtain ⟨y, hy⟩ : ∃ y, (keysP qs)[i]? = some y := ⟨_, List.getElem?_eq_getElem (by omega)⟩
              have c7 := V6.out.cell one1 hy (j := 0) (by decide)
              simp only [one, List.getElem?_cons_zero, Nat.mul_one, Nat.add_zero] at c7
              have s4 : decide (x ≤ y) = false := by
                have ri := keys_rise G3.out
                rw [List.pairwise_iff_getElem] at ri
                have := ri i (i + 1) (by omega) hlt (by omega)
                rw [(List.getElem?_eq_some_iff.1 hy).2, (List.getElem?_eq_some_iff.1 HX.out).2] at this
                simp; omega
              clear hy
              go_wp2_with fail
              go_quiet (fail)
              go_wp2_with fail
              go_roundw
              case rel => exact ⟨i + 2, by omega, by go_num, H6.out.drewN _, below_n B6.out _, V6.out.still ((Only.refl _ _).drewN _)⟩
              case measure => simp [intOf]; omega
          · obtain rfl : k = (keysP qs).length := by omega
            have kd := (AM.out _ B5.out).2.1
            have GA := Lib.hid (get_any p b qs act.key wr H5.out G3.out)
            have FA := Lib.hid (fun W (h : Ix W p b qs) => far_any p b qs act.key W h G3.out)
            have HB : (hasP qs act.key = true ∧ decide ((0 : Int) ≤ farP qs act.key) = true) ∨ (hasP qs act.key = false ∧ decide ((0 : Int) ≤ farP qs act.key) = false) := by
              cases c : hasP qs act.key with
              | true => exact .inl ⟨rfl, by have := (far_bound G3.out c).1; simp; omega⟩
              | false => exact .inr ⟨rfl, by unfold farP; rw [c]; rfl⟩
            generalize hasP qs act.key = hh at *
            generalize numP qs act.key = nu at *
            generalize farP qs act.key = far at *
            rcases HB with ⟨rfl, s9⟩ | ⟨rfl, s9⟩
            all_goals
              go_wp2_with fail
              (with_reducible refine (GA.out).mono ?_)
              rintro e w5 ⟨rfl, o5⟩
              have H6 := Lib.hid (H5.out.still o5)
              have B6 := Lib.hid (Only.below_to B5.out o5 (Nat.le_refl _) (fun _ _ s => s))
              have kd6 := o5.cell kd (fun s => s)
              clear o5 kd H5 B5 V5
              go_wp2_with fail
              (with_reducible refine (FA.out _ H6.out).mono ?_)
              rintro e w6 ⟨rfl, rfl⟩
              go_wp2_with fail
              go_roundw
              case rel => exact ⟨j + 1, qs, by omega, by omega, by go_num, H6.out, G3.out, N3.out, B6.out⟩
              case measure => simp [intOf]; omega
      · have t3 : (act.kind == 0) = false := by simpa using hk
        have ES := Lib.hid (show stepP ps act = delP ps act.key by unfold stepP; rw [if_neg hk])
        have PA := Lib.hid (del_any p b ps act.key wr H.out G.out)
        clear hk hact
        go_wp2_with fail
        (with_reducible refine (PA.out).mono ?_)
        rintro e w3 ⟨rfl, h3, o3⟩
        have H3 := Lib.hid (show Ix w3 p b (stepP ps act) by rw [ES.out]; exact h3)
        have B3 := Lib.hid (Only.below_to B.out o3 (Nat.le_refl _) (fun i hi q => by rcases q with q | q <;> omega))
        clear h3 o3
        have T := Lib.hid (rfl : stepP ps act = stepP ps act)
        generalize stepP ps act = qs at *
        have KA := Lib.hid (keys_any p b qs w3 H3.out G3.out.clean)
        go_wp2_with fail
        (with_reducible refine (KA.out).mono ?_)
        rintro e w4 ⟨v, rfl, hv, o4⟩
        obtain ⟨va, vc, rfl, hform⟩ := hv.shape
        have H4 := Lib.hid (H3.out.still o4)
        have B4 := Lib.hid (Only.below_to B3.out o4 (Nat.le_refl _) (fun _ _ s => s))
        have V4 := Lib.hid hv
        have HF := Lib.hid hform
        have kl := keys_len qs
        have LA := len_any p b qs w4 H4.out
        rw [← kl] at LA
        have LA := Lib.hid LA
        have lt := cnt_of_gap G3.out.gap
        rw [← kl, N3.out] at lt
        have sz := Nat.le_trans B3.out.size o4.size
        have sz3 := B3.out.size
        have KL := Lib.hid kl
        have q2 : decide (P ≤ (keysP qs).length) = false := by simp; omega
        clear hv hform o4 kl H3 B3 KA H
        go_wp2_with fail
        (with_reducible refine (LA.out).mono ?_)
        rintro e w' ⟨rfl, rfl⟩
        go_wp2_with fail
        go_loopw [10] (fun i wx => ∃ k : Nat, k ≤ (keysP qs).length ∧ i = .int .i64 k ∧ Ix wx p b qs ∧ Below w.heap.size w wx ∧ OwnsInts wx w3.heap.size (.slice va (keysP qs).length vc) (keysP qs)) (fun i _ => (keysP qs).length - (intOf i).toNat)
        case atStart => exact ⟨0, Nat.zero_le _, rfl, H4.out, B4.out, V4.out⟩
        case round =>
          obtain ⟨k, hk, rfl, h, bl, ow⟩ := hrel
          have H5 := Lib.hid h
          have B5 := Lib.hid bl
          have V5 := Lib.hid ow
          clear h bl ow H4 B4 V4 LA
          by_cases hlt : k < (keysP qs).length
          · obtain ⟨x, hx⟩ : ∃ x, (keysP qs)[k]? = some x := ⟨_, List.getElem?_eq_getElem hlt⟩
            obtain ⟨g, rfl, hg, hg2⟩ := HF.out (by intro c; rw [c] at hlt; simp at hlt)
            have c5 := V5.out.cell one1 hx (j := 0) (by decide)
            simp only [one, List.getElem?_cons_zero, Nat.mul_one, Nat.add_zero] at c5
            obtain ⟨n, hn⟩ := keys_mem.1 (List.mem_of_getElem? hx)
            obtain ⟨g1, g2⟩ := (G3.out.get x).2.2 n hn
            have GA := get_any p b qs x wr H5.out G3.out
            rw [g1, g2] at GA
            have GA := Lib.hid GA
            have FA := Lib.hid (fun W (h : Ix W p b qs) => far_any p b qs x W h G3.out)
            obtain ⟨f0, f1⟩ := far_bound G3.out g1
            rw [← KL.out] at f1
            have HX := Lib.hid hx
            clear hn g1 g2 hx
            generalize farP qs x = far at *
            go_wp2_with fail
            (with_reducible refine (GA.out).mono ?_)
            rintro e w5 ⟨rfl, o5⟩
            have H6 := Lib.hid (H5.out.still o5)
            have B6 := Lib.hid (Only.below_to B5.out o5 (Nat.le_refl _) (fun _ _ s => s))
            have V6 := Lib.hid (V5.out.still o5)
            have c6 := o5.cell c5 (fun s => s)
            clear o5 c5 H5 B5 V5
            go_wp2_with fail
            (with_reducible refine (FA.out _ H6.out).mono ?_)
            rintro e w' ⟨rfl, rfl⟩
            have s1 : decide (far < 0) = false := by simp; omega
            have s2 : decide (((keysP qs).length : Int) ≤ far) = false := by simp; omega
            rcases Nat.eq_zero_or_pos k with k0 | k0
            · have s3 : decide ((0 : Int) < (k : Int)) = false := by simp; omega
              have s5 : decide (0 < k) = false := by simp; omega
              clear k0
              go_wp2_with fail
              go_quiet (fail)
              go_wp2_with fail
              go_roundw
              case rel => exact ⟨k + 1, by omega, by go_num, H6.out.drewN _, below_n B6.out _, V6.out.still ((Only.refl _ _).drewN _)⟩
              case measure => simp [intOf]; omega
            · have s3 : decide ((0 : Int) < (k : Int)) = true := by simp; omega
              obtain ⟨i, rfl⟩ : ∃ i, k = i + 1 := ⟨k - 1, by omega⟩
              obtain ⟨y, hy⟩ : ∃ y, (keysP qs)[i]? = some y := ⟨_, List.getElem?_eq_getElem (by omega)⟩
              have c7 := V6.out.cell one1 hy (j := 0) (by decide)
              simp only [one, List.getElem?_cons_zero, Nat.mul_one, Nat.add_zero] at c7
              have s4 : decide (x ≤ y) = false := by
                have ri := keys_rise G3.out
                rw [List.pairwise_iff_getElem] at ri
                have := ri i (i + 1) (by omega) hlt (by omega)
                rw [(List.getElem?_eq_some_iff.1 hy).2, (List.getElem?_eq_some_iff.1 HX.out).2] at this
                simp; omega
              clear hy
              go_wp2_with fail
              go_quiet (fail)
              go_wp2_with fail
              go_roundw
              case rel => exact ⟨i + 2, by omega, by go_num, H6.out.drewN _, below_n B6.out _, V6.out.still ((Only.refl _ _).drewN _)⟩
              case measure => simp [intOf]; omega
          · obtain rfl : k = (keysP qs).length := by omega
            have kd := (AM.out _ B5.out).2.1
            have GA := Lib.hid (get_any p b qs act.key wr H5.out G3.out)
            have FA := Lib.hid (fun W (h : Ix W p b qs) => far_any p b qs act.key W h G3.out)
            have HB : (hasP qs act.key = true ∧ decide ((0 : Int) ≤ farP qs act.key) = true) ∨ (hasP qs act.key = false ∧ decide ((0 : Int) ≤ farP qs act.key) = false) := by
              cases c : hasP qs act.key with
              | true => exact .inl ⟨rfl, by have := (far_bound G3.out c).1; simp; omega⟩
              | false => exact .inr ⟨rfl, by unfold farP; rw [c]; rfl⟩
            generalize hasP qs act.key = hh at *
            generalize numP qs act.key = nu at *
            generalize farP qs act.key = far at *
            rcases HB with ⟨rfl, s9⟩ | ⟨rfl, s9⟩
            all_goals
              go_wp2_with fail
              (with_reducible refine (GA.out).mono ?_)
              rintro e w5 ⟨rfl, o5⟩
              have H6 := Lib.hid (H5.out.still o5)
              have B6 := Lib.hid (Only.below_to B5.out o5 (Nat.le_refl _) (fun _ _ s => s))
              have kd6 := o5.cell kd (fun s => s)
              clear o5 kd H5 B5 V5
              go_wp2_with fail
              (with_reducible refine (FA.out _ H6.out).mono ?_)
              rintro e w6 ⟨rfl, rfl⟩
              go_wp2_with fail
              go_roundw
              case rel => exact ⟨j + 1, qs, by omega, by omega, by go_num, H6.out, G3.out, N3.out, B6.out⟩
              case measure => simp [intOf]; omega
    · go_wp2_with fail
      go_ret
      exact ⟨rfl, B.out⟩
    · go_wp2_with fail
      go_ret
      exact ⟨rfl, B.out⟩


set_option maxRecDepth 100000 in
theorem lifted (os : Os) (started : os.Started) (H : Type) (enc : TypeId × Value → H) :
    ReturnsInHanded {} Try.checked os 6 .any (Rows.indexSortedSpec.pre6 enc Try.prog Try.f6 Rows.indexSortedRow.domain false) (Rows.indexSortedSpec.post enc Try.prog Try.f6 false true false false) := by
  refine returnsInHanded_of_change (C := Try.checked) own started (by kernel_rfl) Try.func6
    (ChangeSpec.witness6 (enc := enc) (C := Try.checked) false ⟨#[], #[.int .u8 0, .slice none 0 0], []⟩ 8 (by kernel_rfl) (by kernel_rfl) (by kernel_rfl) (by kernel_rfl)) ?_
  intro W base args ds gs before hval0 hW hcnd _
  have hval : ∀ (j : Nat) t v, Try.f6.params[j]? = some t → args[j]? = some v → Value.okWide Try.prog W .any base t v := hval0
  have hW' := hW
  obtain ⟨p, q, hA0, hV, rfl, hfz, hnd⟩ := hW
  have hA : DataW.TrodAll enc Try.prog W 0 (fun _ => true) true Try.f6.params.toList args.toList ds p := hA0
  rw [Try.params6] at hA hval
  obtain ⟨v0, vs0, d0, ds0, p0, q0, hargs, rfl, rfl, h0, r0⟩ := trodAll_cons hA
  obtain ⟨v1, vs1, d1, ds1, p1, q1, rfl, rfl, rfl, h1, r1⟩ := trodAll_cons r0
  obtain ⟨rfl, rfl, rfl⟩ := trodAll_nil r1
  obtain rfl : args = #[v0, v1] := by cases args; simp_all
  obtain ⟨rfl, rfl⟩ := trodVars_none hV
  obtain ⟨a0, rfl, rfl, rfl, w0⟩ := open_int Try.underlying5 (hval 0 5 v0 rfl rfl) h0
  have k1 := h1
  have lt1 : ∀ x ∈ p1, x.block < W.heap.size := by obtain ⟨m, hm⟩ := k1; exact DataW.trod_lt m _ _ _ hm
  obtain ⟨ad1, len1, cap1, rfl⟩ := okWide_slice Try.underlying22 (hval 1 22 v1 rfl rfl)
  obtain ⟨fuel1, hf1⟩ := h1
  obtain ⟨max1, xs1, el1, hold1, wf1⟩ := open_acts hf1
  have shut : ∀ W', Below W.heap.size W W' → DataW.TrodAll enc Try.prog W' 0 (fun b => decide (b < W.heap.size)) true [5, 22] [.int .u8 a0, .slice ad1 len1 cap1] [.lit (.int .u8 a0), d1] ([] ++ (p1 ++ [])) := fun W' bel =>
    (trodAll_cons_mk (shut_int Try.underlying5 w0) (trodAll_cons_mk (Below.trod laidOut (by kernel_rfl) (of_decide_eq_true (by kernel_rfl)) k1 bel lt1) trodAll_mk0))
  clear hA0 hval0
  refine (walk W a0 w0 ad1 len1 cap1 xs1 max1 el1 hold1 wf1).mono fun e W' ⟨he, bel⟩ => ?_
  subst he
  exact ⟨_, rfl, _, _, _, [], _, [], hW', trodAll_mk1 (shut_bool Try.underlying4 _), shut W' bel, rfl, bel.frame _, fun h => by cases h⟩

theorem over : Rows.indexSortedRow.holds Try.pinned (OpenSpec.ofChange Rows.indexSortedSpec) :=
  OpenClaim.holds_of_wide 6 Try.f6 rfl rfl rfl rfl rfl rfl rfl ⟨rfl, rfl, rfl, rfl, rfl⟩ rfl rfl rfl rfl rfl (by kernel_rfl) Try.func6 (by kernel_rfl)
    (of_decide_eq_true (by kernel_rfl)) (by unfold Func.isWrapper; first | (rw [if_pos (by decide +kernel)]; kernel_rfl) | (rw [if_neg (by decide +kernel)]; exact ⟨rfl, rfl⟩))
    (fun os started H enc _ => lifted os started H enc)

theorem indexSorted_holds : Rows.IndexSortedSaid := over
#print axioms indexSorted_holds
end Go.Proofs.Ytajphhalneaihaa.indexSorted

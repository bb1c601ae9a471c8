/- The walk through TurnKeeps's own text. -/
import Derived.WalkKit
import Derived.ProofKit
import Derived.OpenShut
import Derived.Below
import Derived.Test.YtmihinpbgppjlaaArgs
import Derived.Test.YtmihinpbgppjlaaKeep12
namespace Go.Proofs.Ytmihinpbgppjlaa.turnKeeps
open Go.ChangeShapes Go.WideShapes Go.ChangeAt Go.RowKit
set_option linter.unusedVariables false


set_option maxHeartbeats 2000000 in
set_option maxRecDepth 100000 in
theorem walk (w : World) (A : Option Addr) (len cap : Nat) (xs : List Act1) (hmax : len ≤ maxLen) (hlen : xs.length = len) (hold : Holds w A 3 Act1.cells xs) (wf : ∀ a ∈ xs, (Lit.int .i64 a.k).wf = true) (wh : Int) (hwf : (Lit.int .u8 wh).wf = true) :
    Calls Try.prog 4 #[.slice A len cap, .int .u8 wh] w fun e w' => e = .returned (.bool true) ∧ Below w.heap.size w w' := by
  unfold maxLen at hmax
  have HL := Lib.hid hlen
  have HO := Lib.hid hold
  have WF := Lib.hid wf
  clear hlen hold wf
  have S0 := Lib.hid (show Sg w w Asr.none from ⟨⟨fun _ => False, fun _ s => s, fun _ s => s.elim⟩, Only.refl _ _⟩)
  have wh0 := bd_u8 hwf
  go_enter Try.func4, Try.ntmps4
  go_wp2_with fail
  (with_reducible refine (awake12_any _).mono ?_)
  rintro e w1 ⟨rfl, o⟩
  have S1 := Lib.hid (S0.out.still o)
  clear o S0
  have NW := Lib.hid (show Calls Try.prog 9 #[.int .i64 20, .int .i64 20] w1 _ from sg_new 20 20 w _ S1.out (by decide) (by decide) (by decide))
  go_wp2_with fail
  (with_reducible refine (NW.out).mono ?_)
  rintro e w2 ⟨p, rfl, h, _⟩
  have S2 := Lib.hid h
  clear h S1 NW
  go_wp2_with fail
  go_loopw [7] (fun i wr => ∃ (j : Nat) (ss : List Sl), j ≤ len ∧ j ≤ 150 ∧ i = .int .i64 j ∧ Sg w wr ((AT p 20 20 j ss).and Asr.none)) (fun i _ => len - (intOf i).toNat)
  case atStart => exact ⟨0, [], Nat.zero_le _, Nat.zero_le _, rfl, S2.out⟩
  case round =>
    obtain ⟨j, ss, hj, hj2, rfl, h⟩ := hrel
    clear S2
    have H := Lib.hid h
    clear h
    have t12 : (j < len ∧ j < 150) ∨ (j < len ∧ 150 ≤ j) ∨ len ≤ j := by omega
    rcases t12 with ⟨q1, q2⟩ | q1
    · obtain ⟨act, hact⟩ : ∃ act, xs[j]? = some act := ⟨_, List.getElem?_eq_getElem (by rw [HL.out]; exact q1)⟩
      obtain ⟨sb, so, hA, hsb, k0, k1, k2⟩ := act_at HO.out H.out.only.to_below12 hact
      have WX := Lib.hid (WF.out act (List.mem_of_getElem? hact))
      subst hA
      have AM := Lib.hid (act_more HO.out hact)
      have dj : decide ((j : Int) < 150) = true := by simp; omega
      clear hact
      go_upto_region 9 with fail
      go_cut [] from 33 to 39 (fun wx => ∃ s1 : List Sl, Sg w wx ((AT p 20 20 (j + 1) s1).and Asr.none))
      case first =>
        have KS := Lib.hid (fun (w' : World) (X : Asr) (h : Sg w w' X) => AM.out w' h.only.to_below12)
        have HD := Lib.hid (H.out.still ((Only.refl none_ wr).drew))
        have jj : j < 100000000 := by omega
        go_region_held3 (fun w' => w'.cell? ⟨sb, so + j * 3, none⟩ = some (.int .i64 act.kind) ∧ w'.cell? ⟨sb, so + j * 3 + 1, none⟩ = some (.int .i64 act.k) ∧ w'.cell? ⟨sb, so + j * 3 + 2, none⟩ = some (.bool act.a))
          (first
            | (with_reducible exact KS.out _ _ H5.out)
            | (with_reducible exact KS.out _ _ H4.out)
            | (with_reducible exact KS.out _ _ HD.out)
            | fail)
          (first
            | (go_at_call 11; (with_reducible refine (sg_rnew11 w _ HD.out).mono ?_); rintro e w4 ⟨q, rfl, h4, _⟩; have H4 := Lib.hid h4.up2)
            | (go_at_call 12; (with_reducible refine (sg_step act H4.out WX.out jj (by decide) (by decide)).mono ?_); rintro e w5 ⟨rfl, h5⟩; have H5 := Lib.hid h5)
            | fail)
        all_goals
          go_wp2_with fail
          go_meet
          case rel => exact ⟨_, H5.out.assoc2.fst.fst.alone⟩
      case rest =>
        obtain ⟨s1, h1⟩ := hcut
        have S4 := Lib.hid h1
        clear h1 H k0 k1 k2
        have FN := Lib.hid S4.out.fst.fine
        have FR := sg_free S4.out.fst
        unfold freeI at FR
        have m1 : (rowL false s1).length ≤ 20 := FN.out.few false
        have m2 : (rowL true s1).length ≤ 20 := FN.out.few true
        have wl := waitL_len s1
        have rl := rows_len s1
        obtain ⟨n1, hn1⟩ : ∃ n, (rowL false s1).length = n := ⟨_, rfl⟩
        obtain ⟨n2, hn2⟩ : ∃ n, (rowL true s1).length = n := ⟨_, rfl⟩
        rw [hn1] at FR m1 rl
        rw [hn2] at FR m2 rl
        have FR := Lib.hid FR
        obtain ⟨x1, hx1⟩ : ∃ x : Int, ((20 : Nat) : Int) - (n1 : Int) = x := ⟨_, rfl⟩
        obtain ⟨x2, hx2⟩ : ∃ x : Int, ((20 : Nat) : Int) - (n2 : Int) = x := ⟨_, rfl⟩
        rw [hx1, hx2] at FR
        have W1 := Lib.hid (fun (w' : World) (o : Only none_ w' w') (h : Sg w w' ((AT p 20 20 (j + 1) s1).and Asr.none)) => sg_waiting h.fst (by omega))
        have t1 : decide (x1 < 0) = false := by simp; omega
        have t2 : decide (x2 < 0) = false := by simp; omega
        have t3 : decide (20 < x1) = false := by simp; omega
        have t4 : decide (20 < x2) = false := by simp; omega
        have hw1 : wrap64 (40 - x1) = 40 - x1 := by unfold wrap64; omega
        have hw2 : wrap64 (40 - x1 - x2) = 40 - x1 - x2 := by unfold wrap64; omega
        have t5 : decide (40 - x1 - x2 < ((waitL s1).length : Int)) = false := by simp; omega
        have bx : 0 ≤ x1 ∧ x1 ≤ 20 ∧ 0 ≤ x2 ∧ x2 ≤ 20 := by omega
        obtain ⟨bx1, bx2, bx3, bx4⟩ := bx
        obtain ⟨lw, hlw⟩ : ∃ n, (waitL s1).length = n := ⟨_, rfl⟩
        have HLW := Lib.hid hlw
        rw [hlw] at t5
        clear hn1 hn2 m1 m2 wl rl hx1 hx2 hlw
        go_wp2_with fail
        (with_reducible refine (FR.out).mono ?_)
        rintro e w5 ⟨rfl, o⟩
        have S5 := Lib.hid (S4.out.still o)
        clear o FR
        go_wp2_with fail
        (with_reducible refine (W1.out _ (Only.refl _ _) S5.out).mono ?_)
        rintro e w6 ⟨a6, c6, rfl, h6, o6⟩
        have S6 := Lib.hid (S5.out.still o6)
        rw [HLW.out]
        clear h6 o6 W1
        go_wp2_with fail
        go_roundw
        case rel => exact ⟨j + 1, s1, by omega, by omega, by go_num, S6.out⟩
        case measure => simp [intOf]; omega
    · have OW := Lib.hid (sg_waiting H.out.fst (by omega))
      have FN := Lib.hid H.out.fst.fine
      have WFS := Lib.hid H.out.fst.wfs
      have wl := Nat.le_trans (waitL_len ss) FN.out.len
      rcases q1 with ⟨q1, q2⟩ | q1
      all_goals
        go_wp2_with fail
        (with_reducible refine OW.out.mono ?_)
        rintro e w5 ⟨a5, c5, rfl, h5, o5⟩
        have S5 := (H.out.told h5 o5).assoc
        have R5 := Lib.hid (Reads.of_owns h5)
        clear o5 OW h5
        by_cases hz : (waitL ss).length = 0
        · have W5 := Lib.hid S5.only.to_below12
          have hz2 : waitL ss = [] := List.eq_nil_of_length_eq_zero hz
          rw [hz]
          go_wp2_with fail
          go_ret
          exact ⟨rfl, W5.out⟩
        · obtain ⟨m, hm⟩ : ∃ m, (waitL ss).length = m := ⟨_, rfl⟩
          obtain ⟨u, hu⟩ : ∃ u : Nat, wh = u := ⟨wh.toNat, by omega⟩
          subst hu
          have mp : 0 < m := by omega
          obtain ⟨r, hr⟩ : ∃ r, u % m = r := ⟨_, rfl⟩
          have rm : r < m := by rw [← hr]; exact Nat.mod_lt _ mp
          obtain ⟨x, hx⟩ : ∃ x, (waitL ss)[r]? = some x := ⟨_, List.getElem?_eq_getElem (by omega)⟩
          obtain ⟨g, o, e5, c0⟩ : ∃ g o, a5 = some ⟨g, o, none⟩ ∧ w5.cell? ⟨g, o + r, none⟩ = some (.int .i64 x) := by
            obtain ⟨a, cap', e, hc⟩ := R5.out
            injection e with e1 _ _
            subst e1
            exact hc r x hx
          subst e5
          have xm := List.mem_of_getElem? hx
          have KP := Lib.hid (keeps FN.out.once xm)
          have XW := Lib.hid (show (Lit.int .i64 x).wf = true from by
            rw [waitL_W] at xm
            obtain ⟨s, hs, rfl⟩ := List.mem_map.1 xm
            exact WFS.out s (waitW_mem.1 hs).1)
          have SS := sg_start x S5 XW.out
          rw [KP.out.1] at SS
          have tm : ((u : Int).tmod (m : Int)) = (r : Int) := by rw [Int.tmod_eq_emod_of_nonneg (by omega), ← hr]; rfl
          have tw : wrap64 ((u : Int).tmod (m : Int)) = (r : Int) := by rw [tm]; unfold wrap64; omega
          have mz : ((m : Int) == 0) = false := by simp; omega
          have mz2 : ¬ (m : Int) = 0 := by omega
          have mz3 : ¬ m = 0 := by omega
          have mb : m ≤ 128 := by omega
          have HM := Lib.hid hm
          have RD := fun (w' : World) (X : Asr) (h : Sg w w' (X.and (Asr.none.and (AI (.slice (some ⟨g, o, none⟩) (waitL ss).length c5) (waitL ss))))) => h.snd.snd.reads
          rw [hm] at RD SS ⊢
          have SS := Lib.hid SS
          have RD := Lib.hid RD
          clear hx xm hr hm hz wl S5 R5
          go_wp2_with fail
          (with_reducible refine SS.out.mono ?_)
          rintro e w6 ⟨rfl, h6⟩
          have S6 := Lib.hid h6
          have W6 := Lib.hid (sg_waiting S6.out.fst (by omega))
          clear h6 SS c0
          go_wp2_with fail
          (with_reducible refine W6.out.mono ?_)
          rintro e w7 ⟨a7, c7, rfl, h7, o7⟩
          have S7 := Lib.hid (S6.out.still o7)
          have SG := sg_again x S7.out XW.out
          rw [KP.out.2.1, KP.out.2.2.1] at SG
          have SG := Lib.hid SG
          obtain ⟨m2, hm2⟩ : ∃ m2, (waitL (waitS ss x false)).length = m2 := ⟨_, rfl⟩
          have em : m2 + 1 = m := by rw [← hm2, ← HM.out]; exact KP.out.2.2.2
          rw [hm2]
          have t1 : IntKind.i64.wrap ((m : Int) - 1) = (m2 : Int) := by rw [IntKind.wrap_i64]; omega
          have t2 : (m : Int) - 1 = (m2 : Int) := by omega
          clear h7 o7 W6 hm2 em
          go_wp2_with fail
          (with_reducible refine SG.out.mono ?_)
          rintro e w8 ⟨rfl, h8⟩
          have S8 := Lib.hid h8
          have W8 := Lib.hid (sg_waiting S8.out.fst (by omega))
          clear h8 SG
          go_wp2_with fail
          (with_reducible refine W8.out.mono ?_)
          rintro e w9 ⟨a9, c9, rfl, h9, o9⟩
          have S9 := Lib.hid (S8.out.still o9)
          have R9 := Reads.of_owns h9
          have IN := ints_any _ _ (waitL ss) (waitL ss) _ R9 (RD.out _ _ S9.out) (by have := HM.out; omega) (by have := HM.out; omega)
          rw [decide_eq_true rfl, HM.out] at IN
          have IN := Lib.hid IN
          rw [HM.out]
          clear h9 o9 W8 R9
          go_wp2_with fail
          (with_reducible refine IN.out.mono ?_)
          rintro e w10 ⟨rfl, o⟩
          have S10 := Lib.hid (S9.out.still o)
          clear o
          go_wp2_with fail
          go_ret
          exact ⟨rfl, S10.out.only.to_below12⟩



end Go.Proofs.Ytmihinpbgppjlaa.turnKeeps

/- The walk through WaitOthers's own text. -/
import Derived.WalkKit
import Derived.ProofKit
import Derived.OpenShut
import Derived.Below
import Derived.Test.YtgngaimbpnlkjaaArgs
import Derived.Test.YtgngaimbpnlkjaaLw14
import Derived.Test.YtgngaimbpnlkjaaRw14
import Derived.Test.YtgngaimbpnlkjaaActs14
import Derived.Test.YtgngaimbpnlkjaaOth14
import Derived.Deep.Cut
import Derived.Deep.CutBlock
import Derived.Deep.DeepCutAuto
namespace Go.Proofs.Ytgngaimbpnlkjaa.waitOthers
open Go.ChangeShapes Go.WideShapes Go.ChangeAt Go.RowKit
set_option linter.unusedVariables false


theorem same_self14 (v u : Value) (xs : List Wt) (w : World) (hx : ReadsW w v xs) (hy : ReadsW w u xs) (hm : xs.length ≤ 1000000) :
    Calls Try.prog 13 #[v, u] w fun e w' => e = .returned (.bool true) ∧ Only none_ w w' := by
  have := same14_any v u xs xs w hx hy hm hm
  rwa [decide_eq_true rfl] at this
set_option maxHeartbeats 2000000 in
set_option maxRecDepth 100000 in
theorem walk (w : World) (ad0 : Option Addr) (len0 cap0 : Nat) (xs0 : List Act1) (max0 : len0 ≤ maxLen) (el0 : xs0.length = len0) (hold0 : Holds w ad0 4 Act1.cells xs0) (wf0 : ∀ x ∈ xs0, wfW x.w) (req : Int) (wq : (Lit.int .i64 req).wf = true) (t : Int) (wt : (Lit.int .i64 t).wf = true) :
    Calls Try.prog 4 #[.slice ad0 len0 cap0, .int .i64 req, .int .i64 t] w fun e w' => e = .returned (.bool true) ∧ Below w.heap.size w w' := by
  clear wq wt
  subst el0
  have HX := Lib.hid hold0
  have WFX := Lib.hid wf0
  clear hold0 wf0
  go_enter Try.func4, Try.ntmps4
  go_wp2_with fail
  (with_reducible refine (awake14_any _).mono ?_)
  rintro e w1 ⟨rfl, o1⟩
  have O1 := Lib.hid o1
  clear o1
  go_wp2_with fail
  (with_reducible refine (new_64 w1).mono ?_)
  rintro e w2 ⟨p, rfl, h⟩
  obtain ⟨M1, hm⟩ := LW.start O1.out h
  have H2 := Lib.hid hm
  clear h hm O1
  go_upto_block 0 with fail
  go_cut [9, 10] (fun s9 s10 wx => ∃ (ss : List Sx) (M : Nat → Prop), LW w wx p M 64 150 ss)
  case first =>
    go_wp2_with fail
    go_loopw [9] (fun i wr => ∃ (k : Nat) (ss : List Sx) (M : Nat → Prop), k ≤ xs0.length ∧ k ≤ 150 ∧ i = .int .i64 k ∧ LW w wr p M 64 k ss) (fun i _ => xs0.length - (intOf i).toNat)
    case atStart => exact ⟨0, [], M1, Nat.zero_le _, Nat.zero_le _, rfl, H2.out⟩
    case round =>
      obtain ⟨k, ss, M, hk, hk2, rfl, hd⟩ := hrel
      have H := Lib.hid hd
      clear hd H2
      by_cases hlt : k < xs0.length
      · have t1 : decide (k < xs0.length) = true := decide_eq_true hlt
        by_cases h150 : k < 150
        · have t2 : decide ((k : Int) < 150) = true := decide_eq_true (by omega)
          obtain ⟨a, ha⟩ : ∃ a, xs0[k]? = some a := ⟨_, List.getElem?_eq_getElem hlt⟩
          obtain ⟨b, o, rfl, hbl, c0, c1, c2, c3⟩ := act_at HX.out (H.out.only.below (Nat.le_refl _) (fun _ _ s => s)) ha
          have c2' : wr.cell? ⟨b, o + k * 4 + 2, none⟩ = some (.int .i64 a.w.r) := c2
          have c3' : wr.cell? ⟨b, o + k * 4 + 2 + 1, none⟩ = some (.int .i64 a.w.p) := c3
          have WX := Lib.hid (WFX.out a (List.mem_of_getElem? ha))
          have KL := Lib.hid (show k < 1000000 from by omega)
          clear ha hbl
          have XA := Lib.hid ((Row.fresh wr 33 #[.int .i64 a.kind, .int .i64 a.n, .int .i64 a.w.r, .int .i64 a.w.p]))
          have HA := Lib.hid (H.out.still ((Only.refl none_ wr).alloc (.cells #[.int .i64 a.kind, .int .i64 a.n, .int .i64 a.w.r, .int .i64 a.w.p] 33)))
          have x4 := XA.out.four
          by_cases e0 : a.kind = 0
          · have t0 : (a.kind == 0) = true := by simp [e0]
            have CA := Lib.hid (fun (w' : World) (h : LW w w' p M 64 k ss) => show Calls Try.prog 11 #[.pointer (some ⟨p, 0, none⟩), .int .i64 a.n, .agg #[.int .i64 a.w.r, .int .i64 a.w.p]] w' (fun e w'' => e = .returned (.int .i64 (addI 64 ss a.n a.w)) ∧ WGto w' p M 64 (k + 1) (addS 64 ss a.n a.w) w'') from wadd_any a.n a.w w' h.wg WX.out KL.out)
            clear e0
            go_wp2_with fail
            (with_reducible refine (CA.out _ HA.out).mono ?_)
            rintro e w4 ⟨rfl, hk4⟩
            obtain ⟨M4, h4, _⟩ := HA.out.call hk4
            have QX := Lib.hid h4
            clear hk4 h4
            go_wp2_with fail
            go_roundw
            case rel => exact ⟨k + 1, _, _, by omega, by omega, by go_num, by first | exact QX.out | exact QX.out.up (Nat.le_succ _)⟩
            case measure => simp [intOf]; omega
          by_cases e1 : a.kind = 1
          · have t0 : (a.kind == 0) = false := by simp [e0]
            have t1 : (a.kind == 1) = true := by simp [e1]
            clear e0 e1
            go_wp2_with fail
            (with_reducible refine (wtake_any a.n _ HA.out.wg).mono ?_)
            rintro e w4 ⟨u4, rfl, _, hk4⟩
            obtain ⟨M4, h4, _⟩ := HA.out.call hk4.to
            have QX := Lib.hid h4
            clear hk4 h4
            go_wp2_with fail
            go_roundw
            case rel => exact ⟨k + 1, _, _, by omega, by omega, by go_num, by first | exact QX.out | exact QX.out.up (Nat.le_succ _)⟩
            case measure => simp [intOf]; omega
          by_cases e2 : a.kind = 2
          · have t0 : (a.kind == 0) = false := by simp [e0]
            have t1 : (a.kind == 1) = false := by simp [e1]
            have t2 : (a.kind == 2) = true := by simp [e2]
            clear e0 e1 e2
            go_wp2_with fail
            (with_reducible refine (wquit_any a.n _ HA.out.wg).mono ?_)
            rintro e w4 ⟨u4, rfl, _, hk4⟩
            obtain ⟨M4, h4, _⟩ := HA.out.call hk4.to
            have QX := Lib.hid h4
            clear hk4 h4
            go_wp2_with fail
            go_roundw
            case rel => exact ⟨k + 1, _, _, by omega, by omega, by go_num, by first | exact QX.out | exact QX.out.up (Nat.le_succ _)⟩
            case measure => simp [intOf]; omega
          have t0 : (a.kind == 0) = false := by simp [e0]
          have t1 : (a.kind == 1) = false := by simp [e1]
          have t2 : (a.kind == 2) = false := by simp [e2]
          clear e0 e1 e2
          have QX := HA
          go_wp2_with fail
          go_roundw
          case rel => exact ⟨k + 1, _, _, by omega, by omega, by go_num, by first | exact QX.out | exact QX.out.up (Nat.le_succ _)⟩
          case measure => simp [intOf]; omega
        · have t2 : decide ((k : Int) < 150) = false := decide_eq_false (by omega)
          go_wp2_with fail
          go_meet
          exact ⟨_, _, H.out.up hk2⟩
      · have t1 : decide (k < xs0.length) = false := decide_eq_false hlt
        go_wp2_with fail
        go_meet
        exact ⟨_, _, H.out.up hk2⟩
  case rest =>
    obtain ⟨ss, M, h⟩ := hcut
    have H := Lib.hid h
    clear h H2 HX
    have WO := Lib.hid (fun (w' : World) (h : LW w w' p M 64 150 ss) => wof_any t w' h.wg)
    have WF := Lib.hid (fun (w' : World) (h : LW w w' p M 64 150 ss) => show Calls Try.prog 23 #[.pointer (some ⟨p, 0, none⟩)] w' (fun e w'' => e = .returned (.int .i64 (64 - (ss.length : Int))) ∧ Only none_ w' w'') from wfree_any w' h.wg)
    have G1 := Lib.hid (show ss.length ≤ 64 from H.out.wg.good.len)
    have G2 := Lib.hid (quit_frees ss req)
    have G3 := Lib.hid (quit_frees_of ss req t)
    have G4 := Lib.hid (quit_tells ss req t)
    have G5 := Lib.hid (of_leftR ss req t)
    have G6 := Lib.hid (of_le ss t)
    have G7 := Lib.hid (quit_le ss req)
    generalize ofL ss t = l at *
    go_wp2_with fail
    (with_reducible refine (WO.out _ H.out).mono ?_)
    rintro e w3 ⟨vw, rfl, hw, o⟩
    have H3 := Lib.hid (H.out.still o)
    obtain ⟨aw, cw, rfl, hcw⟩ := hw.reads
    have CW := Lib.hid hcw
    have ZC := Lib.hid (show wc.heap.size ≤ w3.heap.size from o.size)
    clear o hw hcw WO
    go_wp2_with fail
    (with_reducible refine (WF.out _ H3.out).mono ?_)
    rintro e w4 ⟨rfl, o⟩
    have H4 := Lib.hid (H3.out.still o)
    have O4 := Lib.hid o
    have Z4 := Lib.hid (show wc.heap.size ≤ w4.heap.size from Nat.le_trans ZC.out o.size)
    clear o WF H3 ZC
    obtain ⟨i0, hi0, hz0, hz1, hz2⟩ := info_parts info_wt
    have I0 := Lib.hid hi0
    have I1 := Lib.hid hz0
    have I2 := Lib.hid hz1
    have I3 := Lib.hid hz2
    clear hi0 hz0 hz1 hz2
    go_wp2_with fail
    go_loopw [13, 14] (fun v i wr => ∃ (k : Nat), k ≤ l.length ∧ i = .int .i64 k ∧ OwnsWt wr w4.heap.size v (othersL (l.take k) req) ∧ Only none_ w4 wr) (fun _ i _ => l.length - (intOf i).toNat)
    case atStart => exact ⟨0, Nat.zero_le _, rfl, Owns.start _ _ _ _ _, Only.refl _ _⟩
    case round =>
      obtain ⟨k, hk, rfl, hV, hO⟩ := hrel
      have HO := Lib.hid hO
      have HW := Lib.hid hV
      clear hO hV
      by_cases hlt : k < l.length
      · obtain ⟨y, hy⟩ : ∃ y, l[k]? = some y := ⟨_, List.getElem?_eq_getElem hlt⟩
        obtain ⟨g1, o1, rfl, cy0, cy1⟩ := CW.out k y hy
        have c0 : wr.cell? ⟨g1, o1 + k * 2, none⟩ = some (.int .i64 y.r) := HO.out.cell (O4.out.cell cy0 (fun s => s)) (fun s => s)
        have c1 : wr.cell? ⟨g1, o1 + k * 2 + 1, none⟩ = some (.int .i64 y.p) := HO.out.cell (O4.out.cell cy1 (fun s => s)) (fun s => s)
        have TM := Lib.hid (sxtake hy)
        have ln2 := G6.out
        have ln3 := G1.out
        have ln4 : (l.take k).length ≤ 64 := by rw [List.length_take]; omega
        have kb : k ≤ 64 := by omega
        clear hy cy0 cy1
        by_cases e : y.r = req
        · have tt : (y.r != req) = false := by simp [e]
          have MORE := Lib.hid (show othersL (l.take (k + 1)) req = othersL (l.take k) req from by rw [TM.out, others_no e])
          clear e
          go_wp2_with fail
          go_roundw
          case rel => exact ⟨k + 1, by omega, by go_num, by rw [MORE.out]; exact HW.out, HO.out⟩
          case measure => simp [intOf]; omega
        · have tt : (y.r != req) = true := by simp [e]
          have MORE := Lib.hid (show othersL (l.take (k + 1)) req = othersL (l.take k) req ++ [y] from by rw [TM.out, others_yes e])
          have RF := Lib.hid (Row.fresh wr 31 #[.int .i64 y.r, .int .i64 y.p])
          have HW2 := Lib.hid (HW.out.still ((Only.refl none_ wr).alloc (.cells #[.int .i64 y.r, .int .i64 y.p] 31)))
          have HO2 := Lib.hid (HO.out.idle ((Only.refl none_ wr).alloc (.cells #[.int .i64 y.r, .int .i64 y.p] 31)))
          have sz : w4.heap.size ≤ (wr.alloc (.cells #[.int .i64 y.r, .int .i64 y.p] 31)).heap.size := HO2.out.size
          have ln := others_le (l.take k) req
          have l1 := Lib.hid (show (othersL (l.take k) req).length < 9223372036854775807 from by omega)
          have l2 := Lib.hid (show ((othersL (l.take k) req).length + 1) * 16 ≤ 140737488355328 from by omega)
          clear e ln ln2 ln3 ln4
          go_wp2_with (at_builtin; go_loud (refine wpList_append_one rfl (.tmp 79) (.tmp 84) 36 rfl (c := Wt.cells) i0 _ 16 Try.underlying36 I0.out I1.out I2.out I3.out rfl (by decide) wt2 wt_one rfl HW2.out (y := y) rfl RF.out l1.out l2.out sz ?_; intro v5 w5 hown5 hO5))
          rw [← MORE.out] at hown5
          have HO5 := Lib.hid (HO2.out.trans hO5 (fun i hi q => by omega))
          have W5 := Lib.hid hown5
          clear hown5 hO5
          go_wp2_with fail
          go_roundw
          case rel => exact ⟨k + 1, by omega, by go_num, W5.out, HO5.out⟩
          case measure => simp [intOf]; omega
      · have hge : l.length ≤ k := by omega
        have TK := Lib.hid (List.take_of_length_le hge)
        rw [TK.out] at HW
        have H5 := Lib.hid (H4.out.still HO.out)
        have ZW := Lib.hid (show w4.heap.size ≤ wr.heap.size from HO.out.size)
        have ML := Lib.hid (H.out.wg.lt)
        clear HO H4 TK
        go_wp2_with fail
        (with_reducible refine (wquit_any req _ H5.out.wg).mono ?_)
        rintro e w6 ⟨vq, rfl, hq, k6⟩
        obtain ⟨M6, h6, hM6, hv6, o6⟩ := H5.out.callV k6
        have LF := Lib.hid (HW.out.keep o6 (fun g hg hm => by have := ML.out g hm; have := (HW.out.base_le hg).1; have := Z4.out; omega))
        have L6 := Lib.hid (fun g (hg : Value.ownBlock _ = some g) => HW.out.base_le hg)
        have H6 := Lib.hid h6
        have VQ := Lib.hid hq
        have NQ := Lib.hid hv6
        have NM := Lib.hid hM6
        have Z6 := Lib.hid (show wr.heap.size ≤ w6.heap.size from o6.size)
        clear hq k6 h6 hM6 hv6 o6 H5 HW
        go_wp2_with fail
        (with_reducible refine (wquit_any req _ H6.out.wg).mono ?_)
        rintro e w7 ⟨va, rfl, ha, k7⟩
        obtain ⟨M7, h7, hM7, hv7, o7⟩ := H6.out.callV k7
        have LG := Lib.hid (LF.out.keep o7 (fun g hg hm => by
          have a := L6.out g hg
          rcases NM.out g hm with z | z
          · have := ML.out g z; have := Z4.out; omega
          · omega))
        have VR := Lib.hid (VQ.out.keep o7 NQ.out)
        rw [quit_again] at ha
        rw [left_again] at h7
        obtain ⟨aa, ca, rfl⟩ := len_of ha
        have H7 := Lib.hid h7
        clear ha k7 h7 hM7 hv7 o7 H6 LF VQ NQ NM L6
        have WO := Lib.hid (wof_any t w7 H7.out.wg)
        rw [G5.out] at WO
        go_wp2_with fail
        (with_reducible refine WO.out.mono ?_)
        rintro e w8 ⟨vo, rfl, ho, o⟩
        have SM := Lib.hid (same_self14 _ _ _ _ ho.reads ((ReadsW.of_owns LG.out).still o) (by have := others_le l req; have := G6.out; have := G1.out; omega))
        have H8 := Lib.hid (H7.out.still o)
        have VS := Lib.hid (VR.out.still o)
        clear ho o WO H7 VR
        obtain ⟨al, cl, rfl⟩ := len_of LG.out
        clear LG
        go_wp2_with fail
        (with_reducible refine SM.out.mono ?_)
        rintro e w9 ⟨rfl, o⟩
        have H9 := Lib.hid (H8.out.still o)
        have VT := Lib.hid (VS.out.still o)
        clear o H8 VS SM
        obtain ⟨aq, cq, rfl⟩ := len_of VT.out
        have RQ := Lib.hid (Reads.of_owns VT.out)
        have WF := Lib.hid (fun (w' : World) (h : LW w w' p M7 64 150 (leftR ss req)) => show Calls Try.prog 23 #[.pointer (some ⟨p, 0, none⟩)] w' (fun e w'' => e = .returned (.int .i64 (64 - ((leftR ss req).length : Int))) ∧ Only none_ w' w'') from wfree_any w' h.wg)
        have HQ := Lib.hid (fun (w' : World) (o : Only none_ w9 w') => has14_q _ (quitI ss req) t w' (RQ.out.still o) (by have := G7.out; have := G1.out; omega))
        obtain ⟨x, hx⟩ : ∃ x : Bool, decide (t ∈ quitI ss req) = x := ⟨_, rfl⟩
        rw [hx] at HQ
        have g4 := G4.out
        rw [hx] at g4
        have g2 := G2.out
        have g3 := G3.out
        have g1 := G1.out
        have g6 := G6.out
        have g7 := G7.out
        have lo := others_le l req
        clear hx G2 G3 G4 G1 G6 G7 VT RQ
        generalize (quitI ss req).length = Q at *
        generalize (leftR ss req).length = R at *
        generalize (othersL l req).length = Lo at *
        generalize l.length = Lw at *
        generalize ss.length = S at *
        have v1 : IntKind.i64.wrap (64 - (S : Int) + (Q : Int)) = 64 - (S : Int) + (Q : Int) := by rw [IntKind.wrap_i64]; omega
        have d1 : decide (64 - (S : Int) + (Q : Int) ≤ 64 - (R : Int)) = true := decide_eq_true (by omega)
        have v2 : IntKind.i64.wrap (64 - (R : Int) - (64 - (S : Int))) = 64 - (R : Int) - (64 - (S : Int)) := by rw [IntKind.wrap_i64]; omega
        have v3 : IntKind.i64.wrap ((Lw : Int) - (Lo : Int)) = (Lw : Int) - (Lo : Int) := by rw [IntKind.wrap_i64]; omega
        have d2 : decide ((Lw : Int) - (Lo : Int) ≤ 64 - (R : Int) - (64 - (S : Int))) = true := decide_eq_true (by omega)
        have d3 : decide ((Lo : Int) < (Lw : Int)) = x := by rw [← g4, Bool.eq_iff_iff]; simp
        have xx : (x == x) = true := by simp
        clear hge hlt hk g1 g2 g3 g6 g7 lo
        go_wp2_with fail
        (with_reducible refine (WF.out _ H9.out).mono ?_)
        rintro e w10 ⟨rfl, o⟩
        have HA := Lib.hid (H9.out.still o)
        have OA := Lib.hid o
        clear o H9
        go_wp2_with fail
        (with_reducible refine (WF.out _ HA.out).mono ?_)
        rintro e w11 ⟨rfl, o⟩
        have HB := Lib.hid (HA.out.still o)
        have OB := Lib.hid (OA.out.same o)
        clear o HA OA
        go_wp2_with fail
        (with_reducible refine (HQ.out _ OB.out).mono ?_)
        rintro e w12 ⟨rfl, rfl⟩
        go_wp2_with fail
        go_ret
        exact ⟨rfl, HB.out.only.to_below14⟩



end Go.Proofs.Ytgngaimbpnlkjaa.waitOthers

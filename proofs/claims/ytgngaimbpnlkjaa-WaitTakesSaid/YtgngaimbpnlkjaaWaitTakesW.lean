/- The walk through WaitTakes's own text. -/
import Derived.WalkKit
import Derived.ProofKit
import Derived.OpenShut
import Derived.Below
import Derived.Test.YtgngaimbpnlkjaaArgs
import Derived.Test.YtgngaimbpnlkjaaLw14
import Derived.Test.YtgngaimbpnlkjaaRw14
import Derived.Test.YtgngaimbpnlkjaaActs14
import Derived.Test.YtgngaimbpnlkjaaOth14
import Derived.Deep.Cut
import Derived.Deep.CutBlock
import Derived.Deep.DeepCutAuto
import Derived.StillTailTactics
namespace Go.Proofs.Ytgngaimbpnlkjaa.waitTakes
open Go.ChangeShapes Go.WideShapes Go.ChangeAt Go.RowKit
set_option linter.unusedVariables false


theorem same_self14 (v u : Value) (xs : List Wt) (w : World) (hx : ReadsW w v xs) (hy : ReadsW w u xs) (hm : xs.length ≤ 1000000) :
    Calls Try.prog 13 #[v, u] w fun e w' => e = .returned (.bool true) ∧ Only none_ w w' := by
  have := same14_any v u xs xs w hx hy hm hm
  rwa [decide_eq_true rfl] at this
set_option maxHeartbeats 2000000 in
set_option maxRecDepth 100000 in
theorem walk (w : World) (ad0 : Option Addr) (len0 cap0 : Nat) (xs0 : List Act1) (max0 : len0 ≤ maxLen) (el0 : xs0.length = len0) (hold0 : Holds w ad0 4 Act1.cells xs0) (wf0 : ∀ x ∈ xs0, wfW x.w) (t : Int) (wt : (Lit.int .i64 t).wf = true) (u : Int) (wu : (Lit.int .i64 u).wf = true) :
    Calls Try.prog 5 #[.slice ad0 len0 cap0, .int .i64 t, .int .i64 u] w fun e w' => e = .returned (.bool true) ∧ Below w.heap.size w w' := by
  clear wt wu
  subst el0
  have HX := Lib.hid hold0
  have WFX := Lib.hid wf0
  clear hold0 wf0
  go_enter Try.func5, Try.ntmps5
  go_wp2_with fail
  (with_reducible refine (awake14_any _).mono ?_)
  rintro e w1 ⟨rfl, o1⟩
  have O1 := Lib.hid o1
  clear o1
  go_wp2_with fail
  (with_reducible refine (new_64 w1).mono ?_)
  rintro e w2 ⟨p, rfl, h⟩
  obtain ⟨M1, hm⟩ := LW.start O1.out h
  have H2 := Lib.hid hm
  clear h hm O1
  go_upto_block 0 with fail
  go_cut [9] (fun s9 wx => ∃ (ss : List Sx) (M : Nat → Prop), LW w wx p M 64 150 ss)
  case first =>
    go_wp2_with fail
    go_loopw [9] (fun i wr => ∃ (k : Nat) (ss : List Sx) (M : Nat → Prop), k ≤ xs0.length ∧ k ≤ 150 ∧ i = .int .i64 k ∧ LW w wr p M 64 k ss) (fun i _ => xs0.length - (intOf i).toNat)
    case atStart => exact ⟨0, [], M1, Nat.zero_le _, Nat.zero_le _, rfl, H2.out⟩
    case round =>
      obtain ⟨k, ss, M, hk, hk2, rfl, hd⟩ := hrel
      have H := Lib.hid hd
      clear hd H2
      by_cases hlt : k < xs0.length
      · have t1 : decide (k < xs0.length) = true := decide_eq_true hlt
        by_cases h150 : k < 150
        · have t2 : decide ((k : Int) < 150) = true := decide_eq_true (by omega)
          obtain ⟨a, ha⟩ : ∃ a, xs0[k]? = some a := ⟨_, List.getElem?_eq_getElem hlt⟩
          obtain ⟨b, o, rfl, hbl, c0, c1, c2, c3⟩ := act_at HX.out (H.out.only.below (Nat.le_refl _) (fun _ _ s => s)) ha
          have c2' : wr.cell? ⟨b, o + k * 4 + 2, none⟩ = some (.int .i64 a.w.r) := c2
          have c3' : wr.cell? ⟨b, o + k * 4 + 2 + 1, none⟩ = some (.int .i64 a.w.p) := c3
          have WX := Lib.hid (WFX.out a (List.mem_of_getElem? ha))
          have KL := Lib.hid (show k < 1000000 from by omega)
          clear ha hbl
          have rg : (0 : Int) ≤ (k : Int) ∧ (k : Int) < (xs0.length : Int) := by omega
          by_cases e0 : a.kind = 0
          · have t0 : (a.kind == 0) = true := by simp [e0]
            have CA := Lib.hid (fun (w' : World) (h : LW w w' p M 64 k ss) => show Calls Try.prog 11 #[.pointer (some ⟨p, 0, none⟩), .int .i64 a.n, .agg #[.int .i64 a.w.r, .int .i64 a.w.p]] w' (fun e w'' => e = .returned (.int .i64 (addI 64 ss a.n a.w)) ∧ WGto w' p M 64 (k + 1) (addS 64 ss a.n a.w) w'') from wadd_any a.n a.w w' h.wg WX.out KL.out)
            clear e0
            go_wp2_with fail
            have HD := Lib.hid (H.out.still (Only.refl none_ wr).drew)
            have d1 : wr.drew.cell? ⟨b, o + k * 4 + 1, none⟩ = some (.int .i64 a.n) := c1
            have d2 : wr.drew.cell? ⟨b, o + k * 4 + 2, none⟩ = some (.int .i64 a.w.r) := c2
            have d3 : wr.drew.cell? ⟨b, o + k * 4 + 2 + 1, none⟩ = some (.int .i64 a.w.p) := c3'
            refine wp_region_still_tail 11 (by kernel_rfl) (by kernel_rfl) ?_
            change wpStill _ _ (World.drew wr) (fun a' => wpList _ _ _ _ a' (World.drew wr)) _ _
            simp only [List.take_succ_cons, List.take_zero]
            simp only [List.drop_succ_cons, List.drop_zero]
            clear c0 c1 c2 c3 c2' c3'
            generalize World.drew wr = W9 at *
            repeat still_step
            refine wpStill_nil ?_
            go_wp2_with fail
            (with_reducible refine (CA.out _ HD.out).mono ?_)
            rintro e w4 ⟨rfl, hk4⟩
            obtain ⟨M4, h4, _⟩ := HD.out.call hk4
            have QX := Lib.hid h4
            clear hk4 h4
            go_wp2_with fail
            go_roundw
            case rel => exact ⟨k + 1, _, _, by omega, by omega, by go_num, by first | exact QX.out | exact QX.out.up (Nat.le_succ _)⟩
            case measure => simp [intOf]; omega
          have t0 : (a.kind == 0) = false := by simp [e0]
          clear e0
          go_wp2_with fail
          (with_reducible refine (wquit_any a.n _ H.out.wg).mono ?_)
          rintro e w4 ⟨u4, rfl, _, hk4⟩
          obtain ⟨M4, h4, _⟩ := H.out.call hk4.to
          have QX := Lib.hid h4
          clear hk4 h4
          go_wp2_with fail
          go_roundw
          case rel => exact ⟨k + 1, _, _, by omega, by omega, by go_num, by first | exact QX.out | exact QX.out.up (Nat.le_succ _)⟩
          case measure => simp [intOf]; omega
        · have t2 : decide ((k : Int) < 150) = false := decide_eq_false (by omega)
          go_wp2_with fail
          go_meet
          exact ⟨_, _, H.out.up hk2⟩
      · have t1 : decide (k < xs0.length) = false := decide_eq_false hlt
        go_wp2_with fail
        go_meet
        exact ⟨_, _, H.out.up hk2⟩
  case rest =>
    obtain ⟨ss, M, h⟩ := hcut
    have H := Lib.hid h
    clear h H2 HX
    have G1 := Lib.hid (show ss.length ≤ 64 from H.out.wg.good.len)
    have GN := Lib.hid (show (ss.map Sx.w).Nodup from H.out.wg.good.once)
    have WY := Lib.hid (H.out.wg.wfOf t)
    have GF := Lib.hid (take_frees ss t)
    have GL := Lib.hid (of_le ss t)
    have GM := Lib.hid (of_le ss u)
    by_cases hu : t = u
    · have tu : (t != u) = false := by simp [hu]
      clear hu
      have WF := Lib.hid (fun (w' : World) (fs : List Sx) (N : Nat → Prop) (h : LW w w' p N 64 150 fs) => show Calls Try.prog 23 #[.pointer (some ⟨p, 0, none⟩)] w' (fun e w'' => e = .returned (.int .i64 (64 - (fs.length : Int))) ∧ Only none_ w' w'') from wfree_any w' h.wg)
      go_wp2_with fail
      (with_reducible refine (wof_any t _ H.out.wg).mono ?_)
      rintro e w3 ⟨vw, rfl, hw, o⟩
      have H3 := Lib.hid (H.out.still o)
      have V3 := Lib.hid hw
      have Z3 := Lib.hid o.size
      clear hw o
      go_wp2_with fail
      (with_reducible refine (wof_any u _ H3.out.wg).mono ?_)
      rintro e w4 ⟨vm, rfl, hm, o⟩
      have H4 := Lib.hid (H3.out.still o)
      have V4 := Lib.hid (V3.out.still o)
      have M4 := Lib.hid hm
      have Z4 := Lib.hid (Nat.le_trans Z3.out o.size)
      clear hm o V3
      go_wp2_with fail
      (with_reducible refine (WF.out _ _ _ H4.out).mono ?_)
      rintro e w5 ⟨rfl, o⟩
      have H5 := Lib.hid (H4.out.still o)
      have V5 := Lib.hid (V4.out.still o)
      have M5 := Lib.hid (M4.out.still o)
      clear o V4 M4 H3 H4
      go_wp2_with fail
      (with_reducible refine (wtake_any t _ H5.out.wg).mono ?_)
      rintro e w6 ⟨vl, rfl, hl, k6⟩
      obtain ⟨M6, h6, hM6, hv6, o6⟩ := H5.out.callV k6
      have ML := Lib.hid (H.out.wg.lt)
      have V6 := Lib.hid (V5.out.turned o6 (fun g hg hm => by have := ML.out g hm; have := (V5.out.base_le hg).1; omega))
      have N6 := Lib.hid (M5.out.turned o6 (fun g hg hm => by have := ML.out g hm; have := (M5.out.base_le hg).1; have := Z3.out; omega))
      have L6 := Lib.hid hl
      have H6 := Lib.hid h6
      clear hl k6 h6 hM6 hv6 o6 H5 V5 M5 H ML Z3 Z4
      obtain ⟨al, cl, rfl⟩ := len_rd L6.out
      have SM := Lib.hid (same_self14 _ _ _ _ L6.out.reads V6.out.reads (by have := GL.out; have := G1.out; omega))
      have v1 : IntKind.i64.wrap (64 - (ss.length : Int) + ((ofL ss t).length : Int)) = 64 - (ss.length : Int) + ((ofL ss t).length : Int) := by have := G1.out; have := GL.out; rw [IntKind.wrap_i64]; omega
      have d1 : (64 - ((leftT ss t).length : Int) != 64 - (ss.length : Int) + ((ofL ss t).length : Int)) = false := by
        have := GF.out
        simp
        omega
      go_wp2_with fail
      (with_reducible refine SM.out.mono ?_)
      rintro e w8 ⟨rfl, o8⟩
      have H8 := Lib.hid (H6.out.still o8)
      have WO := Lib.hid (wof_any t w8 H8.out.wg)
      rw [of_taken] at WO
      have O8 := Lib.hid o8
      have VM := Lib.hid (N6.out.still o8)
      clear o8 SM V6 H6 N6
      go_wp2_with fail
      (with_reducible refine WO.out.mono ?_)
      rintro e w9 ⟨ve, rfl, he, o⟩
      obtain ⟨ae, ce, rfl⟩ := len_rd he
      have HA := Lib.hid (H8.out.still o)
      have OA := Lib.hid (O8.out.same o)
      have OM := Lib.hid o
      clear he o WO
      go_wp2_with fail
      (with_reducible refine (WF.out _ _ _ HA.out).mono ?_)
      rintro e w10 ⟨rfl, o⟩
      have HB := Lib.hid (HA.out.still o)
      have OAB := Lib.hid (OM.out.same o)
      have OB := Lib.hid (OA.out.same o)
      clear o HA H8 OA OM WF
      have HD := HB
      have OD := OAB
      clear HB OAB
      have LR := Lib.hid (L6.out.reads.still (O8.out.same OD.out))
      clear VM OB L6 O8 OD
      obtain ⟨al2, cl2, he2, hcl⟩ := LR.out
      simp only [Value.slice.injEq, true_and] at he2
      obtain ⟨rfl, rfl⟩ := he2
      have CL := Lib.hid hcl
      clear hcl LR
      go_wp2_with fail
      clear d1 v1
      go_loopw [14] (fun i wr => ∃ (k : Nat), k ≤ (ofL ss t).length ∧ i = .int .i64 k ∧ Only none_ w10 wr) (fun i _ => (ofL ss t).length - (intOf i).toNat)
      case atStart => exact ⟨0, Nat.zero_le _, rfl, Only.refl _ _⟩
      case round =>
        obtain ⟨k, hk, rfl, hO⟩ := hrel
        have HO := Lib.hid hO
        clear hO
        by_cases hlt : k < (ofL ss t).length
        · obtain ⟨y, hy⟩ : ∃ y, (ofL ss t)[k]? = some y := ⟨_, List.getElem?_eq_getElem hlt⟩
          obtain ⟨g1, o1, rfl, cy0, cy1⟩ := CL.out k y hy
          have c0 : wr.cell? ⟨g1, o1 + k * 2, none⟩ = some (.int .i64 y.r) := HO.out.cell cy0 (fun s => s)
          have c1 : wr.cell? ⟨g1, o1 + k * 2 + 1, none⟩ = some (.int .i64 y.p) := HO.out.cell cy1 (fun s => s)
          have HR := Lib.hid (HD.out.still HO.out)
          have WW := Lib.hid (show Calls Try.prog 19 #[.pointer (some ⟨p, 0, none⟩), .agg #[.int .i64 y.r, .int .i64 y.p]] wr (fun e w'' => e = .returned (.bool false) ∧ Only none_ wr w'') from by
            have := wwaits_any y wr HR.out.wg (WY.out y (List.mem_of_getElem? hy))
            rw [taken_waits GN.out (List.mem_of_getElem? hy)] at this
            exact this)
          have kb : k ≤ 64 := by have := GL.out; have := G1.out; omega
          clear hy cy0 cy1
          go_wp2_with fail
          (with_reducible refine WW.out.mono ?_)
          rintro e w13 ⟨rfl, o⟩
          have HP := Lib.hid (HO.out.same o)
          clear o WW HR
          go_wp2_with fail
          go_roundw
          case rel => exact ⟨k + 1, by omega, by go_num, HP.out⟩
          case measure => simp [intOf]; omega
        · have hge : (ofL ss t).length ≤ k := by omega
          have HR := Lib.hid (HD.out.still HO.out)
          have WT := Lib.hid (wtake_any t wr HR.out.wg)
          rw [of_taken] at WT
          go_wp2_with fail
          (with_reducible refine WT.out.mono ?_)
          rintro e w13 ⟨vz, rfl, hz, k13⟩
          obtain ⟨az, cz, rfl⟩ := len_rd hz
          obtain ⟨M13, h13, _⟩ := HR.out.call k13.to
          have HF := Lib.hid h13
          clear hz k13 h13
          go_wp2_with fail
          go_ret
          exact ⟨rfl, HF.out.only.to_below14⟩
    · have tu : (t != u) = true := by simp [hu]
      have GO := Lib.hid (of_other ss (t := t) (u := u) (fun q => hu q.symm))
      clear hu
      have WF := Lib.hid (fun (w' : World) (fs : List Sx) (N : Nat → Prop) (h : LW w w' p N 64 150 fs) => show Calls Try.prog 23 #[.pointer (some ⟨p, 0, none⟩)] w' (fun e w'' => e = .returned (.int .i64 (64 - (fs.length : Int))) ∧ Only none_ w' w'') from wfree_any w' h.wg)
      go_wp2_with fail
      (with_reducible refine (wof_any t _ H.out.wg).mono ?_)
      rintro e w3 ⟨vw, rfl, hw, o⟩
      have H3 := Lib.hid (H.out.still o)
      have V3 := Lib.hid hw
      have Z3 := Lib.hid o.size
      clear hw o
      go_wp2_with fail
      (with_reducible refine (wof_any u _ H3.out.wg).mono ?_)
      rintro e w4 ⟨vm, rfl, hm, o⟩
      have H4 := Lib.hid (H3.out.still o)
      have V4 := Lib.hid (V3.out.still o)
      have M4 := Lib.hid hm
      have Z4 := Lib.hid (Nat.le_trans Z3.out o.size)
      clear hm o V3
      go_wp2_with fail
      (with_reducible refine (WF.out _ _ _ H4.out).mono ?_)
      rintro e w5 ⟨rfl, o⟩
      have H5 := Lib.hid (H4.out.still o)
      have V5 := Lib.hid (V4.out.still o)
      have M5 := Lib.hid (M4.out.still o)
      clear o V4 M4 H3 H4
      go_wp2_with fail
      (with_reducible refine (wtake_any t _ H5.out.wg).mono ?_)
      rintro e w6 ⟨vl, rfl, hl, k6⟩
      obtain ⟨M6, h6, hM6, hv6, o6⟩ := H5.out.callV k6
      have ML := Lib.hid (H.out.wg.lt)
      have V6 := Lib.hid (V5.out.turned o6 (fun g hg hm => by have := ML.out g hm; have := (V5.out.base_le hg).1; omega))
      have N6 := Lib.hid (M5.out.turned o6 (fun g hg hm => by have := ML.out g hm; have := (M5.out.base_le hg).1; have := Z3.out; omega))
      have L6 := Lib.hid hl
      have H6 := Lib.hid h6
      clear hl k6 h6 hM6 hv6 o6 H5 V5 M5 H ML Z3 Z4
      obtain ⟨al, cl, rfl⟩ := len_rd L6.out
      have SM := Lib.hid (same_self14 _ _ _ _ L6.out.reads V6.out.reads (by have := GL.out; have := G1.out; omega))
      have v1 : IntKind.i64.wrap (64 - (ss.length : Int) + ((ofL ss t).length : Int)) = 64 - (ss.length : Int) + ((ofL ss t).length : Int) := by have := G1.out; have := GL.out; rw [IntKind.wrap_i64]; omega
      have d1 : (64 - ((leftT ss t).length : Int) != 64 - (ss.length : Int) + ((ofL ss t).length : Int)) = false := by
        have := GF.out
        simp
        omega
      go_wp2_with fail
      (with_reducible refine SM.out.mono ?_)
      rintro e w8 ⟨rfl, o8⟩
      have H8 := Lib.hid (H6.out.still o8)
      have WO := Lib.hid (wof_any t w8 H8.out.wg)
      rw [of_taken] at WO
      have O8 := Lib.hid o8
      have VM := Lib.hid (N6.out.still o8)
      clear o8 SM V6 H6 N6
      go_wp2_with fail
      (with_reducible refine WO.out.mono ?_)
      rintro e w9 ⟨ve, rfl, he, o⟩
      obtain ⟨ae, ce, rfl⟩ := len_rd he
      have HA := Lib.hid (H8.out.still o)
      have OA := Lib.hid (O8.out.same o)
      have OM := Lib.hid o
      clear he o WO
      go_wp2_with fail
      (with_reducible refine (WF.out _ _ _ HA.out).mono ?_)
      rintro e w10 ⟨rfl, o⟩
      have HB := Lib.hid (HA.out.still o)
      have OAB := Lib.hid (OM.out.same o)
      have OB := Lib.hid (OA.out.same o)
      clear o HA H8 OA OM WF
      go_wp2_with fail
      (with_reducible refine ((wof_any u w10 HB.out.wg).mono ?_))
      rintro e w11 ⟨vo, rfl, ho, o⟩
      rw [GO.out] at ho
      have SM2 := Lib.hid (same_self14 _ _ _ _ ho.reads (VM.out.reads.still (OAB.out.same o)) (by have := GM.out; have := G1.out; omega))
      have HC := Lib.hid (HB.out.still o)
      have OC := Lib.hid (OAB.out.same o)
      clear ho o HB OAB
      go_wp2_with fail
      (with_reducible refine SM2.out.mono ?_)
      rintro e w12 ⟨rfl, o⟩
      have HD := Lib.hid (HC.out.still o)
      have OD := Lib.hid (OC.out.same o)
      clear o HC OC SM2
      have LR := Lib.hid (L6.out.reads.still (O8.out.same OD.out))
      clear VM OB L6 O8 OD
      obtain ⟨al2, cl2, he2, hcl⟩ := LR.out
      simp only [Value.slice.injEq, true_and] at he2
      obtain ⟨rfl, rfl⟩ := he2
      have CL := Lib.hid hcl
      clear hcl LR
      go_wp2_with fail
      clear d1 v1
      go_loopw [14] (fun i wr => ∃ (k : Nat), k ≤ (ofL ss t).length ∧ i = .int .i64 k ∧ Only none_ w12 wr) (fun i _ => (ofL ss t).length - (intOf i).toNat)
      case atStart => exact ⟨0, Nat.zero_le _, rfl, Only.refl _ _⟩
      case round =>
        obtain ⟨k, hk, rfl, hO⟩ := hrel
        have HO := Lib.hid hO
        clear hO
        by_cases hlt : k < (ofL ss t).length
        · obtain ⟨y, hy⟩ : ∃ y, (ofL ss t)[k]? = some y := ⟨_, List.getElem?_eq_getElem hlt⟩
          obtain ⟨g1, o1, rfl, cy0, cy1⟩ := CL.out k y hy
          have c0 : wr.cell? ⟨g1, o1 + k * 2, none⟩ = some (.int .i64 y.r) := HO.out.cell cy0 (fun s => s)
          have c1 : wr.cell? ⟨g1, o1 + k * 2 + 1, none⟩ = some (.int .i64 y.p) := HO.out.cell cy1 (fun s => s)
          have HR := Lib.hid (HD.out.still HO.out)
          have WW := Lib.hid (show Calls Try.prog 19 #[.pointer (some ⟨p, 0, none⟩), .agg #[.int .i64 y.r, .int .i64 y.p]] wr (fun e w'' => e = .returned (.bool false) ∧ Only none_ wr w'') from by
            have := wwaits_any y wr HR.out.wg (WY.out y (List.mem_of_getElem? hy))
            rw [taken_waits GN.out (List.mem_of_getElem? hy)] at this
            exact this)
          have kb : k ≤ 64 := by have := GL.out; have := G1.out; omega
          clear hy cy0 cy1
          go_wp2_with fail
          (with_reducible refine WW.out.mono ?_)
          rintro e w13 ⟨rfl, o⟩
          have HP := Lib.hid (HO.out.same o)
          clear o WW HR
          go_wp2_with fail
          go_roundw
          case rel => exact ⟨k + 1, by omega, by go_num, HP.out⟩
          case measure => simp [intOf]; omega
        · have hge : (ofL ss t).length ≤ k := by omega
          have HR := Lib.hid (HD.out.still HO.out)
          have WT := Lib.hid (wtake_any t wr HR.out.wg)
          rw [of_taken] at WT
          go_wp2_with fail
          (with_reducible refine WT.out.mono ?_)
          rintro e w13 ⟨vz, rfl, hz, k13⟩
          obtain ⟨az, cz, rfl⟩ := len_rd hz
          obtain ⟨M13, h13, _⟩ := HR.out.call k13.to
          have HF := Lib.hid h13
          clear hz k13 h13
          go_wp2_with fail
          go_ret
          exact ⟨rfl, HF.out.only.to_below14⟩



end Go.Proofs.Ytgngaimbpnlkjaa.waitTakes

/- The walk through ReqOthers's own text. -/
import Derived.WalkKit
import Derived.ProofKit
import Derived.OpenShut
import Derived.Below
import Derived.Test.YtoflkeedfgnkhaaArgs
import Derived.Test.YtoflkeedfgnkhaaAw17
import Derived.Test.YtoflkeedfgnkhaaOm17
import Derived.Deep.RegionHeld3
import Derived.Deep.Cut
import Derived.Deep.CutRange
import Derived.Deep.CutBlock
import Derived.Deep.DeepCutAuto
namespace Go.Proofs.Ytoflkeedfgnkhaa.reqOthers
open Go.ChangeShapes Go.WideShapes Go.ChangeAt Go.RowKit
set_option linter.unusedVariables false


set_option maxHeartbeats 4000000 in
set_option maxRecDepth 100000 in
theorem walk (w : World) (ad0 : Option Addr) (len0 cap0 : Nat) (xs0 : List Act1) (max0 : len0 ≤ maxLen) (el0 : xs0.length = len0) (hold0 : Holds w ad0 5 Act1.cells xs0) (wf0 : ∀ x ∈ xs0, wfA x) (own : Int) (wo : (Lit.int .u8 own).wf = true) :
    Calls Try.prog 5 #[.slice ad0 len0 cap0, .int .u8 own] w fun e w' => e = .returned (.bool true) ∧ Below w.heap.size w w' := by
  subst el0
  have HX := Lib.hid hold0
  have WFX := Lib.hid wf0
  clear hold0 wf0
  obtain ⟨o0, o255⟩ := bd_u8 wo
  obtain ⟨id, hid, y1, y16⟩ : ∃ d : Int, 1 + own % 16 = d ∧ 1 ≤ d ∧ d ≤ 16 := ⟨_, rfl, by omega, by omega⟩
  have HID := Lib.hid hid
  have ID := Lib.hid (show 1 ≤ id ∧ id ≤ 16 from ⟨y1, y16⟩)
  have WI := Lib.hid (wf_i id (by omega))
  obtain ⟨i0, hi0, hz0, hz1, hz2⟩ := info_parts info_an
  have I0 := Lib.hid hi0
  have I1 := Lib.hid hz0
  have I2 := Lib.hid hz1
  have I3 := Lib.hid hz2
  clear hi0 hz0 hz1 hz2 hid y1 y16
  go_enter Try.func5, Try.ntmps5
  go_wp2_with fail
  (with_reducible refine (awake17_any _).mono ?_)
  rintro e w1 ⟨rfl, o1⟩
  have O1 := Lib.hid o1
  clear o1
  go_wp2_with fail
  (with_reducible refine (new_16 w1).mono ?_)
  rintro e w2 ⟨p, rfl, h⟩
  obtain ⟨c1, hm, hn⟩ := LT.start O1.out h
  have H2 := Lib.hid hm
  clear h hm O1 hn
  go_wp2_with fail
  (with_reducible refine (new_16 w2).mono ?_)
  rintro e w3 ⟨q, rfl, h⟩
  have O3 := Lib.hid h.2
  obtain ⟨e1, hm, hn⟩ := LT.start H2.out.only h
  have H3 := Lib.hid hm
  have N3 := Lib.hid hn
  have T0 := Lib.hid (show OT w w3 p c1 q e1 (fun _ => 0) 0 ⟨[], []⟩ ⟨[], []⟩ (.slice none 0 0) (.slice none 0 0) [] [] [] [] from
    { x := H2.out.still O3.out, y := H3.out
      xy := fun g hg => Classical.byContradiction fun z => by have := N3.out g z; have := H2.out.lt g hg; omega
      xk := fun _ _ => rfl, yk := fun _ _ => rfl, new := fun g hg => absurd rfl hg, lt := fun g hg => absurd rfl hg
      a := Owns.start _ _ _ _ _, ca := fun g hg => (by cases hg), b := Owns.start _ _ _ _ _, cb := fun g hg => (by cases hg)
      ha := KeptAt.nil _ _, hb := KeptAt.nil _ _ })
  clear h hm hn H2 H3 N3 O3
  go_upto_region 8 with fail
  rw [HID.out]
  go_wp2_with fail
  go_loopw [10, 11, 12] (fun va' vb' i wr => ∃ (va vb : Value) (k : Nat) (rs ss : List Rq) (c e kc : Nat → Nat) (ka kb : List Ak) (ns : List An), va = va' ∧ vb = vb' ∧ k ≤ xs0.length ∧ k ≤ 150 ∧ i = .int .i64 k ∧ OT w wr p c q e kc (2 * k) ⟨rs, []⟩ ⟨ss, []⟩ va vb ka kb ns ns ∧ Mine id rs ss ∧ ns.length ≤ k ∧ ∀ n ∈ ns, n.vs.length ≤ 8) (fun _ _ i _ => xs0.length - (intOf i).toNat)
  case atStart => exact ⟨_, _, 0, [], [], c1, e1, _, [], [], [], rfl, rfl, Nat.zero_le _, Nat.zero_le _, rfl, T0.out, Mine.nil id, Nat.le_refl _, fun n hn => (by cases hn)⟩
  case round =>
    obtain ⟨va, vb, k, rs, ss, c, e, kc, ka, kb, ns, rfl, rfl, hk, hk2, rfl, hot, hmn, hnl, hns⟩ := hrel
    have T := Lib.hid hot
    have MI := Lib.hid hmn
    have NL := Lib.hid hnl
    have NS := Lib.hid hns
    have K1 := Lib.hid hk2
    clear hot hmn hnl hns T0
    by_cases hlt : k < xs0.length
    · have t1 : decide (k < xs0.length) = true := decide_eq_true hlt
      by_cases h150 : k < 150
      · have t2 : decide ((k : Int) < 150) = true := decide_eq_true (by omega)
        obtain ⟨a, ha⟩ : ∃ a, xs0[k]? = some a := ⟨_, List.getElem?_eq_getElem hlt⟩
        obtain ⟨b, o, rfl, hbl, a0, a1, a2, a3, a4⟩ := act_at HX.out (T.out.only.below (Nat.le_refl _) (fun _ _ s => s)) ha
        have a2' : wr.cell? ⟨b, o + k * 5 + 1 + 1, none⟩ = some (.int .i64 a.n) := a2
        have a3' : wr.cell? ⟨b, o + k * 5 + 1 + 1 + 1, none⟩ = some (.int .i64 a.place) := a3
        have a4' : wr.cell? ⟨b, o + k * 5 + 1 + 1 + 1 + 1, none⟩ = some (.int .u64 a.v) := a4
        have WX := Lib.hid (show (Lit.int .i64 a.id).wf = true from WFX.out a (List.mem_of_getElem? ha))
        clear ha hbl
        go_upto_region 14 with fail
        have o1 : Only none_ wr (wr.alloc (.cells #[.int .i64 a.kind, .int .i64 a.id, .int .i64 a.n, .int .i64 a.place, .int .u64 a.v] 32)) := (Only.refl _ _).alloc _
        have r1 : Row (wr.alloc (.cells #[.int .i64 a.kind, .int .i64 a.id, .int .i64 a.n, .int .i64 a.place, .int .u64 a.v] 32)) wr.heap.size 32 #[.int .i64 a.kind, .int .i64 a.id, .int .i64 a.n, .int .i64 a.place, .int .u64 a.v] := Row.fresh _ _ _
        have T1 := Lib.hid (T.out.still o1)
        have R1 := Lib.hid r1
        have Z1 := Lib.hid (show c wr.heap.size = 0 ∧ e wr.heap.size = 0 ∧ kc wr.heap.size = 0 from ⟨Classical.byContradiction fun z => Nat.lt_irrefl _ (T.out.x.lt _ z), Classical.byContradiction fun z => Nat.lt_irrefl _ (T.out.y.lt _ z), Classical.byContradiction fun z => Nat.lt_irrefl _ (T.out.lt _ z)⟩)
        clear a0 a1 a2 a3 a4 a2' a3' a4' T o1 r1
        revert T1 R1 Z1
        generalize wr.alloc (.cells #[.int .i64 a.kind, .int .i64 a.id, .int .i64 a.n, .int .i64 a.place, .int .u64 a.v] 32) = W1
        generalize wr.heap.size = g9
        intro T1 R1 Z1
        have KS := Lib.hid (fun (w' : World) (h : Row w' g9 32 #[.int .i64 a.kind, .int .i64 a.id, .int .i64 a.n, .int .i64 a.place, .int .u64 a.v]) => five_row h)
        obtain ⟨x0, x1, x2, x3, x4⟩ := KS.out _ R1.out
        by_cases b1 : a.id < 1
        · have d1 : decide (a.id < 1) = true := decide_eq_true b1
          clear b1
          go_wp2_with fail
          go_roundw
          case rel => exact ⟨va, vb, k + 1, rs, ss, c, e, kc, ka, kb, ns, rfl, rfl, by omega, by omega, by go_num, T1.out.up (by omega), MI.out, by have := NL.out; omega, NS.out⟩
          case measure => simp [intOf]; omega
        have d1 : decide (a.id < 1) = false := decide_eq_false b1
        by_cases b2 : 16 < a.id
        · have d2 : decide (16 < a.id) = true := decide_eq_true b2
          clear b2 b1
          go_wp2_with fail
          go_roundw
          case rel => exact ⟨va, vb, k + 1, rs, ss, c, e, kc, ka, kb, ns, rfl, rfl, by omega, by omega, by go_num, T1.out.up (by omega), MI.out, by have := NL.out; omega, NS.out⟩
          case measure => simp [intOf]; omega
        have d2 : decide (16 < a.id) = false := decide_eq_false b2
        by_cases b3 : a.kind = 4
        · have d3 : (a.kind == 4) = true := by simp [b3]
          clear b3 b1 b2
          go_wp2_with fail
          go_roundw
          case rel => exact ⟨va, vb, k + 1, rs, ss, c, e, kc, ka, kb, ns, rfl, rfl, by omega, by omega, by go_num, T1.out.up (by omega), MI.out, by have := NL.out; omega, NS.out⟩
          case measure => simp [intOf]; omega
        have d3 : (a.kind == 4) = false := by simpa using b3
        have AI := Lib.hid (show 1 ≤ a.id ∧ a.id ≤ 16 from by omega)
        clear b1 b2 b3
        go_wp2_with fail
        (with_reducible refine (rnew_one W1).mono ?_)
        rintro e' w3 ⟨r, rfl, hr, o3⟩
        obtain ⟨d, hod⟩ := OD.start T1.out R1.out Z1.out.1 Z1.out.2.1 Z1.out.2.2 o3 hr
        have D3 := Lib.hid hod
        clear hr o3 hod T1 R1 Z1 x0 x1 x2 x3 x4
        obtain ⟨x0, x1, x2, x3, x4⟩ := KS.out _ D3.out.row
        have S3 := Lib.hid (show Small17 (⟨[], []⟩ : Tq) from Small17.nil _)
        go_wp2_with fail
        (with_reducible refine (o_stepx D3.out a WX.out (by have := K1.out; omega) (by decide) (Small17.nil _) S3.out).mono ?_)
        rintro e' w4 ⟨bb, rfl, c2, d2', hod⟩
        have D4 := Lib.hid hod
        clear hod x0 x1 x2 x3 x4
        obtain ⟨x0, x1, x2, x3, x4⟩ := KS.out _ D4.out.row
        have TS := Lib.hid (show ∀ n ∈ (stepT 16 ⟨rs, []⟩ a).kept, n.vs.length ≤ 8 from (Small17.nil rs).step D3.out.ot.x.good 16 a)
        have TL := Lib.hid (show (stepT 16 ⟨rs, []⟩ a).kept.length ≤ 1 from by rcases step_kept (room := 16) (t := ⟨rs, []⟩) (a := a) rfl with z | ⟨n, _, z⟩ <;> rw [z] <;> simp)
        have TA := Lib.hid (show ∀ n ∈ (stepT 16 ⟨rs, []⟩ a).kept, n.id = a.id from fun n hn => by
          rcases step_kept (room := 16) (t := ⟨rs, []⟩) (a := a) rfl with z | ⟨n', e1, z⟩
          · rw [z] at hn; cases hn
          · rw [z] at hn; rw [List.mem_singleton.1 hn]; exact e1)
        by_cases hid : a.id = id
        · have d4 : (a.id == id) = true := by simp [hid]
          have TI := Lib.hid (show ∀ n ∈ (stepT 16 ⟨rs, []⟩ a).kept, n.id = id from fun n hn => by rw [TA.out n hn, hid])
          have OS := Lib.hid (own_step (t := ⟨rs, []⟩) (s := ⟨ss, []⟩) (a := a) (by rw [hid]; exact MI.out) D3.out.ot.x.good D3.out.ot.y.good rfl rfl AI.out.1 AI.out.2)
          have MN := Lib.hid (show Mine id (stepT 16 ⟨rs, []⟩ a).rs (stepT 16 ⟨ss, []⟩ a).rs from by have := OS.out.1; rw [hid] at this; exact this)
          have SL := Lib.hid (show (stepT 16 ⟨ss, []⟩ a).kept.length ≤ 1 from by rw [← OS.out.2]; exact TL.out)
          have SEQ := Lib.hid (show (stepT 16 ⟨ss, []⟩ a).kept = (stepT 16 ⟨rs, []⟩ a).kept from OS.out.2.symm)
          have S4 := Lib.hid (show Small17 (stepT 1 ⟨[], []⟩ a) from S3.out.step (good_nil17 (room := 1) (by decide)) 1 a)
          clear hid OS
          go_wp2_with fail
          (with_reducible refine (o_stepy D4.out a WX.out (by have := K1.out; omega) (by decide) (Small17.nil _) S4.out).mono ?_)
          rintro e' w5 ⟨bb2, rfl, e2, d5', hod⟩
          have T4 := Lib.hid hod.ot
          clear hod D3 D4 x0 x1 x2 x3 x4
          generalize (stepT 16 ⟨rs, []⟩ a) = tt at *
          generalize (stepT 16 ⟨ss, []⟩ a) = st at *
          go_wp2_with fail
          (with_reducible refine (o_takex T4.out).mono ?_)
          rintro e' w6 ⟨lv, rfl, c2', k1, hot, har⟩
          obtain ⟨lA, lcap, rfl⟩ := har.len
          have T5 := Lib.hid hot
          have L5 := Lib.hid har
          clear hot har T4
          go_wp2_with fail
          go_loopw [10, 16] (fun vv i wr => ∃ (v : Value) (j : Nat) (kc : Nat → Nat) (ka' : List Ak), v = vv ∧ j ≤ tt.kept.length ∧ i = .int .i64 j ∧ OT w wr p c2' q e2 kc (2 * k + 2) ⟨tt.rs, []⟩ st v vb ka' kb (ns ++ tt.kept.take j) ns ∧ AR wr (fun g => kc g = 3) (.slice lA tt.kept.length lcap) tt.kept) (fun _ i _ => tt.kept.length - (intOf i).toNat)
          case atStart => exact ⟨_, 0, k1, ka, rfl, Nat.zero_le _, rfl, by rw [List.take_zero, List.append_nil]; exact T5.out, L5.out⟩
          case round =>
            obtain ⟨va, j, kc, ka', rfl, hj, rfl, hot, har⟩ := hrel
            have T6 := Lib.hid hot
            have L6 := Lib.hid har
            clear hot har T5 L5
            have tl := TL.out
            by_cases hjl : j < tt.kept.length
            · have t4 : decide (j < tt.kept.length) = true := decide_eq_true hjl
              obtain ⟨n, hn⟩ : ∃ n, tt.kept[j]? = some n := ⟨_, List.getElem?_eq_getElem hjl⟩
              obtain ⟨g, o, rfl, av, vr, l0, l1, l2⟩ := L6.out.at_ hn
              have l1' : wr.cell? ⟨g, o + j * 3 + 1, none⟩ = some (.int .i64 n.code) := l1
              have l2' : wr.cell? ⟨g, o + j * 3 + 1 + 1, none⟩ = some av := l2
              have VRn := Lib.hid vr
              have HN := Lib.hid hn
              have nid : n.id = id := TI.out n (List.mem_of_getElem? hn)
              have t5 : (n.id == id) = true := by rw [nid]; simp
              clear hn vr nid
              obtain ⟨aa, ac, rfl⟩ := VRn.out.form
              obtain ⟨W5, hW5⟩ : ∃ W, W = wr.alloc (.cells #[.int .i64 n.id, .int .i64 n.code, .slice aa n.vs.length ac] 49) := ⟨_, rfl⟩
              have o5 : Only none_ wr W5 := by rw [hW5]; exact (Only.refl _ _).alloc _
              have r5 : Row W5 wr.heap.size 49 #[.int .i64 n.id, .int .i64 n.code, .slice aa n.vs.length ac] := by rw [hW5]; exact Row.fresh _ _ _
              have SR := Lib.hid (show Src W5 (.slice (some ⟨wr.heap.size, 0, none⟩) 1 1) 1 (Ak.cells ⟨n.id, n.code, .slice aa n.vs.length ac⟩) from .inr ⟨_, 1, rfl, fun j u hj => by
                rw [addL11, Nat.zero_add, r5.cell, List.getElem?_toArray]
                exact hj⟩)
              have ES : W5.heap.size = wr.heap.size + 1 := by rw [hW5]; simp
              have H5 := Lib.hid (T6.out.still o5)
              have V5 := Lib.hid (H5.out.a)
              have M5 := Lib.hid (show KeptAt W5 (fun g => kc g = 3) [⟨n.id, n.code, .slice aa n.vs.length ac⟩] [n] from KeptAt.one ⟨rfl, rfl, VRn.out.still o5⟩)
              have A5 := Lib.hid (L6.out.still o5)
              have KL := Lib.hid (show ka'.length ≤ 10000 from by
                have h1 := T6.out.ha.1
                rw [List.length_append, List.length_take] at h1
                have := NL.out
                have := K1.out
                have := TL.out
                omega)
              clear o5 r5 T6
              go_wp2_with (at_builtin; go_loud (first | rw [← hW5] | skip); (refine wpList_append_src _ rfl (.tmp 92) (.tmp 97) 40 rfl 0 49 i0 _ 3 40 Try.underlying40 I0.out I1.out I2.out I3.out rfl (by decide) _ ka'.length (ka'.flatMap Ak.cells) rfl V5.out _ 1 (Ak.cells ⟨n.id, n.code, .slice aa n.vs.length ac⟩) rfl SR.out rfl (ak_one_of _ rfl) (by have := KL.out; unfold maxLen; omega) (by have := KL.out; omega) (Nat.zero_le _) ?_))
              intro v' w7 hown hgrow hblk
              rw [← hW5] at hgrow
              rw [← ES] at hblk
              have V7 : OwnsAk w7 0 v' (ka' ++ [⟨n.id, n.code, .slice aa n.vs.length ac⟩]) := by
                show Owns _ _ _ _ _ _ _
                unfold Owns
                rw [List.flatMap_append, List.length_append]
                simpa using hown
              have og := Only.of_grown hgrow
              obtain ⟨k3, h7, g7⟩ := H5.out.pusha V7 og hblk M5.out
              have H7 := Lib.hid h7
              have A7 := Lib.hid ((A5.out.keep og (fun g hg z => by
                have := H5.out.ca g z.symm
                have z3 : kc g = 3 := hg
                rw [z3] at this
                exact absurd this (by decide))).more (fun g _ z => g7 g z))
              clear hown hgrow hblk og V7 h7 g7 V5 H5 M5 A5 hW5
              go_wp2_with fail
              go_roundw
              case rel => exact ⟨_, j + 1, k3, _, rfl, by omega, by go_num, by rw [take_more HN.out, ← List.append_assoc]; exact H7.out, A7.out⟩
              case measure => simp [intOf]; omega
            · have t4 : decide (j < tt.kept.length) = false := decide_eq_false hjl
              obtain rfl : j = tt.kept.length := by omega
              have T7 := Lib.hid (show OT w wr p c2' q e2 kc (2 * k + 2) ⟨tt.rs, []⟩ st va vb ka' kb (ns ++ tt.kept) ns from by have := T6.out; rw [List.take_length] at this; exact this)
              clear T6 L6
              go_wp2_with fail
              (with_reducible refine (o_takey T7.out).mono ?_)
              rintro e w8 ⟨v8, rfl, e3, k4, ks, h8, how8, hm8⟩
              have H8 := Lib.hid h8
              have S8 := Lib.hid (show Src w8 v8 ks.length (ks.flatMap Ak.cells) from Src.own how8)
              have M8 := Lib.hid hm8
              have KL := Lib.hid (show kb.length ≤ 10000 ∧ ks.length ≤ 10 from by
                have h1 := T7.out.hb.1
                have h2 := hm8.1
                have := SL.out
                have := NL.out
                have := K1.out
                omega)
              have V8 := Lib.hid (H8.out.b)
              have ONE := Lib.hid (show ∀ u ∈ ks.flatMap Ak.cells, u.oneCell' = true from ak_ones hm8)
              have F3 := Lib.hid (show (ks.flatMap Ak.cells).length = ks.length * 3 from ak_flat_len ks)
              clear h8 how8 hm8 T7
              go_wp2_with (at_builtin; go_loud (refine wpList_append_src _ rfl (.tmp 99) (.tmp 101) 40 rfl 0 49 i0 _ 3 40 Try.underlying40 I0.out I1.out I2.out I3.out rfl (by decide) _ kb.length (kb.flatMap Ak.cells) rfl V8.out _ ks.length (ks.flatMap Ak.cells) rfl S8.out F3.out ONE.out (by have := KL.out; unfold maxLen; omega) (by have := KL.out; omega) (Nat.zero_le _) ?_))
              intro v' w9 hown hgrow hblk
              have V9 : OwnsAk w9 0 v' (kb ++ ks) := by
                show Owns _ _ _ _ _ _ _
                unfold Owns
                rw [List.flatMap_append, List.length_append]
                exact hown
              obtain ⟨k5, h9, g9'⟩ := H8.out.pushb V9 (Only.of_grown hgrow) hblk M8.out
              have H9 := Lib.hid h9
              clear hown hgrow hblk V9 h9 g9' H8 S8 M8 V8
              go_wp2_with fail
              go_roundw
              case rel => exact ⟨va, v', k + 1, _, _, c2', e3, k5, ka', kb ++ ks, ns ++ tt.kept, rfl, rfl, by omega, by omega, by go_num, by have := H9.out.up (show 2 * k + 2 ≤ 2 * (k + 1) by omega); rw [SEQ.out] at this; exact this, MN.out, by rw [List.length_append]; have := TL.out; have := NL.out; omega, small_app NS.out TS.out⟩
              case measure => simp [intOf]; omega
        · have d4 : (a.id == id) = false := by simpa using hid
          have TI := Lib.hid (show ∀ n ∈ (stepT 16 ⟨rs, []⟩ a).kept, n.id ≠ id from fun n hn => by rw [TA.out n hn]; exact hid)
          have MN := Lib.hid (show Mine id (stepT 16 ⟨rs, []⟩ a).rs ss from other_step (t := ⟨rs, []⟩) (s := ⟨ss, []⟩) MI.out AI.out.1 AI.out.2 (fun z => hid z.symm))
          have T4 := Lib.hid (D4.out.ot.up (show 2 * k + 1 ≤ 2 * k + 2 by omega))
          clear hid D3 D4
          generalize (stepT 16 ⟨rs, []⟩ a) = tt at *
          go_wp2_with fail
          (with_reducible refine (o_takex T4.out).mono ?_)
          rintro e' w6 ⟨lv, rfl, c2', k1, hot, har⟩
          obtain ⟨lA, lcap, rfl⟩ := har.len
          have T5 := Lib.hid hot
          have L5 := Lib.hid har
          clear hot har T4 x0 x1 x2 x3 x4
          go_wp2_with fail
          go_loopw [10, 16] (fun vv i wr => ∃ (j : Nat), va = vv ∧ j ≤ tt.kept.length ∧ i = .int .i64 j ∧ OT w wr p c2' q e k1 (2 * k + 2) ⟨tt.rs, []⟩ ⟨ss, []⟩ va vb ka kb ns ns ∧ AR wr (fun g => k1 g = 3) (.slice lA tt.kept.length lcap) tt.kept) (fun _ i _ => tt.kept.length - (intOf i).toNat)
          case atStart => exact ⟨0, rfl, Nat.zero_le _, rfl, T5.out, L5.out⟩
          case round =>
            obtain ⟨j, rfl, hj, rfl, hot, har⟩ := hrel
            have T6 := Lib.hid hot
            have L6 := Lib.hid har
            clear hot har T5 L5
            have tl := TL.out
            by_cases hjl : j < tt.kept.length
            · have t4 : decide (j < tt.kept.length) = true := decide_eq_true hjl
              obtain ⟨n, hn⟩ : ∃ n, tt.kept[j]? = some n := ⟨_, List.getElem?_eq_getElem hjl⟩
              obtain ⟨g, o, rfl, av, vr, l0, l1, l2⟩ := L6.out.at_ hn
              have nid : n.id ≠ id := TI.out n (List.mem_of_getElem? hn)
              have t5 : (n.id == id) = false := by simpa using nid
              clear hn vr nid l1 l2
              go_wp2_with fail
              go_roundw
              case rel => exact ⟨j + 1, rfl, by omega, by go_num, T6.out, L6.out⟩
              case measure => simp [intOf]; omega
            · have t4 : decide (j < tt.kept.length) = false := decide_eq_false hjl
              clear L6
              go_wp2_with fail
              (with_reducible refine (o_takey T6.out).mono ?_)
              rintro e w8 ⟨v8, rfl, e3, k4, ks, h8, how8, hm8⟩
              obtain rfl : ks = [] := List.eq_nil_of_length_eq_zero hm8.1
              have H8 := Lib.hid h8
              have S8 := Lib.hid (show Src w8 v8 0 [] from Src.own how8)
              have KL := Lib.hid (show kb.length ≤ 10000 from by
                have h1 := T6.out.hb.1
                have := NL.out
                have := K1.out
                omega)
              have V8 := Lib.hid (H8.out.b)
              clear h8 how8 hm8 T6
              go_wp2_with (at_builtin; go_loud (refine wpList_append_src _ rfl (.tmp 99) (.tmp 101) 40 rfl 0 49 i0 _ 3 40 Try.underlying40 I0.out I1.out I2.out I3.out rfl (by decide) _ kb.length (kb.flatMap Ak.cells) rfl V8.out _ 0 [] rfl S8.out rfl (fun u hu => by cases hu) (by have := KL.out; unfold maxLen; omega) (by have := KL.out; omega) (Nat.zero_le _) ?_))
              intro v' w9 hown hgrow hblk
              have V9 : OwnsAk w9 0 v' (kb ++ []) := by
                rw [List.append_nil]
                exact hown
              obtain ⟨k5, h9, g9'⟩ := H8.out.pushb V9 (Only.of_grown hgrow) hblk (KeptAt.nil _ _)
              have H9 := Lib.hid h9
              clear hown hgrow hblk V9 h9 g9' H8 S8 V8
              go_wp2_with fail
              go_roundw
              case rel => exact ⟨va, v', k + 1, _, _, c2', e3, k5, ka, kb ++ [], ns, rfl, rfl, by omega, by omega, by go_num, by have := H9.out.up (show 2 * k + 2 ≤ 2 * (k + 1) by omega); rw [List.append_nil ns] at this; exact this, MN.out, by have := NL.out; omega, NS.out⟩
              case measure => simp [intOf]; omega
      · have t2 : decide ((k : Int) < 150) = false := decide_eq_false (by omega)
        go_wp2_with fail
        (with_reducible refine (answers_any va vb ns ns _ _ _ (AR.of_owns (G := fun _ => True) T.out.a (T.out.ha.more (fun _ _ _ => trivial)) (fun _ _ => trivial)) (AR.of_owns (G := fun _ => True) T.out.b (T.out.hb.more (fun _ _ _ => trivial)) (fun _ _ => trivial)) (by have := NL.out; omega) (by have := NL.out; omega) (fun n hn => by have := NS.out n hn; omega) (fun n hn => by have := NS.out n hn; omega)).mono ?_)
        rintro e' w4 ⟨rfl, o4⟩
        have T4 := Lib.hid (T.out.still o4)
        have dd : decide (ns = ns) = true := decide_eq_true rfl
        rw [dd]
        clear o4 T
        go_wp2_with fail
        (with_reducible refine (lkind id T4.out.x WI.out).mono ?_)
        rintro e' w5 ⟨rfl, o5⟩
        have T5 := Lib.hid (T4.out.still o5)
        clear o5 T4
        go_wp2_with fail
        (with_reducible refine (lkind id T5.out.y WI.out).mono ?_)
        rintro e' w6 ⟨rfl, o6⟩
        have T6 := Lib.hid (T5.out.still o6)
        have kk : (kindI rs id == kindI ss id) = true := by rw [MI.out.kind]; simp
        clear o6 T5
        go_wp2_with fail
        go_ret
        exact ⟨rfl, T6.out.only.to_below17⟩
    · have t1 : decide (k < xs0.length) = false := decide_eq_false hlt
      go_wp2_with fail
      (with_reducible refine (answers_any va vb ns ns _ _ _ (AR.of_owns (G := fun _ => True) T.out.a (T.out.ha.more (fun _ _ _ => trivial)) (fun _ _ => trivial)) (AR.of_owns (G := fun _ => True) T.out.b (T.out.hb.more (fun _ _ _ => trivial)) (fun _ _ => trivial)) (by have := NL.out; omega) (by have := NL.out; omega) (fun n hn => by have := NS.out n hn; omega) (fun n hn => by have := NS.out n hn; omega)).mono ?_)
      rintro e' w4 ⟨rfl, o4⟩
      have T4 := Lib.hid (T.out.still o4)
      have dd : decide (ns = ns) = true := decide_eq_true rfl
      rw [dd]
      clear o4 T
      go_wp2_with fail
      (with_reducible refine (lkind id T4.out.x WI.out).mono ?_)
      rintro e' w5 ⟨rfl, o5⟩
      have T5 := Lib.hid (T4.out.still o5)
      clear o5 T4
      go_wp2_with fail
      (with_reducible refine (lkind id T5.out.y WI.out).mono ?_)
      rintro e' w6 ⟨rfl, o6⟩
      have T6 := Lib.hid (T5.out.still o6)
      have kk : (kindI rs id == kindI ss id) = true := by rw [MI.out.kind]; simp
      clear o6 T5
      go_wp2_with fail
      go_ret
      exact ⟨rfl, T6.out.only.to_below17⟩



end Go.Proofs.Ytoflkeedfgnkhaa.reqOthers

/- The walk through ReqOrder's own text. -/
import Derived.WalkKit
import Derived.ProofKit
import Derived.OpenShut
import Derived.Below
import Derived.Test.YtoflkeedfgnkhaaArgs
import Derived.Test.YtoflkeedfgnkhaaAw17
import Derived.Test.YtoflkeedfgnkhaaPk17
import Derived.Deep.RegionHeld3
import Derived.Deep.Cut
import Derived.Deep.CutRange
import Derived.Deep.CutBlock
import Derived.Deep.DeepCutAuto
namespace Go.Proofs.Ytoflkeedfgnkhaa.reqOrder
open Go.ChangeShapes Go.WideShapes Go.ChangeAt Go.RowKit
set_option linter.unusedVariables false


set_option maxHeartbeats 4000000 in
set_option maxRecDepth 100000 in
theorem walk (w : World) (ad0 : Option Addr) (len0 cap0 : Nat) (xs0 : List Int) (max0 : len0 ≤ maxLen) (el0 : xs0.length = len0) (hold0 : Holds w ad0 1 byteC xs0) (wf0 : ∀ x ∈ xs0, (0 ≤ x ∧ x ≤ 255)) (ad1 : Option Addr) (len1 cap1 : Nat) (xs1 : List Bool) (max1 : len1 ≤ maxLen) (el1 : xs1.length = len1) (hold1 : Holds w ad1 1 boolC xs1) (wf1 : ∀ x ∈ xs1, True) :
    Calls Try.prog 6 #[.slice ad0 len0 cap0, .slice ad1 len1 cap1] w fun e w' => e = .returned (.bool true) ∧ Below w.heap.size w w' := by
  subst el0
  subst el1
  have HX1 := Lib.hid hold1
  clear hold1 wf1
  have HX := Lib.hid hold0
  have WFX := Lib.hid wf0
  clear hold0 wf0
  go_enter Try.func6, Try.ntmps6
  go_wp2_with fail
  (with_reducible refine (awake17_any _).mono ?_)
  rintro e w1 ⟨rfl, o1⟩
  have O1 := Lib.hid o1
  clear o1
  go_wp2_with fail
  (with_reducible refine (new_16 w1).mono ?_)
  rintro e w2 ⟨p, rfl, h⟩
  obtain ⟨c1, hm, hn⟩ := LT.start O1.out h
  have H2 := Lib.hid hm
  clear h hm O1
  clear hn
  go_wp2_with fail
  go_loopw [7] (fun i wr => ∃ (k : Nat) (rs : List Rq) (c : Nat → Nat), 1 ≤ k ∧ k ≤ 17 ∧ i = .int .i64 k ∧ rs.length + 1 = k ∧ oneW rs ∧ (∀ r ∈ rs, r.id < k) ∧ LT w wr p c 16 k ⟨rs, []⟩) (fun i _ => 17 - (intOf i).toNat)
  case atStart => exact ⟨1, [], c1, Nat.le_refl _, by decide, rfl, rfl, (fun r hr => by cases hr), (fun r hr => by cases hr), H2.out.up (by decide)⟩
  case round =>
    obtain ⟨k, rs, c, hk1, hk, rfl, hlen, how, hids, hd⟩ := hrel
    have H := Lib.hid hd
    clear hd H2
    by_cases hlt : k ≤ 16
    · have t1 : decide ((k : Int) ≤ 16) = true := decide_eq_true (by omega)
      have t2 : decide (k ≤ 16) = true := decide_eq_true hlt
      have OP := Lib.hid (how.open_ hk1 hids (by omega))
      have CA := lopen k 2 1 H.out (wf_i _ (by omega))
      rw [OP.out.1] at CA
      have CA := Lib.hid CA
      have LE := Lib.hid hlen
      clear how hids hlen
      go_wp2_with fail
      (with_reducible refine CA.out.mono ?_)
      rintro e w4 ⟨rfl, c', h4, _, _⟩
      have H4 := Lib.hid h4
      clear h4 CA
      go_wp2_with fail
      go_roundw
      case rel => exact ⟨k + 1, _, c', by omega, by omega, by go_num, by rw [OP.out.2.2.2]; have := LE.out; omega, OP.out.2.1, OP.out.2.2.1, H4.out⟩
      case measure => simp [intOf]; omega
    · have t1 : decide ((k : Int) ≤ 16) = false := decide_eq_false (by omega)
      have t2 : decide (k ≤ 16) = false := decide_eq_false hlt
      have H3 := Lib.hid (H.out.up (L' := 100) (by omega))
      have L0 := Lib.hid (show rs.length = 16 from by omega)
      have OW0 := Lib.hid how
      clear how hids hlen H
      obtain ⟨i0, hi0, hz0, hz1, hz2⟩ := info_parts info_an
      have I0 := Lib.hid hi0
      have I1 := Lib.hid hz0
      have I2 := Lib.hid hz1
      have I3 := Lib.hid hz2
      clear hi0 hz0 hz1 hz2
      go_wp2_with fail
      go_loopw [8, 9] (fun vv i wr => ∃ (v : Value) (j : Nat) (rs : List Rq) (kp : List An) (c : Nat → Nat), v = vv ∧ j ≤ xs0.length ∧ j ≤ 100 ∧ i = .int .i64 j ∧ oneW rs ∧ rs.length + kp.length = 16 ∧ (∀ n ∈ kp, n.vs = []) ∧ OwnsAk wr 0 v (kp.map akN) ∧ (∀ g, v.ownBlock = some g → c g = 0 ∧ w.heap.size ≤ g) ∧ LT w wr p c 16 (100 + j) ⟨rs, kp⟩) (fun _ i => fun _ => xs0.length - (intOf i).toNat)
      case atStart => exact ⟨_, 0, rs, [], c, rfl, Nat.zero_le _, Nat.zero_le _, rfl, OW0.out, L0.out, (fun n hn => by cases hn), Owns.start _ _ _ _ _, (fun g hg => by cases hg), H3.out⟩
      case round =>
        obtain ⟨v, j, rs, kp, c, rfl, hj, hj2, rfl, how, hsum, hnil, hv, hnv, hd⟩ := hrel
        clear OW0 L0 H3
        have H := Lib.hid hd
        have OW := Lib.hid how
        have SM := Lib.hid hsum
        have NN := Lib.hid hnil
        have VA := Lib.hid hv
        have NVA := Lib.hid hnv
        clear hd how hsum hnil hv hnv
        by_cases hjl : j < xs0.length
        · have t1 : decide (j < xs0.length) = true := decide_eq_true hjl
          by_cases h100 : j < 100
          · have t2 : decide ((j : Int) < 100) = true := decide_eq_true (by omega)
            obtain ⟨x, hx⟩ : ∃ x, xs0[j]? = some x := ⟨_, List.getElem?_eq_getElem hjl⟩
            obtain ⟨b, o, rfl, hbl, c0⟩ := byte_at HX.out (H.out.only.below (Nat.le_refl _) (fun _ _ s => s)) hx
            obtain ⟨x0', x255⟩ := WFX.out x (List.mem_of_getElem? hx)
            obtain ⟨id, hid, y1, y16⟩ : ∃ d : Int, 1 + x % 16 = d ∧ 1 ≤ d ∧ d ≤ 16 := ⟨_, rfl, by omega, by omega⟩
            have HID := Lib.hid hid
            have WI := Lib.hid (wf_i id (by omega))
            have LK := lkind id H.out WI.out
            rw [OW.out.kind] at LK
            clear hx hbl hid
            cases hq : hasQ rs id with
            | false =>
              rw [hq] at LK
              have LK := Lib.hid (show Calls Try.prog 17 #[.pointer (some ⟨p, 0, none⟩), .int .i64 id] wr (fun e w' => e = .returned (.int .i64 0) ∧ Only none_ wr w') from LK)
              clear hq
              go_wp2_with fail
              rw [HID.out]
              (with_reducible refine LK.out.mono ?_)
              rintro e w3 ⟨rfl, o3⟩
              have H3 := Lib.hid (H.out.still o3)
              have V3 := Lib.hid (show OwnsAk w3 0 v (kp.map akN) from VA.out.still o3)
              clear o3 c0
              go_wp2_with fail
              go_roundw
              case rel => exact ⟨_, j + 1, rs, kp, c, rfl, by omega, by omega, by go_num, OW.out, SM.out, NN.out, V3.out, NVA.out, H3.out.up (by omega)⟩
              case measure => simp [intOf]; omega
            | true =>
              rw [hq] at LK
              replace LK := Lib.hid (show Calls Try.prog 17 #[.pointer (some ⟨p, 0, none⟩), .int .i64 id] wr (fun e w' => e = .returned (.int .i64 2) ∧ Only none_ wr w') from LK)
              have HQ := Lib.hid hq
              clear hq
              go_wp2_with fail
              rw [HID.out]
              (with_reducible refine LK.out.mono ?_)
              rintro e w3 ⟨rfl, o3⟩
              obtain ⟨W1, hW1⟩ : ∃ W, W = w3.alloc (.cells #[.int .i64 id, .int .i64 0, .slice none 0 0] 49) := ⟨_, rfl⟩
              have o31 : Only none_ w3 W1 := by rw [hW1]; exact (Only.refl _ _).alloc _
              have xa : Row W1 w3.heap.size 49 #[.int .i64 id, .int .i64 0, .slice none 0 0] := by rw [hW1]; exact Row.fresh _ _ _
              have h31 := (H.out.still o3).still o31
              have XA := Lib.hid xa
              have HA := Lib.hid h31
              have VZ := Lib.hid (show OwnsAk W1 0 v (kp.map akN) from (VA.out.still o3).still o31)
              have CG := Lib.hid (show c w3.heap.size = 0 from Classical.byContradiction fun q => by have := (H.out.still o3).lt _ q; omega)
              have GN := Lib.hid (show w.heap.size ≤ w3.heap.size from (H.out.only.same o3).size)
              have NW := Lib.hid (show ∀ g, v.ownBlock = some g → ¬ g = w3.heap.size from fun g hg q => by have := ((VA.out.still o3).base_le hg).2; omega)
              clear o3 o31 xa h31 c0 LK
              go_upto_region 18 with fail
              rw [← hW1]
              clear hW1
              by_cases hlo : xs1[j]? = some true
              · obtain ⟨b1, q1, rfl, _, d0⟩ := bool_at HX1.out (HA.out.only.below (Nat.le_refl _) (fun _ _ s => s)) hlo
                have lj := lt_of_get hlo
                have t3 : decide (j < xs1.length) = true := decide_eq_true lj
                obtain ⟨W2, hW2⟩ : ∃ W, W = W1.setCell ⟨w3.heap.size, 1, none⟩ (.int .i64 7) := ⟨_, rfl⟩
                have o2 : Only (fun g => g = w3.heap.size) W1 W2 := by rw [hW2]; exact (Only.refl (fun g => g = w3.heap.size) W1).into rfl _ _
                have xb : Row W2 w3.heap.size 49 #[.int .i64 id, .int .i64 7, .slice none 0 0] := by rw [hW2]; exact XA.out.put 1 _
                have XB := Lib.hid xb
                have HB := Lib.hid (LT.keepN HA.out o2 (fun g hg => by rw [hg]; exact ⟨CG.out, GN.out⟩))
                have VB := Lib.hid (show OwnsAk W2 0 v (kp.map akN) from VZ.out.keep o2 (fun g hg q => NW.out g hg q))
                have NV := Lib.hid (show ∀ g, v.ownBlock = some g → c g = 0 from fun g hg => (NVA.out g hg).1)
                have z1 : W1.cell? ⟨w3.heap.size, 1, none⟩ = some (.int .i64 0) := XA.out.cell 1
                have f1 : W1.frozen? ⟨w3.heap.size, 1, none⟩ = false := XA.out.frozen 1
                have al := XA.out.lt
                clear hlo o2 xb VZ HA
                have PW := Lib.hid (OW.out.put (t := ⟨rs, kp⟩) (x := id) (v := 0) (a := 2) (by decide) HQ.out)
                have CA := llose id 0 HB.out WI.out (by omega)
                rw [PW.out.1, PW.out.2] at CA
                have CA := Lib.hid CA
                have CL := Lib.hid (show (cutQ rs id).length + 1 = rs.length from cutQ_len HB.out.good.once HQ.out)
                go_wp2_with fail
                rw [← hW2]
                clear hW2
                (with_reducible refine CA.out.mono ?_)
                rintro e w4 ⟨rfl, c', h4, g4, o4⟩
                have H4 := Lib.hid h4
                have XC := Lib.hid (o4.row XB.out (fun q => q CG.out))
                have V4 := Lib.hid (show OwnsAk w4 0 v (kp.map akN) from VB.out.keep o4 (fun g hg q => q (NV.out g hg)))
                have NV4 := Lib.hid (show ∀ g, v.ownBlock = some g → c' g = 0 from fun g hg => Classical.byContradiction fun q => by
                  rcases g4 g q with z | z
                  · exact z (NV.out g hg)
                  · have := (VB.out.base_le hg).2; omega)
                clear h4 g4 o4 CA
                obtain ⟨x0, x1, x2⟩ := XC.out.three
                -- the answer that is wanted
                obtain ⟨W5, hW5⟩ : ∃ W, W = w4.alloc (.cells #[.int .i64 id, .int .i64 7, .slice none 0 0] 49) := ⟨_, rfl⟩
                have o5 : Only none_ w4 W5 := by rw [hW5]; exact (Only.refl _ _).alloc _
                have r5 : Row W5 w4.heap.size 49 #[.int .i64 id, .int .i64 7, .slice none 0 0] := by rw [hW5]; exact Row.fresh _ _ _
                have SR := Lib.hid (show Src W5 (.slice (some ⟨w4.heap.size, 0, none⟩) 1 1) 1 (Ak.cells (akN ⟨id, 7, []⟩)) from .inr ⟨_, 1, rfl, fun j u hj => by
                  rw [addL11, Nat.zero_add, r5.cell, List.getElem?_toArray]
                  exact hj⟩)
                have V5 := Lib.hid (show OwnsAk W5 0 v (kp.map akN) from V4.out.still o5)
                have H5 := Lib.hid (H4.out.still o5)
                have ES : W5.heap.size = w4.heap.size + 1 := by rw [hW5]; simp
                have KL := Lib.hid (show (kp.map akN).length ≤ 16 from by rw [List.length_map]; have := SM.out; omega)
                clear o5 r5
                go_wp2_with (at_builtin; go_loud (first | rw [← hW5] | skip); (refine wpList_append_src _ rfl (.tmp 68) (.tmp 70) 40 rfl 0 49 i0 _ 3 40 Try.underlying40 I0.out I1.out I2.out I3.out rfl (by decide) _ (kp.map akN).length ((kp.map akN).flatMap Ak.cells) rfl V5.out _ 1 (Ak.cells (akN ⟨id, 7, []⟩)) rfl SR.out rfl (ak_one_of _ rfl) (by have := KL.out; unfold maxLen; omega) (by have := KL.out; omega) (Nat.zero_le _) ?_))
                intro v' w7 hown hgrow hblk
                rw [← hW5] at hgrow
                have V7 := Lib.hid (show OwnsAk w7 0 v' ((kp ++ [(⟨id, 7, []⟩ : An)]).map akN) from by
                  show Owns _ _ _ _ _ _ _
                  unfold Owns
                  rw [List.map_append, List.flatMap_append, List.length_append]
                  simpa using hown)
                have og := Only.of_grown hgrow
                have H7 := Lib.hid (show LT w w7 p c' 16 (100 + j + 1) ⟨cutQ rs id, kp ++ [⟨id, 7, []⟩]⟩ from LT.keepN H5.out og (fun g q => ⟨NV4.out g q.symm, (NVA.out g q.symm).2⟩))
                have NV7 := Lib.hid (show ∀ g, v'.ownBlock = some g → c' g = 0 ∧ w.heap.size ≤ g from fun g hg => by
                  rcases hblk with q | q
                  · exact ⟨NV4.out g (by rw [← q]; exact hg), (NVA.out g (by rw [← q]; exact hg)).2⟩
                  · rw [hg] at q
                    injection q with q
                    have := H4.out.only.size
                    exact ⟨Classical.byContradiction fun k => by have := H4.out.lt g k; omega, by omega⟩)
                clear hown hgrow hblk og V5 V4 H5 H4 ES hW5
                go_wp2_with fail
                go_roundw
                case rel => exact ⟨_, j + 1, _, _, c', rfl, by omega, by omega, by go_num, OW.out.cut id, by have := SM.out; have := CL.out; rw [List.length_append, List.length_singleton]; omega, (fun n hn => by
                  rcases List.mem_append.1 hn with q | q
                  · exact NN.out n q
                  · rw [List.mem_singleton.1 q]), V7.out, NV7.out, H7.out⟩
                case measure => simp [intOf]; omega
              · have ways : decide (j < xs1.length) = false ∨ (decide (j < xs1.length) = true ∧ xs1[j]? = some false) := by
                  by_cases q : j < xs1.length
                  · refine .inr ⟨decide_eq_true q, ?_⟩
                    rw [List.getElem?_eq_getElem q] at hlo ⊢
                    cases hb : xs1[j] with
                    | true => rw [hb] at hlo; exact absurd rfl hlo
                    | false => rfl
                  · exact .inl (decide_eq_false q)
                have XB := Lib.hid XA.out
                have HB := Lib.hid HA.out
                have VB := Lib.hid VZ.out
                have NV := Lib.hid (show ∀ g, v.ownBlock = some g → c g = 0 from fun g hg => (NVA.out g hg).1)
                clear hlo VZ
                rcases ways with t3 | ⟨t3, hb⟩
                · clear HA XA
                  have PW := Lib.hid (OW.out.put (t := ⟨rs, kp⟩) (x := id) (v := 5) (a := 1) (by decide) HQ.out)
                  have CA := lgive id 0 5 HB.out WI.out (by omega)
                  rw [PW.out.1, PW.out.2] at CA
                  have CA := Lib.hid CA
                  have CL := Lib.hid (show (cutQ rs id).length + 1 = rs.length from cutQ_len HB.out.good.once HQ.out)
                  go_wp2_with fail
                  skip
                  skip
                  (with_reducible refine CA.out.mono ?_)
                  rintro e w4 ⟨rfl, c', h4, g4, o4⟩
                  have H4 := Lib.hid h4
                  have XC := Lib.hid (o4.row XB.out (fun q => q CG.out))
                  have V4 := Lib.hid (show OwnsAk w4 0 v (kp.map akN) from VB.out.keep o4 (fun g hg q => q (NV.out g hg)))
                  have NV4 := Lib.hid (show ∀ g, v.ownBlock = some g → c' g = 0 from fun g hg => Classical.byContradiction fun q => by
                    rcases g4 g q with z | z
                    · exact z (NV.out g hg)
                    · have := (VB.out.base_le hg).2; omega)
                  clear h4 g4 o4 CA
                  obtain ⟨x0, x1, x2⟩ := XC.out.three
                  -- the answer that is wanted
                  obtain ⟨W5, hW5⟩ : ∃ W, W = w4.alloc (.cells #[.int .i64 id, .int .i64 0, .slice none 0 0] 49) := ⟨_, rfl⟩
                  have o5 : Only none_ w4 W5 := by rw [hW5]; exact (Only.refl _ _).alloc _
                  have r5 : Row W5 w4.heap.size 49 #[.int .i64 id, .int .i64 0, .slice none 0 0] := by rw [hW5]; exact Row.fresh _ _ _
                  have SR := Lib.hid (show Src W5 (.slice (some ⟨w4.heap.size, 0, none⟩) 1 1) 1 (Ak.cells (akN ⟨id, 0, []⟩)) from .inr ⟨_, 1, rfl, fun j u hj => by
                    rw [addL11, Nat.zero_add, r5.cell, List.getElem?_toArray]
                    exact hj⟩)
                  have V5 := Lib.hid (show OwnsAk W5 0 v (kp.map akN) from V4.out.still o5)
                  have H5 := Lib.hid (H4.out.still o5)
                  have ES : W5.heap.size = w4.heap.size + 1 := by rw [hW5]; simp
                  have KL := Lib.hid (show (kp.map akN).length ≤ 16 from by rw [List.length_map]; have := SM.out; omega)
                  clear o5 r5
                  go_wp2_with (at_builtin; go_loud (first | rw [← hW5] | skip); (refine wpList_append_src _ rfl (.tmp 68) (.tmp 70) 40 rfl 0 49 i0 _ 3 40 Try.underlying40 I0.out I1.out I2.out I3.out rfl (by decide) _ (kp.map akN).length ((kp.map akN).flatMap Ak.cells) rfl V5.out _ 1 (Ak.cells (akN ⟨id, 0, []⟩)) rfl SR.out rfl (ak_one_of _ rfl) (by have := KL.out; unfold maxLen; omega) (by have := KL.out; omega) (Nat.zero_le _) ?_))
                  intro v' w7 hown hgrow hblk
                  rw [← hW5] at hgrow
                  have V7 := Lib.hid (show OwnsAk w7 0 v' ((kp ++ [(⟨id, 0, []⟩ : An)]).map akN) from by
                    show Owns _ _ _ _ _ _ _
                    unfold Owns
                    rw [List.map_append, List.flatMap_append, List.length_append]
                    simpa using hown)
                  have og := Only.of_grown hgrow
                  have H7 := Lib.hid (show LT w w7 p c' 16 (100 + j + 1) ⟨cutQ rs id, kp ++ [⟨id, 0, []⟩]⟩ from LT.keepN H5.out og (fun g q => ⟨NV4.out g q.symm, (NVA.out g q.symm).2⟩))
                  have NV7 := Lib.hid (show ∀ g, v'.ownBlock = some g → c' g = 0 ∧ w.heap.size ≤ g from fun g hg => by
                    rcases hblk with q | q
                    · exact ⟨NV4.out g (by rw [← q]; exact hg), (NVA.out g (by rw [← q]; exact hg)).2⟩
                    · rw [hg] at q
                      injection q with q
                      have := H4.out.only.size
                      exact ⟨Classical.byContradiction fun k => by have := H4.out.lt g k; omega, by omega⟩)
                  clear hown hgrow hblk og V5 V4 H5 H4 ES hW5
                  go_wp2_with fail
                  go_roundw
                  case rel => exact ⟨_, j + 1, _, _, c', rfl, by omega, by omega, by go_num, OW.out.cut id, by have := SM.out; have := CL.out; rw [List.length_append, List.length_singleton]; omega, (fun n hn => by
                    rcases List.mem_append.1 hn with q | q
                    · exact NN.out n q
                    · rw [List.mem_singleton.1 q]), V7.out, NV7.out, H7.out⟩
                  case measure => simp [intOf]; omega
                · have lj := lt_of_get hb
                  obtain ⟨b1, q1, rfl, _, d0⟩ := bool_at HX1.out (HA.out.only.below (Nat.le_refl _) (fun _ _ s => s)) hb
                  clear HA XA hb
                  have PW := Lib.hid (OW.out.put (t := ⟨rs, kp⟩) (x := id) (v := 5) (a := 1) (by decide) HQ.out)
                  have CA := lgive id 0 5 HB.out WI.out (by omega)
                  rw [PW.out.1, PW.out.2] at CA
                  have CA := Lib.hid CA
                  have CL := Lib.hid (show (cutQ rs id).length + 1 = rs.length from cutQ_len HB.out.good.once HQ.out)
                  go_wp2_with fail
                  skip
                  skip
                  (with_reducible refine CA.out.mono ?_)
                  rintro e w4 ⟨rfl, c', h4, g4, o4⟩
                  have H4 := Lib.hid h4
                  have XC := Lib.hid (o4.row XB.out (fun q => q CG.out))
                  have V4 := Lib.hid (show OwnsAk w4 0 v (kp.map akN) from VB.out.keep o4 (fun g hg q => q (NV.out g hg)))
                  have NV4 := Lib.hid (show ∀ g, v.ownBlock = some g → c' g = 0 from fun g hg => Classical.byContradiction fun q => by
                    rcases g4 g q with z | z
                    · exact z (NV.out g hg)
                    · have := (VB.out.base_le hg).2; omega)
                  clear h4 g4 o4 CA
                  obtain ⟨x0, x1, x2⟩ := XC.out.three
                  -- the answer that is wanted
                  obtain ⟨W5, hW5⟩ : ∃ W, W = w4.alloc (.cells #[.int .i64 id, .int .i64 0, .slice none 0 0] 49) := ⟨_, rfl⟩
                  have o5 : Only none_ w4 W5 := by rw [hW5]; exact (Only.refl _ _).alloc _
                  have r5 : Row W5 w4.heap.size 49 #[.int .i64 id, .int .i64 0, .slice none 0 0] := by rw [hW5]; exact Row.fresh _ _ _
                  have SR := Lib.hid (show Src W5 (.slice (some ⟨w4.heap.size, 0, none⟩) 1 1) 1 (Ak.cells (akN ⟨id, 0, []⟩)) from .inr ⟨_, 1, rfl, fun j u hj => by
                    rw [addL11, Nat.zero_add, r5.cell, List.getElem?_toArray]
                    exact hj⟩)
                  have V5 := Lib.hid (show OwnsAk W5 0 v (kp.map akN) from V4.out.still o5)
                  have H5 := Lib.hid (H4.out.still o5)
                  have ES : W5.heap.size = w4.heap.size + 1 := by rw [hW5]; simp
                  have KL := Lib.hid (show (kp.map akN).length ≤ 16 from by rw [List.length_map]; have := SM.out; omega)
                  clear o5 r5
                  go_wp2_with (at_builtin; go_loud (first | rw [← hW5] | skip); (refine wpList_append_src _ rfl (.tmp 68) (.tmp 70) 40 rfl 0 49 i0 _ 3 40 Try.underlying40 I0.out I1.out I2.out I3.out rfl (by decide) _ (kp.map akN).length ((kp.map akN).flatMap Ak.cells) rfl V5.out _ 1 (Ak.cells (akN ⟨id, 0, []⟩)) rfl SR.out rfl (ak_one_of _ rfl) (by have := KL.out; unfold maxLen; omega) (by have := KL.out; omega) (Nat.zero_le _) ?_))
                  intro v' w7 hown hgrow hblk
                  rw [← hW5] at hgrow
                  have V7 := Lib.hid (show OwnsAk w7 0 v' ((kp ++ [(⟨id, 0, []⟩ : An)]).map akN) from by
                    show Owns _ _ _ _ _ _ _
                    unfold Owns
                    rw [List.map_append, List.flatMap_append, List.length_append]
                    simpa using hown)
                  have og := Only.of_grown hgrow
                  have H7 := Lib.hid (show LT w w7 p c' 16 (100 + j + 1) ⟨cutQ rs id, kp ++ [⟨id, 0, []⟩]⟩ from LT.keepN H5.out og (fun g q => ⟨NV4.out g q.symm, (NVA.out g q.symm).2⟩))
                  have NV7 := Lib.hid (show ∀ g, v'.ownBlock = some g → c' g = 0 ∧ w.heap.size ≤ g from fun g hg => by
                    rcases hblk with q | q
                    · exact ⟨NV4.out g (by rw [← q]; exact hg), (NVA.out g (by rw [← q]; exact hg)).2⟩
                    · rw [hg] at q
                      injection q with q
                      have := H4.out.only.size
                      exact ⟨Classical.byContradiction fun k => by have := H4.out.lt g k; omega, by omega⟩)
                  clear hown hgrow hblk og V5 V4 H5 H4 ES hW5
                  go_wp2_with fail
                  go_roundw
                  case rel => exact ⟨_, j + 1, _, _, c', rfl, by omega, by omega, by go_num, OW.out.cut id, by have := SM.out; have := CL.out; rw [List.length_append, List.length_singleton]; omega, (fun n hn => by
                    rcases List.mem_append.1 hn with q | q
                    · exact NN.out n q
                    · rw [List.mem_singleton.1 q]), V7.out, NV7.out, H7.out⟩
                  case measure => simp [intOf]; omega
          · have t2 : decide ((j : Int) < 100) = false := decide_eq_false (by omega)
            obtain ⟨va, vc, hva⟩ := owns_form VA.out
            rw [List.length_map] at hva
            subst hva
            have PE := Lib.hid (lpending H.out)
            have v1 : IntKind.i64.wrap (16 - (kp.length : Int)) = (rs.length : Int) := by have := SM.out; rw [IntKind.wrap_i64]; omega
            have v2 : (16 : Int) - (kp.length : Int) = (rs.length : Int) := by have := SM.out; omega
            have t5 : ((rs.length : Int) == (rs.length : Int)) = true := by simp
            have kb : kp.length ≤ 16 := by have := SM.out; omega
            go_wp2_with fail
            (with_reducible refine PE.out.mono ?_)
            rintro e w6 ⟨v6, rfl, hv6, o6⟩
            obtain ⟨vf, vg, hve⟩ := owns_form hv6
            rw [sortI_len, List.length_map] at hve
            subst hve
            have H6 := Lib.hid (H.out.still o6)
            have V6 := Lib.hid (show OwnsAk w6 0 (.slice va kp.length vc) (kp.map akN) from VA.out.still o6)
            have TK := Lib.hid (ltake H6.out)
            clear hv6 o6 PE
            go_wp2_with fail
            (with_reducible refine TK.out.mono ?_)
            rintro e w7 ⟨v7, rfl, c7, h7, hv7, _, o7⟩
            have H7 := Lib.hid h7
            have V7 := Lib.hid (show OwnsAk w7 0 (.slice va kp.length vc) (kp.map akN) from V6.out.keep o7 (fun g hg q => q (NVA.out g hg).1))
            have AL := Lib.hid (AR.of_owns (G := fun _ => True) V7.out (KeptAt.nul w7 _ kp NN.out) (fun _ _ => trivial))
            obtain ⟨vh, vi, hve⟩ := hv7.len
            subst hve
            have AN := answers_any _ _ kp kp _ _ w7 hv7 AL.out (by omega) (by omega) (fun n hn => by rw [NN.out n hn]; decide) (fun n hn => by rw [NN.out n hn]; decide)
            rw [decide_eq_true rfl] at AN
            replace AN := Lib.hid AN
            have TK := Lib.hid (fun w' (o : Only none_ w7 w') => ltake (H7.out.still o))
            clear h7 hv7 o7 AL V6 V7
            go_wp2_with fail
            (with_reducible refine AN.out.mono ?_)
            rintro e w8 ⟨rfl, o8⟩
            have O8 := Lib.hid o8
            clear o8 AN
            go_wp2_with fail
            (with_reducible refine (TK.out w8 O8.out).mono ?_)
            rintro e w9 ⟨v9, rfl, c9, h9, hv9, _, _⟩
            obtain ⟨vj, vk, hve⟩ := hv9.len
            subst hve
            have H9 := Lib.hid h9
            clear h9 hv9 TK
            go_wp2_with fail
            go_ret
            exact ⟨rfl, H9.out.only.to_below17⟩
        · have t1 : decide (j < xs0.length) = false := decide_eq_false hjl
          obtain ⟨va, vc, hva⟩ := owns_form VA.out
          rw [List.length_map] at hva
          subst hva
          have PE := Lib.hid (lpending H.out)
          have v1 : IntKind.i64.wrap (16 - (kp.length : Int)) = (rs.length : Int) := by have := SM.out; rw [IntKind.wrap_i64]; omega
          have v2 : (16 : Int) - (kp.length : Int) = (rs.length : Int) := by have := SM.out; omega
          have t5 : ((rs.length : Int) == (rs.length : Int)) = true := by simp
          have kb : kp.length ≤ 16 := by have := SM.out; omega
          go_wp2_with fail
          (with_reducible refine PE.out.mono ?_)
          rintro e w6 ⟨v6, rfl, hv6, o6⟩
          obtain ⟨vf, vg, hve⟩ := owns_form hv6
          rw [sortI_len, List.length_map] at hve
          subst hve
          have H6 := Lib.hid (H.out.still o6)
          have V6 := Lib.hid (show OwnsAk w6 0 (.slice va kp.length vc) (kp.map akN) from VA.out.still o6)
          have TK := Lib.hid (ltake H6.out)
          clear hv6 o6 PE
          go_wp2_with fail
          (with_reducible refine TK.out.mono ?_)
          rintro e w7 ⟨v7, rfl, c7, h7, hv7, _, o7⟩
          have H7 := Lib.hid h7
          have V7 := Lib.hid (show OwnsAk w7 0 (.slice va kp.length vc) (kp.map akN) from V6.out.keep o7 (fun g hg q => q (NVA.out g hg).1))
          have AL := Lib.hid (AR.of_owns (G := fun _ => True) V7.out (KeptAt.nul w7 _ kp NN.out) (fun _ _ => trivial))
          obtain ⟨vh, vi, hve⟩ := hv7.len
          subst hve
          have AN := answers_any _ _ kp kp _ _ w7 hv7 AL.out (by omega) (by omega) (fun n hn => by rw [NN.out n hn]; decide) (fun n hn => by rw [NN.out n hn]; decide)
          rw [decide_eq_true rfl] at AN
          replace AN := Lib.hid AN
          have TK := Lib.hid (fun w' (o : Only none_ w7 w') => ltake (H7.out.still o))
          clear h7 hv7 o7 AL V6 V7
          go_wp2_with fail
          (with_reducible refine AN.out.mono ?_)
          rintro e w8 ⟨rfl, o8⟩
          have O8 := Lib.hid o8
          clear o8 AN
          go_wp2_with fail
          (with_reducible refine (TK.out w8 O8.out).mono ?_)
          rintro e w9 ⟨v9, rfl, c9, h9, hv9, _, _⟩
          obtain ⟨vj, vk, hve⟩ := hv9.len
          subst hve
          have H9 := Lib.hid h9
          clear h9 hv9 TK
          go_wp2_with fail
          go_ret
          exact ⟨rfl, H9.out.only.to_below17⟩



end Go.Proofs.Ytoflkeedfgnkhaa.reqOrder

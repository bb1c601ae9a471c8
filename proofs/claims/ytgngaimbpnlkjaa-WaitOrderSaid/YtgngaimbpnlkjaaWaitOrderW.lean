/- The walk through WaitOrder's own text. -/
import Derived.WalkKit
import Derived.ProofKit
import Derived.OpenShut
import Derived.Below
import Derived.Test.YtgngaimbpnlkjaaArgs
import Derived.Test.YtgngaimbpnlkjaaLw14
import Derived.Test.YtgngaimbpnlkjaaRw14
import Derived.Test.YtgngaimbpnlkjaaSrc
import Derived.Test.YtgngaimbpnlkjaaRgAdd2
import Derived.Test.YtgngaimbpnlkjaaActs14
import Derived.Test.YtgngaimbpnlkjaaOrd14
import Derived.Deep.Cut
import Derived.Deep.CutBlock
import Derived.Deep.CutRange
import Derived.Maps.AppendAt
namespace Go.Proofs.Ytgngaimbpnlkjaa.waitOrder
open Go.ChangeShapes Go.WideShapes Go.ChangeAt Go.RowKit
set_option linter.unusedVariables false


/-- the register, and who came, behind a world -/
structure OW (w0 w : World) (p : Nat) (M : Nat → Prop) (L : Nat) (ss : List Sx) (v : Value) (came : List Wt) : Prop where
  lw : LW w0 w p M 64 L ss
  own : OwnsWt w w0.heap.size v came
  apart : ∀ g, v.ownBlock = some g → ¬ M g
  came : Came came ss
theorem OW.up {w0 w : World} {p : Nat} {M : Nat → Prop} {L : Nat} {ss : List Sx} {v : Value} {came : List Wt} (h : OW w0 w p M L ss v came) {L' : Nat} (k : L ≤ L') : OW w0 w p M L' ss v came := ⟨h.lw.up k, h.own, h.apart, h.came⟩
theorem OW.still {w0 w w' : World} {p : Nat} {M : Nat → Prop} {L : Nat} {ss : List Sx} {v : Value} {came : List Wt} (h : OW w0 w p M L ss v came) (o : Only none_ w w') : OW w0 w' p M L ss v came := ⟨h.lw.still o, h.own.still o, h.apart, h.came⟩
theorem OW.call {w0 w w' : World} {p : Nat} {M : Nat → Prop} {L L' : Nat} {ss fs : List Sx} {v : Value} {came : List Wt} (h : OW w0 w p M L ss v came) (k : WGto w p M 64 L' fs w') :
    ∃ M' : Nat → Prop, LW w0 w' p M' 64 L' fs ∧ OwnsWt w' w0.heap.size v came ∧ (∀ g, v.ownBlock = some g → ¬ M' g) ∧ Only M w w' ∧ (∀ g, M' g → M g ∨ w.heap.size ≤ g) := by
  obtain ⟨M', hm, hM, o⟩ := h.lw.call k
  refine ⟨M', hm, h.own.keep o h.apart, fun g hg hn => ?_, o, hM⟩
  rcases hM g hn with z | z
  · exact h.apart g hg z
  · have := (h.own.base_le hg).2; omega
set_option maxHeartbeats 2000000 in
set_option maxRecDepth 100000 in
theorem walk (w : World) (ad0 : Option Addr) (len0 cap0 : Nat) (xs0 : List Act1) (max0 : len0 ≤ maxLen) (el0 : xs0.length = len0) (hold0 : Holds w ad0 4 Act1.cells xs0) (wf0 : ∀ x ∈ xs0, wfW x.w) :
    Calls Try.prog 7 #[.slice ad0 len0 cap0] w fun e w' => e = .returned (.bool true) ∧ Below w.heap.size w w' := by
  subst el0
  have HX := Lib.hid hold0
  have WFX := Lib.hid wf0
  clear hold0 wf0
  obtain ⟨i0, hi0, hz0, hz1, hz2⟩ := info_parts info_wt
  have I0 := Lib.hid hi0
  have I1 := Lib.hid hz0
  have I2 := Lib.hid hz1
  have I3 := Lib.hid hz2
  clear hi0 hz0 hz1 hz2
  go_enter Try.func7, Try.ntmps7
  go_wp2_with fail
  (with_reducible refine (awake14_any _).mono ?_)
  rintro e w1 ⟨rfl, o1⟩
  have O1 := Lib.hid o1
  clear o1
  go_wp2_with fail
  (with_reducible refine (new_64 w1).mono ?_)
  rintro e w2 ⟨p, rfl, h⟩
  obtain ⟨M1, hm⟩ := LW.start O1.out h
  have H2 := Lib.hid (show OW w w2 p M1 0 [] (.slice none 0 0) [] from ⟨hm, Owns.start _ _ _ _ _, fun g hg => (by cases hg), came_nil⟩)
  clear h hm O1
  go_wp2_with fail
  go_loopw [5, 6] (fun vc i wr => ∃ (k : Nat) (ss : List Sx) (M : Nat → Prop) (came : List Wt), k ≤ xs0.length ∧ k ≤ 150 ∧ i = .int .i64 k ∧ came.length ≤ k ∧ OW w wr p M k ss vc came) (fun _ i _ => xs0.length - (intOf i).toNat)
  case atStart => exact ⟨0, [], M1, [], Nat.zero_le _, Nat.zero_le _, rfl, Nat.le_refl _, H2.out⟩
  case round =>
    obtain ⟨k, ss, M, came, hk, hk2, rfl, hcl, hd⟩ := hrel
    have H := Lib.hid hd
    have CL := Lib.hid hcl
    clear hd H2 hcl
    by_cases hlt : k < xs0.length
    · have t1 : decide (k < xs0.length) = true := decide_eq_true hlt
      by_cases h150 : k < 150
      · have t2 : decide ((k : Int) < 150) = true := decide_eq_true (by omega)
        obtain ⟨a, ha⟩ : ∃ a, xs0[k]? = some a := ⟨_, List.getElem?_eq_getElem hlt⟩
        obtain ⟨b, o, rfl, hbl, c0, c1, c2, c3⟩ := act_at HX.out (H.out.lw.only.below (Nat.le_refl _) (fun _ _ s => s)) ha
        have c2' : wr.cell? ⟨b, o + k * 4 + 2, none⟩ = some (.int .i64 a.w.r) := c2
        have c3' : wr.cell? ⟨b, o + k * 4 + 2 + 1, none⟩ = some (.int .i64 a.w.p) := c3
        have RA := Lib.hid (Row.fresh wr 33 #[.int .i64 a.kind, .int .i64 a.n, .int .i64 a.w.r, .int .i64 a.w.p])
        have HA := Lib.hid (H.out.still ((Only.refl none_ wr).alloc (.cells #[.int .i64 a.kind, .int .i64 a.n, .int .i64 a.w.r, .int .i64 a.w.p] 33)))
        have nma := Lib.hid (show ¬ M wr.heap.size from fun h => Nat.lt_irrefl _ (H.out.lw.wg.lt _ h))
        have WXA := Lib.hid (WFX.out a (List.mem_of_getElem? ha))
        have KLA := Lib.hid (show k < 1000000 from by omega)
        clear ha hbl
        by_cases hr : 1 ≤ a.n ∧ a.n ≤ 9
        · have r1 : decide (a.n < 1) = false := decide_eq_false (by omega)
          have r2 : decide (9 < a.n) = false := decide_eq_false (by omega)
          have HR := Lib.hid hr
          clear hr
          go_upto_if 45 with fail
          clear c0 c1 c2 c3 c2' c3'
          revert RA HA nma
          generalize wr.alloc (.cells #[.int .i64 a.kind, .int .i64 a.n, .int .i64 a.w.r, .int .i64 a.w.p] 33) = W1
          generalize wr.heap.size = ga
          intro RA HA nma
          go_cut [5] from 21 to 117 (fun vc wx => ∃ (ss' : List Sx) (M' : Nat → Prop) (came' : List Wt), came'.length ≤ k + 1 ∧ OW w wx p M' (k + 1) ss' vc came')
          case first =>
            obtain ⟨x0, x1, x2, x3⟩ := RA.out.four
            by_cases e0 : a.kind = 0
            · have t0 : (a.kind == 0) = true := by simp [e0]
              have CA := Lib.hid (fun (w' : World) (h : OW w w' p M k ss u5 came) => show Calls Try.prog 11 #[.pointer (some ⟨p, 0, none⟩), .int .i64 a.n, .agg #[.int .i64 a.w.r, .int .i64 a.w.p]] w' (fun e w'' => e = .returned (.int .i64 (addI 64 ss a.n a.w)) ∧ WGto w' p M 64 (k + 1) (addS 64 ss a.n a.w) w'') from wadd_any a.n a.w w' h.lw.wg WXA.out KLA.out)
              clear e0
              by_cases ok : addI 64 ss a.n a.w = 0
              · have AS := Lib.hid (show addS 64 ss a.n a.w = ss ++ [⟨a.n, a.w⟩] from if_pos ok)
                rw [ok, AS.out] at CA
                clear ok
                go_wp2_with fail
                (with_reducible refine (CA.out _ HA.out).mono ?_)
                rintro e w4 ⟨rfl, k4⟩
                obtain ⟨M4, h4, own4, ap4, o4, hM4⟩ := HA.out.call k4
                have R4 := Lib.hid (o4.row RA.out nma.out)
                have H4 := Lib.hid h4
                have V4 := Lib.hid own4
                have A4 := Lib.hid ap4
                clear k4 h4 own4 ap4 o4 hM4 CA x0 x1 x2 x3
                obtain ⟨x0, x1, x2, x3⟩ := R4.out.four
                have OA := Lib.hid ((Only.refl none_ w4).alloc (.cells #[.int .i64 a.w.r, .int .i64 a.w.p] 31))
                have RF := Lib.hid (Row.fresh w4 31 #[.int .i64 a.w.r, .int .i64 a.w.p])
                have V5 := Lib.hid (V4.out.still OA.out)
                have H5 := Lib.hid (H4.out.still OA.out)
                have SR := Lib.hid (show Src (w4.alloc (.cells #[.int .i64 a.w.r, .int .i64 a.w.p] 31)) (.slice (some ⟨w4.heap.size, 0, none⟩) 1 1) 1 (Wt.cells a.w) from .inr ⟨_, _, rfl, fun j u hj => by rw [add14, Nat.zero_add, RF.out.cell, List.getElem?_toArray]; exact hj⟩)
                have sz : w.heap.size ≤ (w4.alloc (.cells #[.int .i64 a.w.r, .int .i64 a.w.p] 31)).heap.size := H5.out.only.size
                have kb : k ≤ 150 := by omega
                have l1 := Lib.hid (show came.length + 1 ≤ maxLen from by have := CL.out; unfold maxLen; omega)
                have l2 := Lib.hid (show (came.length + 1) * 16 ≤ 140737488355328 from by have := CL.out; omega)
                clear kb
                go_wp2_with (at_builtin; go_loud (refine wpList_append_src _ rfl (.tmp 53) (.tmp 56) 36 rfl w.heap.size 31 i0 _ 2 16 Try.underlying36 I0.out I1.out I2.out I3.out rfl (by decide) _ came.length _ rfl V5.out _ 1 (Wt.cells a.w) rfl SR.out rfl (wt_one a.w) l1.out l2.out sz ?_; intro v6 w6 hown6 hgr6 hbl6))
                have V6 := Lib.hid (show OwnsWt w6 w.heap.size v6 (came ++ [a.w]) from by
                  unfold OwnsWt Owns
                  rw [List.flatMap_append, List.length_append]
                  simpa using hown6)
                have H6 := Lib.hid (show LW w w6 p M4 64 (k + 1) (ss ++ [⟨a.n, a.w⟩]) from
                  ⟨H5.out.wg.keep (Only.of_grown hgr6) (fun g hg q => A4.out g q.symm hg), H5.out.new, H5.out.only.trans (Only.of_grown hgr6) (fun i hi q => by have := (V5.out.base_le q.symm).1; omega)⟩)
                have A6 := Lib.hid (show ∀ g, v6.ownBlock = some g → ¬ M4 g from fun g hg hm => by
                  rcases hbl6 with z | z
                  · rw [z] at hg; exact A4.out g hg hm
                  · rw [z] at hg
                    injection hg with hg
                    have := H5.out.wg.lt g hm
                    omega)
                clear hown6 hgr6 hbl6
                go_wp2_with fail
                go_meet
                exact ⟨_, M4, came ++ [a.w], by rw [List.length_append, List.length_singleton]; have := CL.out; omega, H6.out, V6.out, A6.out, H.out.came.add a.w HR.out⟩
              · have AS := Lib.hid (show addS 64 ss a.n a.w = ss from if_neg ok)
                rw [AS.out] at CA
                have tb : (addI 64 ss a.n a.w == 0) = false := by simp [ok]
                clear ok
                go_wp2_with fail
                (with_reducible refine (CA.out _ HA.out).mono ?_)
                rintro e w4 ⟨rfl, k4⟩
                obtain ⟨M4, h4, own4, ap4, o4, hM4⟩ := HA.out.call k4
                have H4 := Lib.hid (show OW w w4 p M4 (k + 1) ss u5 came from ⟨h4, own4, ap4, H.out.came⟩)
                clear k4 h4 own4 ap4 o4 hM4 CA x0 x1 x2 x3
                go_wp2_with fail
                go_meet
                exact ⟨_, M4, came, by have := CL.out; omega, by first | exact H4.out | exact H4.out.up (Nat.le_succ _)⟩
            · have t0 : (a.kind == 0) = false := by simp [e0]
              by_cases e1 : a.kind = 1
              · have t1 : (a.kind == 1) = true := by simp [e1]
                clear e0 e1
                go_wp2_with fail
                (with_reducible refine (wtake_any a.n _ HA.out.lw.wg).mono ?_)
                rintro e w4 ⟨u4, rfl, _, k4⟩
                obtain ⟨M4, h4, own4, ap4, o4, hM4⟩ := HA.out.call k4.to
                have H4 := Lib.hid (show OW w w4 p M4 k (leftT ss a.n) u5 came from ⟨h4, own4, ap4, H.out.came.take a.n⟩)
                clear k4 h4 own4 ap4 o4 hM4 x0 x1 x2 x3
                go_wp2_with fail
                go_meet
                exact ⟨_, M4, came, by have := CL.out; omega, by first | exact H4.out | exact H4.out.up (Nat.le_succ _)⟩
              · have t1 : (a.kind == 1) = false := by simp [e1]
                clear e0 e1
                go_wp2_with fail
                go_meet
                exact ⟨_, M, came, by have := CL.out; omega, HA.out.up (Nat.le_succ _)⟩
          case rest =>
            obtain ⟨ss', M', came', hcl', hd'⟩ := hcut
            have H := Lib.hid hd'
            have CL' := Lib.hid hcl'
            clear hcl' hd' HA RA nma CL
            obtain ⟨ac, cc, he, hcr⟩ := ReadsW.of_owns H.out.own
            subst he
            have CR := Lib.hid hcr
            have S64 := Lib.hid (show ss'.length ≤ 64 from H.out.lw.wg.good.len)
            have SU := Lib.hid (sum_all H.out.came.low)
            have C151 := Lib.hid (show came'.length ≤ 151 from by have := CL'.out; omega)
            clear hcr
            go_wp2_with fail
            go_loopw [8, 9] (fun n t wx => ∃ T : Nat, T ≤ 9 ∧ t = .int .i64 ((T : Int) + 1) ∧ n = .int .i64 ((sumL ss' T : Nat) : Int) ∧ Only none_ wc wx) (fun _ t _ => (10 - intOf t).toNat)
            case atStart => exact ⟨0, Nat.zero_le _, rfl, rfl, Only.refl _ _⟩
            case round =>
              obtain ⟨wx, rfl⟩ : ∃ x : World, x = wr := ⟨_, rfl⟩
              obtain ⟨T, hT, rfl, rfl, hO⟩ := hrel
              have OT := Lib.hid hO
              clear hO
              by_cases hT9 : T < 9
              · have t5 : decide ((T : Int) + 1 ≤ 9) = true := decide_eq_true (by omega)
                have HX2 := Lib.hid (H.out.still OT.out)
                have HTL := Lib.hid hT9
                have ts1 : sumL ss' T ≤ 1000 := by have := sum_le ss' T; have := S64.out; have := Nat.mul_le_mul (show T ≤ 9 by omega) (show ss'.length ≤ 64 from S64.out); omega
                have TB : T ≤ 100 := by omega
                clear hT
                go_wp2_with fail
                (with_reducible refine (wof_any ((T : Int) + 1) _ HX2.out.lw.wg).mono ?_)
                rintro e w7 ⟨vl, rfl, hl, o⟩
                obtain ⟨al, cl, he, hlr⟩ := hl.reads
                subst he
                have LR := Lib.hid hlr
                have O7 := Lib.hid (OT.out.same o)
                have SB := Lib.hid (H.out.came.of ((T : Int) + 1))
                have LW_ := Lib.hid (fun (x : Wt) (h : x ∈ ofL ss' ((T : Int) + 1)) => of_waits h)
                have WFO := Lib.hid (H.out.lw.wg.wfOf ((T : Int) + 1))
                have LE := Lib.hid (of_le ss' ((T : Int) + 1))
                have NXT := Lib.hid (show sumL ss' (T + 1) = sumL ss' T + (ofL ss' ((T : Int) + 1)).length from rfl)
                generalize hl' : ofL ss' ((T : Int) + 1) = l at *
                clear hl' hl hlr o OT HX2
                have lb : l.length ≤ 64 := by have := LE.out; have := S64.out; omega
                have cb : came'.length ≤ 151 := C151.out
                have v1 : IntKind.i64.wrap ((l.length : Int) - 1) = (l.length : Int) - 1 := by rw [IntKind.wrap_i64]; omega
                go_wp2_with fail
                go_loopw [11, 12] (fun at_ kk wy => ∃ (j m : Nat) (kv : Int), kk = .int .i64 kv ∧ kv = (j : Int) - 1 ∧ at_ = .int .i64 (m : Int) ∧ j ≤ l.length ∧ m ≤ came'.length ∧ (l.take j).Sublist (came'.take m) ∧ Only none_ w7 wy) (fun _ kk _ => (intOf kk + 1).toNat)
                case atStart => exact ⟨l.length, came'.length, _, rfl, rfl, rfl, Nat.le_refl _, Nat.le_refl _, by rw [List.take_length, List.take_length]; exact SB.out, Only.refl _ _⟩
                case round =>
                  obtain ⟨wy, rfl⟩ : ∃ x : World, x = wr := ⟨_, rfl⟩
                  obtain ⟨j, m, kv, rfl, hkv, rfl, hj, hm, hs, hO⟩ := hrel
                  have OY := Lib.hid hO
                  clear hO
                  cases j with
                  | zero =>
                    obtain rfl : kv = -1 := by omega
                    clear hkv
                    have v2 : IntKind.i64.wrap (((sumL ss' T : Nat) : Int) + (l.length : Int)) = ((sumL ss' T : Nat) : Int) + (l.length : Int) := by rw [IntKind.wrap_i64]; omega
                    clear hj hm hs
                    go_wp2_with fail
                    go_roundw
                    case rel => exact ⟨T + 1, HTL.out, by go_num, by rw [NXT.out, Int.natCast_add], O7.out.same OY.out⟩
                    case measure => have := HTL.out; simp [intOf]; omega
                  | succ j =>
                    obtain rfl : kv = (j : Int) := by omega
                    clear hkv
                    obtain ⟨x, hx⟩ : ∃ x, l[j]? = some x := ⟨_, List.getElem?_eq_getElem (by omega)⟩
                    rw [take_last hx] at hs
                    have hm1 : 1 ≤ m := by
                      rcases Nat.eq_zero_or_pos m with z | z
                      · subst z; simp at hs
                      · exact z
                    obtain ⟨m, rfl⟩ : ∃ m', m = m' + 1 := ⟨m - 1, by omega⟩
                    obtain ⟨gl, ol, rfl, cx0, cx1⟩ := LR.out j x hx
                    have HS := Lib.hid hs
                    have WX := Lib.hid (LW_.out x (List.mem_of_getElem? hx))
                    have WY := Lib.hid (WFO.out x (List.mem_of_getElem? hx))
                    have HM := Lib.hid hm
                    have HJ := Lib.hid hj
                    have jb : j ≤ 64 := by omega
                    have mb : m ≤ 151 := by omega
                    have jl : j < l.length := by omega
                    have d0 : decide ((0 : Int) ≤ (j : Int)) = true := decide_eq_true (by omega)
                    have v3 : IntKind.i64.wrap (((m + 1 : Nat) : Int) - 1) = (m : Int) := by rw [IntKind.wrap_i64]; omega
                    clear hs hm hj hm1 hx
                    go_wp2_with fail
                    go_loopw [11] (fun at_ wz => ∃ (m' : Nat), at_ = .int .i64 (m' : Int) ∧ m' < came'.length ∧ (l.take j ++ [x]).Sublist (came'.take (m' + 1)) ∧ Only none_ w7 wz) (fun at_ _ => (intOf at_ + 1).toNat)
                    case atStart => exact ⟨m, rfl, HM.out, HS.out, OY.out⟩
                    case round =>
                      obtain ⟨wz, rfl⟩ : ∃ x : World, x = wr := ⟨_, rfl⟩
                      obtain ⟨m', rfl, hm', hs', hO⟩ := hrel
                      have OZ := Lib.hid hO
                      clear hO
                      obtain ⟨y, hy⟩ : ∃ y, came'[m']? = some y := ⟨_, List.getElem?_eq_getElem hm'⟩
                      rw [take_last hy] at hs'
                      obtain ⟨gc, oc, rfl, cy0, cy1⟩ := CR.out m' y hy
                      have QC := Lib.hid (O7.out.same OZ.out)
                      have e0 : wz.cell? ⟨gc, oc + m' * 2, none⟩ = some (.int .i64 y.r) := QC.out.cell cy0 (fun s => s)
                      have e1 : wz.cell? ⟨gc, oc + m' * 2 + 1, none⟩ = some (.int .i64 y.p) := QC.out.cell cy1 (fun s => s)
                      have f0 : wz.cell? ⟨gl, ol + j * 2, none⟩ = some (.int .i64 x.r) := OZ.out.cell cx0 (fun s => s)
                      have f1 : wz.cell? ⟨gl, ol + j * 2 + 1, none⟩ = some (.int .i64 x.p) := OZ.out.cell cx1 (fun s => s)
                      have er := fun w => eq_wt y x w
                      have dm : decide ((0 : Int) ≤ (m' : Int)) = true := decide_eq_true (by omega)
                      have dj1 : (j : Int) < (l.length : Int) := by omega
                      have dm1 : (m' : Int) < (came'.length : Int) := by omega
                      have HM' := Lib.hid hm'
                      by_cases e : y = x
                      · rw [decide_eq_true e] at er
                        have NS := Lib.hid (show (l.take j).Sublist (came'.take m') from by rw [e] at hs'; exact sub_same hs')
                        clear e hs' hy cy0 cy1
                        have WW := Lib.hid (fun (w' : World) (o : Only none_ w7 w') => show Calls Try.prog 19 #[.pointer (some ⟨p, 0, none⟩), .agg #[.int .i64 x.r, .int .i64 x.p]] w' (fun e w'' => e = .returned (.bool true) ∧ Only none_ w' w'') from by
                          have := wwaits_any x w' (H.out.still (O7.out.same o)).lw.wg WY.out
                          rw [WX.out] at this
                          exact this)
                        have JL := Lib.hid (show j ≤ l.length from by omega)
                        clear dj1 dm1
                        go_wp2_with fail
                        go_quiet (fail)
                        go_wp2_with fail
                        (with_reducible refine (WW.out _ (OZ.out.drewN _)).mono ?_)
                        rintro e w8 ⟨rfl, o8⟩
                        have O8 := Lib.hid ((OZ.out.drewN _).same o8)
                        clear o8 WW
                        go_wp2_with fail
                        go_roundw
                        case rel => exact ⟨j, m', _, rfl, rfl, rfl, JL.out, Nat.le_of_lt HM'.out, NS.out, O8.out⟩
                        case measure => simp [intOf]
                      · rw [decide_eq_false e] at er
                        have NS := Lib.hid (sub_other e hs')
                        have M1' := Lib.hid (show 1 ≤ m' from by
                          rcases Nat.eq_zero_or_pos m' with z | z
                          · have := NS.out; subst z; simp at this
                          · exact z)
                        have v4 : IntKind.i64.wrap ((m' : Int) - 1) = ((m' - 1 : Nat) : Int) := by have := M1'.out; have := C151.out; rw [IntKind.wrap_i64]; omega
                        clear e hs' hy cy0 cy1
                        go_wp2_with fail
                        go_quiet (fail)
                        go_wp2_with fail
                        go_roundw
                        case rel => exact ⟨m' - 1, rfl, by have := HM'.out; omega, by rw [Nat.sub_add_cancel M1'.out]; exact NS.out, OZ.out.drewN _⟩
                        case measure => have := M1'.out; simp [intOf]; omega
              · obtain rfl : T = 9 := by omega
                have t5 : decide (((9 : Nat) : Int) + 1 ≤ 9) = false := rfl
                have HX2 := Lib.hid (H.out.still OT.out)
                have v5 : IntKind.i64.wrap (64 - (64 - (ss'.length : Int))) = (ss'.length : Int) := by have := S64.out; rw [IntKind.wrap_i64]; omega
                clear hT hT9
                rw [SU.out]
                go_wp2_with fail
                (with_reducible refine (wfree_any _ HX2.out.lw.wg).mono ?_)
                rintro e w7 ⟨rfl, o⟩
                have H7 := Lib.hid (HX2.out.still o)
                clear o
                go_wp2_with fail
                go_roundw
                case rel => exact ⟨k + 1, ss', M', came', by omega, by omega, by go_num, CL'.out, H7.out⟩
                case measure => simp [intOf]; omega
        · have HH := Lib.hid H.out
          by_cases n1 : a.n < 1
          · have r1 : decide (a.n < 1) = true := decide_eq_true n1
            clear hr n1
            go_wp2_with fail
            go_roundw
            case rel => exact ⟨k + 1, ss, M, came, by omega, by omega, by go_num, by have := CL.out; omega, HA.out.up (Nat.le_succ _)⟩
            case measure => simp [intOf]; omega
          · have r1 : decide (a.n < 1) = false := decide_eq_false n1
            have r2 : decide (9 < a.n) = true := decide_eq_true (by omega)
            clear hr n1
            go_wp2_with fail
            go_roundw
            case rel => exact ⟨k + 1, ss, M, came, by omega, by omega, by go_num, by have := CL.out; omega, HA.out.up (Nat.le_succ _)⟩
            case measure => simp [intOf]; omega
      · have t2 : decide ((k : Int) < 150) = false := decide_eq_false (by omega)
        go_wp2_with fail
        go_ret
        exact ⟨rfl, H.out.lw.only.below (Nat.le_refl _) (fun _ _ s => s)⟩
    · have t1 : decide (k < xs0.length) = false := decide_eq_false hlt
      go_wp2_with fail
      go_ret
      exact ⟨rfl, H.out.lw.only.below (Nat.le_refl _) (fun _ _ s => s)⟩



end Go.Proofs.Ytgngaimbpnlkjaa.waitOrder

/- The walk through ReqPlays's own text. -/
import Derived.WalkKit
import Derived.ProofKit
import Derived.OpenShut
import Derived.Below
import Derived.Test.YtoflkeedfgnkhaaArgs
import Derived.Test.YtoflkeedfgnkhaaAw17
import Derived.Test.YtoflkeedfgnkhaaDv17
import Derived.Deep.RegionHeld3
import Derived.Deep.Cut
import Derived.Deep.CutRange
import Derived.Deep.CutBlock
import Derived.Deep.DeepCutAuto
namespace Go.Proofs.Ytoflkeedfgnkhaa.reqPlays
open Go.ChangeShapes Go.WideShapes Go.ChangeAt Go.RowKit
set_option linter.unusedVariables false


set_option maxHeartbeats 4000000 in
set_option maxRecDepth 100000 in
theorem walk (w : World) (room : Int) (wr : (Lit.int .i64 room).wf = true) (ad1 : Option Addr) (len1 cap1 : Nat) (xs1 : List Act1) (max1 : len1 ≤ maxLen) (el1 : xs1.length = len1) (hold1 : Holds w ad1 5 Act1.cells xs1) (wf1 : ∀ x ∈ xs1, wfA x) :
    Calls Try.prog 3 #[.int .i64 room, .slice ad1 len1 cap1] w fun e w' => e = .returned (.bool true) ∧ Below w.heap.size w w' := by
  subst el1
  have HX := Lib.hid hold1
  have WFX := Lib.hid wf1
  clear hold1 wf1 wr
  by_cases hr : 1 ≤ room ∧ room ≤ 16
  · obtain ⟨n, rfl⟩ := Int.eq_ofNat_of_zero_le (show 0 ≤ room by omega)
    have t1 : decide ((n : Int) < 1) = false := decide_eq_false (by omega)
    have t2 : decide ((16 : Int) < (n : Int)) = false := decide_eq_false (by omega)
    have t3 : decide (n < 1) = false := decide_eq_false (by omega)
    have t4 : decide (16 < n) = false := decide_eq_false (by omega)
    have HN := Lib.hid (show 1 ≤ n ∧ n ≤ 16 from by omega)
    clear hr
    go_enter Try.func3, Try.ntmps3
    go_wp2_with fail
    (with_reducible refine (awake17_any _).mono ?_)
    rintro e w1 ⟨rfl, o1⟩
    have O1 := Lib.hid o1
    clear o1
    go_wp2_with fail
    (with_reducible refine (tnew_yes n w1 HN.out.1 HN.out.2).mono ?_)
    rintro e w2 ⟨p, rfl, h⟩
    obtain ⟨c1, hm, hnw⟩ := LT.start O1.out h
    have H2 := Lib.hid hm
    clear h hm hnw
    go_wp2_with fail
    (with_reducible refine (rnew_any n w2 HN.out.2).mono ?_)
    rintro e w3 ⟨q, rfl, ⟨d1, X3, hg, hn⟩, o⟩
    have D0 := Lib.hid (show D17 w w3 p c1 q d1 n 0 ⟨[], []⟩ n 0 ⟨[], []⟩ from ⟨H2.out.still o, ⟨_, hg⟩, fun g h => Nat.le_trans H2.out.only.size (hn g h), fun g h1 => Classical.byContradiction fun h2 => by have := hn g h2; have := H2.out.lt g h1; omega⟩)
    clear hg hn o H2 O1 t1 t2 t3 t4
    go_wp2_with fail
    go_loopw [8] (fun i wr => ∃ (k : Nat) (t : Tq) (c d : Nat → Nat), k ≤ xs1.length ∧ k ≤ 150 ∧ i = .int .i64 k ∧ Small17 t ∧ D17 w wr p c q d n k t n k t) (fun i _ => xs1.length - (intOf i).toNat)
    case atStart => exact ⟨0, ⟨[], []⟩, c1, d1, Nat.zero_le _, Nat.zero_le _, rfl, Small17.nil _, D0.out⟩
    case round =>
      obtain ⟨k, t, c, d, hk, hk2, rfl, hs, hd⟩ := hrel
      have D := Lib.hid hd
      have SM := Lib.hid hs
      have B1 := Lib.hid (show t.kept.length ≤ 1000000 from by have := hd.lt.kl; omega)
      clear hd D0 hs
      by_cases hlt : k < xs1.length
      · have t1 : decide (k < xs1.length) = true := decide_eq_true hlt
        by_cases h150 : k < 150
        · have t2 : decide ((k : Int) < 150) = true := decide_eq_true (by omega)
          obtain ⟨a, ha⟩ : ∃ a, xs1[k]? = some a := ⟨_, List.getElem?_eq_getElem hlt⟩
          obtain ⟨b, o, rfl, hbl, c0, c1', c2, c3, c4⟩ := act_at HX.out (D.out.lt.only.below (Nat.le_refl _) (fun _ _ s => s)) ha
          have c2' : wr.cell? ⟨b, o + k * 5 + 1 + 1, none⟩ = some (.int .i64 a.n) := c2
          have c3' : wr.cell? ⟨b, o + k * 5 + 1 + 1 + 1, none⟩ = some (.int .i64 a.place) := c3
          have c4' : wr.cell? ⟨b, o + k * 5 + 1 + 1 + 1 + 1, none⟩ = some (.int .u64 a.v) := c4
          have WX := Lib.hid (show (Lit.int .i64 a.id).wf = true from WFX.out a (List.mem_of_getElem? ha))
          have KL := Lib.hid (show k < 1000000 from by omega)
          clear ha hbl
          go_upto_region 13 with fail
          have DA := Lib.hid (E17.start (cs := #[.int .i64 a.kind, .int .i64 a.id, .int .i64 a.n, .int .i64 a.place, .int .u64 a.v]) D.out)
          clear c0 c1' c2 c3 c4 c2' c3' c4' D
          revert DA
          generalize wr.alloc (.cells #[.int .i64 a.kind, .int .i64 a.id, .int .i64 a.n, .int .i64 a.place, .int .u64 a.v] 32) = W1
          generalize wr.heap.size = g9
          intro DA
          have KS := Lib.hid (fun (w' : World) (h : Row w' g9 32 #[.int .i64 a.kind, .int .i64 a.id, .int .i64 a.n, .int .i64 a.place, .int .u64 a.v]) => five_row h)
          have DD := Lib.hid (DA.out.still (Only.refl none_ W1).drew)
          have PL := Lib.hid (fun (t : Tq) (g : GoodQ n t.rs) => show (sortI (t.rs.map (·.id))).length ≤ 1000000 from by rw [sortI_len, List.length_map]; have := g.len; have := HN.out; omega)
          have wb : (touchedB (stepT n t a).rs a.id != touchedB (stepT n t a).rs a.id) = false := by simp
          have wk : (kindI (stepT n t a).rs a.id != kindI (stepT n t a).rs a.id) = false := by simp
          obtain ⟨x0, x1, x2, x3, x4⟩ := KS.out _ DD.out.row
          go_region_held3 (fun w' => w'.cell? ⟨g9, 0, none⟩ = some (.int .i64 a.kind) ∧ w'.cell? ⟨g9, 1, none⟩ = some (.int .i64 a.id) ∧ w'.cell? ⟨g9, 2, none⟩ = some (.int .i64 a.n) ∧ w'.cell? ⟨g9, 3, none⟩ = some (.int .i64 a.place) ∧ w'.cell? ⟨g9, 4, none⟩ = some (.int .u64 a.v))
              (first
                | (with_reducible exact KS.out _ Q8.out.row)
                | (with_reducible exact KS.out _ Q7.out.row)
                | (with_reducible exact KS.out _ Q6.out.row)
                | (with_reducible exact KS.out _ Q5.out.row)
                | (with_reducible exact KS.out _ Q4.out.row)
                | (with_reducible exact KS.out _ Q3.out.row)
                | (with_reducible exact KS.out _ Q2.out.row)
                | (with_reducible exact KS.out _ Q1.out.row)
                | (with_reducible exact KS.out _ DD.out.row)
                | fail)
              (first
                | (go_at_call 11; (with_reducible refine (e_same DD.out a WX.out KL.out SM.out).mono ?_); rintro e u1 ⟨rfl, c2, d2, q1⟩; have Q1 := Lib.hid q1)
                | (go_at_call 13; (with_reducible refine (e_pend Q1.out).mono ?_); rintro e u2 ⟨va, rfl, ha, o2⟩; have Q2 := Lib.hid (Q1.out.still o2); have VA := Lib.hid (Reads.of_owns ha))
                | (go_at_call 14; (with_reducible refine (f_pend Q2.out).mono ?_); rintro e u3 ⟨vb, rfl, hb, o3⟩; have Q3 := Lib.hid (Q2.out.still o3); have VB := Lib.hid (Reads.of_owns hb); have VC := Lib.hid (VA.out.still o3))
                | (go_at_call 12; (with_reducible refine (ints_same _ _ _ _ VC.out VB.out (PL.out _ Q3.out.duo.lt.good)).mono ?_); rintro e u4 ⟨rfl, o4⟩; have Q4 := Lib.hid (Q3.out.still o4))
                | (go_at_call 15; (with_reducible refine (e_touch Q4.out a.id WX.out).mono ?_); rintro e u5 ⟨rfl, o5⟩; have Q5 := Lib.hid (Q4.out.still o5))
                | (go_at_call 16; (with_reducible refine (f_touch Q5.out a.id).mono ?_); rintro e u6 ⟨rfl, o6⟩; have Q6 := Lib.hid (Q5.out.still o6))
                | (go_at_call 17; (with_reducible refine (e_kind Q6.out a.id WX.out).mono ?_); rintro e u7 ⟨rfl, o7⟩; have Q7 := Lib.hid (Q6.out.still o7))
                | (go_at_call 18; (with_reducible refine (f_kind Q7.out a.id).mono ?_); rintro e u8 ⟨rfl, o8⟩; have Q8 := Lib.hid (Q7.out.still o8))
                | fail)
          go_wp2_with fail
          go_roundw
          case rel => exact ⟨k + 1, _, _, _, by omega, by omega, by go_num, SM.out.step DA.out.duo.lt.good n a, Q8.out.duo⟩
          case measure => simp [intOf]; omega
        · have t2 : decide ((k : Int) < 150) = false := decide_eq_false (by omega)
          go_wp2_with fail
          (with_reducible refine (d_take D.out).mono ?_)
          rintro e w4 ⟨va, rfl, c4, q4, a4⟩
          have Q4 := Lib.hid q4
          have A4 := Lib.hid a4
          clear q4 a4
          go_wp2_with fail
          (with_reducible refine (g_take Q4.out).mono ?_)
          rintro e w5 ⟨vb, rfl, d5, q5, a5, o5⟩
          have Q5 := Lib.hid q5
          have A5 := Lib.hid a5
          have A6 := Lib.hid (A4.out.keep o5 (fun g k1 k2 => k2 k1))
          clear q5 a5 o5
          go_wp2_with fail
          (with_reducible refine (answers_any va vb _ _ _ _ _ A6.out A5.out B1.out B1.out SM.out.big SM.out.big).mono ?_)
          rintro e w6 ⟨rfl, o6⟩
          have O6 := Lib.hid (Q5.out.lt.only.same o6)
          clear o6
          go_wp2_with fail
          go_ret
          exact ⟨by simp, O6.out.to_below17⟩
      · have t1 : decide (k < xs1.length) = false := decide_eq_false hlt
        go_wp2_with fail
        (with_reducible refine (d_take D.out).mono ?_)
        rintro e w4 ⟨va, rfl, c4, q4, a4⟩
        have Q4 := Lib.hid q4
        have A4 := Lib.hid a4
        clear q4 a4
        go_wp2_with fail
        (with_reducible refine (g_take Q4.out).mono ?_)
        rintro e w5 ⟨vb, rfl, d5, q5, a5, o5⟩
        have Q5 := Lib.hid q5
        have A5 := Lib.hid a5
        have A6 := Lib.hid (A4.out.keep o5 (fun g k1 k2 => k2 k1))
        clear q5 a5 o5
        go_wp2_with fail
        (with_reducible refine (answers_any va vb _ _ _ _ _ A6.out A5.out B1.out B1.out SM.out.big SM.out.big).mono ?_)
        rintro e w6 ⟨rfl, o6⟩
        have O6 := Lib.hid (Q5.out.lt.only.same o6)
        clear o6
        go_wp2_with fail
        go_ret
        exact ⟨by simp, O6.out.to_below17⟩
  · have WN := Lib.hid (fun w => tnew_no room w hr)
    have ways : decide (room < 1) = true ∨ (decide (room < 1) = false ∧ decide (16 < room) = true) := by
      by_cases h : room < 1
      · exact .inl (decide_eq_true h)
      · exact .inr ⟨decide_eq_false h, decide_eq_true (by omega)⟩
    clear hr
    rcases ways with t1 | ⟨t1, t2⟩
    all_goals
      go_enter Try.func3, Try.ntmps3
      go_wp2_with fail
      (with_reducible refine (awake17_any _).mono ?_)
      rintro e w1 ⟨rfl, o1⟩
      have O1 := Lib.hid o1
      clear o1
      go_wp2_with fail
      (with_reducible refine (WN.out _).mono ?_)
      rintro e w2 ⟨rfl, o2⟩
      have O2 := Lib.hid (O1.out.same o2)
      clear o2
      go_wp2_with fail
      go_ret
      exact ⟨rfl, O2.out.to_below17⟩



end Go.Proofs.Ytoflkeedfgnkhaa.reqPlays

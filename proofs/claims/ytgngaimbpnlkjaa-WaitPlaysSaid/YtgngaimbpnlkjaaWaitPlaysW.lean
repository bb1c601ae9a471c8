/- The walk through WaitPlays's own text. -/
import Derived.WalkKit
import Derived.ProofKit
import Derived.OpenShut
import Derived.Below
import Derived.Test.YtgngaimbpnlkjaaArgs
import Derived.Test.YtgngaimbpnlkjaaDuo14
import Derived.Deep.RegionHeld3
import Derived.Deep.Cut
import Derived.Deep.CutRange
import Derived.Deep.CutBlock
namespace Go.Proofs.Ytgngaimbpnlkjaa.waitPlays
open Go.ChangeShapes Go.WideShapes Go.ChangeAt Go.RowKit
set_option linter.unusedVariables false


set_option maxHeartbeats 2000000 in
set_option maxRecDepth 100000 in
theorem walk (w : World) (room : Int) (wr : (Lit.int .i64 room).wf = true) (ad1 : Option Addr) (len1 cap1 : Nat) (xs1 : List Act1) (max1 : len1 ≤ maxLen) (el1 : xs1.length = len1) (hold1 : Holds w ad1 4 Act1.cells xs1) (wf1 : ∀ x ∈ xs1, wfW x.w) :
    Calls Try.prog 3 #[.int .i64 room, .slice ad1 len1 cap1] w fun e w' => e = .returned (.bool true) ∧ Below w.heap.size w w' := by
  subst el1
  have HX := Lib.hid hold1
  have WFX := Lib.hid wf1
  clear hold1 wf1 wr
  by_cases hr : 1 ≤ room ∧ room ≤ 64
  · obtain ⟨n, rfl⟩ := Int.eq_ofNat_of_zero_le (show 0 ≤ room by omega)
    have t1 : decide ((n : Int) < 1) = false := decide_eq_false (by omega)
    have t2 : decide ((64 : Int) < (n : Int)) = false := decide_eq_false (by omega)
    have t3 : decide (n < 1) = false := decide_eq_false (by omega)
    have t4 : decide (64 < n) = false := decide_eq_false (by omega)
    have HN := Lib.hid (show 1 ≤ n ∧ n ≤ 64 from by omega)
    clear hr
    go_enter Try.func3, Try.ntmps3
    go_wp2_with fail
    (with_reducible refine (awake14_any _).mono ?_)
    rintro e w1 ⟨rfl, o1⟩
    have O1 := Lib.hid o1
    clear o1
    go_wp2_with fail
    (with_reducible refine (wnew_yes n w1 HN.out.1 HN.out.2).mono ?_)
    rintro e w2 ⟨p, rfl, h⟩
    obtain ⟨M1, hm⟩ := LW.start O1.out h
    have H2 := Lib.hid hm
    clear h hm
    go_wp2_with fail
    (with_reducible refine (rnew14_any n w2).mono ?_)
    rintro e w3 ⟨q, rfl, ⟨v3, N3, hg, hn⟩, o⟩
    have D0 := Lib.hid (show Duo w w3 p M1 q v3 N3 n 0 [] [] from ⟨H2.out.still o, hg, fun g h => Nat.le_trans H2.out.only.size (hn g h), fun g h1 h2 => by have := hn g h2; have := H2.out.wg.lt g h1; omega⟩)
    clear hg hn o H2 O1 t1 t2 t3 t4
    go_wp2_with fail
    go_loopw [8] (fun i wr => ∃ (k : Nat) (ss : List Sx) (M N : Nat → Prop) (v : Value), k ≤ xs1.length ∧ k ≤ 150 ∧ i = .int .i64 k ∧ Duo w wr p M q v N n k ss ss) (fun i _ => xs1.length - (intOf i).toNat)
    case atStart => exact ⟨0, [], M1, N3, v3, Nat.zero_le _, Nat.zero_le _, rfl, D0.out⟩
    case round =>
      obtain ⟨k, ss, M, N, v, hk, hk2, rfl, hd⟩ := hrel
      have D := Lib.hid hd
      clear hd D0
      by_cases hlt : k < xs1.length
      · have t1 : decide (k < xs1.length) = true := decide_eq_true hlt
        by_cases h150 : k < 150
        · have t2 : decide ((k : Int) < 150) = true := decide_eq_true (by omega)
          obtain ⟨a, ha⟩ : ∃ a, xs1[k]? = some a := ⟨_, List.getElem?_eq_getElem hlt⟩
          obtain ⟨b, o, rfl, hbl, c0, c1, c2, c3⟩ := act_at HX.out (D.out.lw.only.below (Nat.le_refl _) (fun _ _ s => s)) ha
          have c2' : wr.cell? ⟨b, o + k * 4 + 2, none⟩ = some (.int .i64 a.w.r) := c2
          have c3' : wr.cell? ⟨b, o + k * 4 + 2 + 1, none⟩ = some (.int .i64 a.w.p) := c3
          have WX := Lib.hid (WFX.out a (List.mem_of_getElem? ha))
          have KL := Lib.hid (show k < 1000000 from by omega)
          clear ha hbl
          go_upto_block 2 with fail
          have nb := D.out.lw.wg.lt
          have nc := D.out.rg.lt
          have DA := Lib.hid (show DR w (wr.alloc (.cells #[.int .i64 a.kind, .int .i64 a.n, .int .i64 a.w.r, .int .i64 a.w.p] 33)) p M q v N n k ss ss wr.heap.size #[.int .i64 a.kind, .int .i64 a.n, .int .i64 a.w.r, .int .i64 a.w.p] from
            ⟨D.out.still ((Only.refl none_ wr).alloc _), Row.fresh _ _ _, fun h => Nat.lt_irrefl _ (nb _ h), fun h => Nat.lt_irrefl _ (nc _ h)⟩)
          clear nb nc c0 c1 c2 c3 c2' c3' D
          revert DA
          generalize wr.alloc (.cells #[.int .i64 a.kind, .int .i64 a.n, .int .i64 a.w.r, .int .i64 a.w.p] 33) = W1
          generalize wr.heap.size = g9
          intro DA
          go_cut [10] from 38 to 127 (fun s wx => s = .bool true ∧ ∃ (M' N' : Nat → Prop) (v' : Value) (fs : List Sx), DR w wx p M' q v' N' n (k + 1) fs fs g9 #[.int .i64 a.kind, .int .i64 a.n, .int .i64 a.w.r, .int .i64 a.w.p])
          case first =>
            have KS := Lib.hid (fun (w' : World) (h : Row w' g9 33 #[.int .i64 a.kind, .int .i64 a.n, .int .i64 a.w.r, .int .i64 a.w.p]) => h.four)
            have LS := Lib.hid (show ss.length ≤ 1000 from len14 DA.out.duo rfl)
            have LO := Lib.hid (show (ofL ss a.n).length ≤ 1000000 from by have := of_le ss a.n; have := LS.out; omega)
            have LQ := Lib.hid (show (quitI ss a.n).length ≤ 1000000 from by have := quit_le ss a.n; have := LS.out; omega)
            have DD := Lib.hid (DA.out.still (Only.refl none_ W1).drew)
            clear hk hk2 t1 t2
            by_cases e0 : a.kind = 0
            · have t0 : (a.kind == 0) = true := by simp [e0]
              clear e0
              have cc : (addI n ss a.n a.w == addI n ss a.n a.w) = true := by simp
              obtain ⟨x0, x1, x2, x3⟩ := KS.out _ DD.out.row
              go_wp2_with fail
              go_region_held3 (fun w' => w'.cell? ⟨g9, 0, none⟩ = some (.int .i64 a.kind) ∧ w'.cell? ⟨g9, 1, none⟩ = some (.int .i64 a.n) ∧ w'.cell? ⟨g9, 2, none⟩ = some (.int .i64 a.w.r) ∧ w'.cell? ⟨g9, 3, none⟩ = some (.int .i64 a.w.p))
                  (first
                    | (with_reducible exact KS.out _ Q2.out.row)
                    | (with_reducible exact KS.out _ Q1.out.row)
                    | (with_reducible exact KS.out _ DD.out.row)
                    | fail)
                  (first
                    | (go_at_call 11; (with_reducible refine (c_add DD.out a.n a.w.r a.w.p WX.out KL.out).mono ?_); rintro e u1 ⟨rfl, M1, d1⟩; have Q1 := Lib.hid d1)
                    | (go_at_call 12; (with_reducible refine (d_add Q1.out LS.out a.n a.w.r a.w.p).mono ?_); rintro e u2 ⟨rfl, v2, N2, d2⟩; have Q2 := Lib.hid d2)
                    | fail)
              go_wp2_with fail
              go_meet
              exact ⟨by simp, _, _, _, _, Q2.out⟩
            by_cases e1 : a.kind = 1
            · have t0 : (a.kind == 0) = false := by simp [e0]
              have t1 : (a.kind == 1) = true := by simp [e1]
              clear e0 e1
              obtain ⟨x0, x1, x2, x3⟩ := KS.out _ DD.out.row
              go_wp2_with fail
              go_region_held3 (fun w' => w'.cell? ⟨g9, 0, none⟩ = some (.int .i64 a.kind) ∧ w'.cell? ⟨g9, 1, none⟩ = some (.int .i64 a.n) ∧ w'.cell? ⟨g9, 2, none⟩ = some (.int .i64 a.w.r) ∧ w'.cell? ⟨g9, 3, none⟩ = some (.int .i64 a.w.p))
                  (first
                    | (with_reducible exact KS.out _ Q3.out.row)
                    | (with_reducible exact KS.out _ Q2.out.row)
                    | (with_reducible exact KS.out _ Q1.out.row)
                    | (with_reducible exact KS.out _ DD.out.row)
                    | fail)
                  (first
                    | (go_at_call 14; (with_reducible refine (c_take DD.out a.n).mono ?_); rintro e u1 ⟨va, rfl, ha, hna, M1, d1⟩; have Q1 := Lib.hid d1; have VA := Lib.hid ha; have NA := Lib.hid hna)
                    | (go_at_call 15; (with_reducible refine (d_take Q1.out LS.out a.n).mono ?_); rintro e u2 ⟨vb, rfl, hb, hob, v2, N2, d2⟩; have Q2 := Lib.hid d2; have VB := Lib.hid (ReadsW.of_owns hb); have VC := Lib.hid (VA.out.keep hob NA.out).reads)
                    | (go_at_call 13; (with_reducible refine (same_self _ _ _ _ VC.out VB.out LO.out).mono ?_); rintro e u3 ⟨rfl, o3⟩; have Q3 := Lib.hid (Q2.out.still o3))
                    | fail)
              go_wp2_with fail
              go_meet
              exact ⟨rfl, _, _, _, _, Q3.out.up (Nat.le_succ _)⟩
            by_cases e2 : a.kind = 2
            · have t0 : (a.kind == 0) = false := by simp [e0]
              have t1 : (a.kind == 1) = false := by simp [e1]
              have t2 : (a.kind == 2) = true := by simp [e2]
              clear e0 e1 e2
              obtain ⟨x0, x1, x2, x3⟩ := KS.out _ DD.out.row
              go_wp2_with fail
              go_region_held3 (fun w' => w'.cell? ⟨g9, 0, none⟩ = some (.int .i64 a.kind) ∧ w'.cell? ⟨g9, 1, none⟩ = some (.int .i64 a.n) ∧ w'.cell? ⟨g9, 2, none⟩ = some (.int .i64 a.w.r) ∧ w'.cell? ⟨g9, 3, none⟩ = some (.int .i64 a.w.p))
                  (first
                    | (with_reducible exact KS.out _ Q3.out.row)
                    | (with_reducible exact KS.out _ Q2.out.row)
                    | (with_reducible exact KS.out _ Q1.out.row)
                    | (with_reducible exact KS.out _ DD.out.row)
                    | fail)
                  (first
                    | (go_at_call 17; (with_reducible refine (c_quit DD.out a.n).mono ?_); rintro e u1 ⟨va, rfl, ha, hna, M1, d1⟩; have Q1 := Lib.hid d1; have VA := Lib.hid ha; have NA := Lib.hid hna)
                    | (go_at_call 18; (with_reducible refine (d_quit Q1.out LS.out a.n).mono ?_); rintro e u2 ⟨vb, rfl, hb, hob, v2, N2, d2⟩; have Q2 := Lib.hid d2; have VB := Lib.hid (Reads.of_owns hb); have VC := Lib.hid (Reads.of_owns (VA.out.keep hob NA.out)))
                    | (go_at_call 16; (with_reducible refine (ints_self _ _ _ _ VC.out VB.out LQ.out).mono ?_); rintro e u3 ⟨rfl, o3⟩; have Q3 := Lib.hid (Q2.out.still o3))
                    | fail)
              go_wp2_with fail
              go_meet
              exact ⟨rfl, _, _, _, _, Q3.out.up (Nat.le_succ _)⟩
            have t0 : (a.kind == 0) = false := by simp [e0]
            have t1 : (a.kind == 1) = false := by simp [e1]
            have t2 : (a.kind == 2) = false := by simp [e2]
            clear e0 e1 e2
            go_wp2_with fail
            go_meet
            exact ⟨rfl, _, _, _, _, DA.out.up (Nat.le_succ _)⟩
          case rest =>
            obtain ⟨rfl, M', N', v', fs, hd⟩ := hcut
            have DB := Lib.hid hd
            clear hd DA
            have KS := Lib.hid (fun (w' : World) (h : Row w' g9 33 #[.int .i64 a.kind, .int .i64 a.n, .int .i64 a.w.r, .int .i64 a.w.p]) => h.four)
            have LS := Lib.hid (show fs.length ≤ 1000 from len14 DB.out.duo rfl)
            have LO := Lib.hid (show (ofL fs a.n).length ≤ 1000000 from by have := of_le fs a.n; have := LS.out; omega)
            obtain ⟨A, cap, rfl, _⟩ := DB.out.duo.rg.own.form
            have DD := Lib.hid (DB.out.still (Only.refl none_ wc).drew)
            have KK := Lib.hid (fun (w' : World) (d : DR w w' p M' q (.slice A fs.length cap) N' n (k + 1) fs fs g9 #[.int .i64 a.kind, .int .i64 a.n, .int .i64 a.w.r, .int .i64 a.w.p]) => And.intro d.row.four (show w'.cell? ⟨q, 1, none⟩ = some (.slice A fs.length cap) from by rw [d.duo.rg.row.cell]; rfl))
            obtain ⟨⟨x0, x1, x2, x3⟩, y0⟩ := KK.out _ DD.out
            have v1 : IntKind.i64.wrap ((n : Int) - (fs.length : Int)) = (n : Int) - (fs.length : Int) := by have := HN.out; have := LS.out; rw [IntKind.wrap_i64]; omega
            have wb : (waitsB fs ⟨a.w.r, a.w.p⟩ != waitsB fs ⟨a.w.r, a.w.p⟩) = false := by simp
            have wf : (((n : Int) - (fs.length : Int)) != ((n : Int) - (fs.length : Int))) = false := by simp
            go_wp2_with fail
            go_region_held3 (fun w' => (w'.cell? ⟨g9, 0, none⟩ = some (.int .i64 a.kind) ∧ w'.cell? ⟨g9, 1, none⟩ = some (.int .i64 a.n) ∧ w'.cell? ⟨g9, 2, none⟩ = some (.int .i64 a.w.r) ∧ w'.cell? ⟨g9, 3, none⟩ = some (.int .i64 a.w.p)) ∧ w'.cell? ⟨q, 1, none⟩ = some (.slice A fs.length cap))
              (first
                | (with_reducible exact KK.out _ Q6.out)
                | (with_reducible exact KK.out _ Q5.out)
                | (with_reducible exact KK.out _ Q4.out)
                | (with_reducible exact KK.out _ Q3.out)
                | (with_reducible exact KK.out _ Q2.out)
                | (with_reducible exact KK.out _ Q1.out)
                | (with_reducible exact KK.out _ DD.out)
                | fail)
              (first
                | (go_at_call 19; (with_reducible refine (c_waits DD.out a.w.r a.w.p WX.out).mono ?_); rintro e u1 ⟨rfl, o1⟩; have Q1 := Lib.hid (DD.out.still o1))
                | (go_at_call 20; (with_reducible refine (d_waits Q1.out LS.out a.w.r a.w.p).mono ?_); rintro e u2 ⟨rfl, o2⟩; have Q2 := Lib.hid (Q1.out.still o2))
                | (go_at_call 21; (with_reducible refine (c_of Q2.out a.n).mono ?_); rintro e u3 ⟨va, rfl, ha, o3⟩; have Q3 := Lib.hid (Q2.out.still o3); have VA := Lib.hid ha)
                | (go_at_call 22; (with_reducible refine (d_of Q3.out LS.out a.n).mono ?_); rintro e u4 ⟨vb, rfl, hb, o4⟩; have Q4 := Lib.hid (Q3.out.still o4); have VB := Lib.hid hb; have VC := Lib.hid (VA.out.still o4))
                | (go_at_call 13; (with_reducible refine (same_self _ _ _ _ VC.out VB.out LO.out).mono ?_); rintro e u5 ⟨rfl, o5⟩; have Q5 := Lib.hid (Q4.out.still o5))
                | (go_at_call 23; (with_reducible refine (c_free Q5.out).mono ?_); rintro e u6 ⟨rfl, o6⟩; have Q6 := Lib.hid (Q5.out.still o6))
                | fail)
            go_wp2_with fail
            go_roundw
            case rel => exact ⟨k + 1, fs, _, _, _, by omega, by omega, by go_num, Q6.out.duo⟩
            case measure => simp [intOf]; omega
        · have t2 : decide ((k : Int) < 150) = false := decide_eq_false (by omega)
          go_wp2_with fail
          go_ret
          exact ⟨rfl, D.out.lw.only.to_below14⟩
      · have t1 : decide (k < xs1.length) = false := decide_eq_false hlt
        go_wp2_with fail
        go_ret
        exact ⟨rfl, D.out.lw.only.to_below14⟩
  · have WN := Lib.hid (fun w => wnew_no room w hr)
    have ways : decide (room < 1) = true ∨ (decide (room < 1) = false ∧ decide (64 < room) = true) := by
      by_cases h : room < 1
      · exact .inl (decide_eq_true h)
      · exact .inr ⟨decide_eq_false h, decide_eq_true (by omega)⟩
    clear hr
    rcases ways with t1 | ⟨t1, t2⟩
    all_goals
      go_enter Try.func3, Try.ntmps3
      go_wp2_with fail
      (with_reducible refine (awake14_any _).mono ?_)
      rintro e w1 ⟨rfl, o1⟩
      have O1 := Lib.hid o1
      clear o1
      go_wp2_with fail
      (with_reducible refine (WN.out _).mono ?_)
      rintro e w2 ⟨rfl, o2⟩
      have O2 := Lib.hid (O1.out.same o2)
      clear o2
      go_wp2_with fail
      go_ret
      exact ⟨rfl, O2.out.to_below14⟩



end Go.Proofs.Ytgngaimbpnlkjaa.waitPlays

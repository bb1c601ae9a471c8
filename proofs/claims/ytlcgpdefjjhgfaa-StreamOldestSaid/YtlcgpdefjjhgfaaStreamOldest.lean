/- Proved: the statement StreamOldest of layer 10, for every shape and every row of acts, on no condition. -/
import Derived.Test.YtlcgpdefjjhgfaaRows
import Derived.WalkKit
import Derived.ProofKit
import Derived.OpenShut
import Derived.Below
import Derived.Test.YtlcgpdefjjhgfaaArgs
import Derived.Test.YtlcgpdefjjhgfaaOld10
import Derived.BigRegion
namespace Go.Proofs.Ytlcgpdefjjhgfaa.streamOldest
open Go.ChangeShapes Go.WideShapes Go.ChangeAt Go.RowKit
set_option linter.unusedVariables false

theorem own : ownKnob Try.prog.godebug = none := by kernel_rfl
theorem laidOut : laidOutB Try.prog = true := by kernel_rfl

set_option maxHeartbeats 2000000 in
set_option maxRecDepth 100000 in
theorem walk (w : World) (t : Tri) (wt : t.Wf) (A : Option Addr) (len cap : Nat) (xs : List Act1) (hmax : len ≤ maxLen) (hlen : xs.length = len) (hold : Holds w A 3 Act1.cells xs) (_ : ∀ a ∈ xs, True) :
    Calls Try.prog 6 #[t.val, .slice A len cap] w fun e w' => e = .returned (.bool true) ∧ Below w.heap.size w w' := by
  unfold maxLen at hmax
  have HL := Lib.hid hlen
  have HO := Lib.hid hold
  clear hlen hold
  obtain ⟨x0, x1, y0, y1, z0, z1⟩ := wt
  obtain ⟨S, hS, s1, s16⟩ := most_of t.x x0
  obtain ⟨D, hD, e1, e16⟩ := most_of t.y y0
  obtain ⟨B, hB, b1, b256⟩ := blocks_of t.z ⟨z0, z1⟩
  have NW := Lib.hid (fun w => trk_new S D B w s1 s16 e1 e16 b1 b256)
  have OK := Lib.hid (show (Cf.mk S 8 20 D B).Ok from ⟨s1, s16, (show 1 ≤ 8 by decide), (show 8 ≤ 32 by decide), (show 1 ≤ 20 by decide), (show 20 ≤ 64 by decide), e1, e16, b1, b256⟩)
  unfold Tri.val
  go_enter Try.func6, Try.ntmps6
  go_wp2_with fail
  have oa := (Only.refl none_ w).alloc (.cells #[.int .u8 t.x, .int .u8 t.y, .int .u8 t.z] 55)
  have rt := Row.fresh w 55 #[.int .u8 t.x, .int .u8 t.y, .int .u8 t.z]
  generalize w.alloc (.cells #[.int .u8 t.x, .int .u8 t.y, .int .u8 t.z] 55) = wa at *
  have OA := Lib.hid oa
  have RT := Lib.hid rt
  clear oa rt
  obtain ⟨bt, hbt⟩ : ∃ bt, bt = w.heap.size := ⟨_, rfl⟩
  rw [← hbt] at RT ⊢
  clear hbt
  (with_reducible refine (awake10_any _).mono ?_)
  rintro e w1 ⟨rfl, bl⟩
  have O1 := Lib.hid (below_only8 bl)
  have p0 : w1.cell? ⟨bt, 0, none⟩ = some (.int .u8 t.x) := ((O1.out.still RT.out).cell 0).trans rfl
  have p1 : w1.cell? ⟨bt, 1, none⟩ = some (.int .u8 t.y) := ((O1.out.still RT.out).cell 1).trans rfl
  have p2 : w1.cell? ⟨bt, 2, none⟩ = some (.int .u8 t.z) := ((O1.out.still RT.out).cell 2).trans rfl
  have W1 := Lib.hid (OA.out.same O1.out)
  clear bl OA O1 RT
  go_wp2_with fail
  (with_reducible refine (NW.out _).mono ?_)
  rintro e w2 ⟨q, rfl, h2⟩
  have H2 := Lib.hid h2
  clear h2 p0 p1 p2 NW hS hD hB
  go_wp2_with fail
  go_loopw [8, 9] (fun gv i wr => ∃ (j : Nat) (tr : Tr), j ≤ len ∧ j ≤ 150 ∧ i = .int .i64 j ∧ gv = .int .i64 tr.begun ∧ Trk w1 wr q ⟨S, 8, 20, D, B⟩ tr ∧ Fine10 ⟨S, 8, 20, D, B⟩ tr ∧ tr.uses ≤ j) (fun _ i _ => len - (intOf i).toNat)
  case atStart => exact ⟨0, _, Nat.zero_le _, Nat.zero_le _, rfl, rfl, H2.out, new_fine OK.out, Nat.zero_le _⟩
  case round =>
    obtain ⟨j, tr, hj, hj2, rfl, rfl, h, hf, hu⟩ := hrel
    clear H2
    have H := Lib.hid h
    have HF := Lib.hid hf
    clear h hf
    have t12 : (j < len ∧ j < 150) ∨ (j < len ∧ 150 ≤ j) ∨ len ≤ j := by omega
    rcases t12 with ⟨q1, q2⟩ | q1
    · obtain ⟨act, hact⟩ : ∃ act, xs[j]? = some act := ⟨_, List.getElem?_eq_getElem (by rw [HL.out]; exact q1)⟩
      obtain ⟨sb, so, hA, hsb, k0, k1, k2⟩ := act_at HO.out ((W1.out.same H.out.2).to_below8) hact
      subst hA
      clear hact
      have hu9 : tr.uses ≤ 900 := by omega
      have OX := Lib.hid ((Only.refl none_ wr).alloc (.cells #[.int .i64 act.kind, .int .i64 act.a, .int .i64 act.b] 34))
      have RX := Lib.hid (Row.fresh wr 34 #[.int .i64 act.kind, .int .i64 act.a, .int .i64 act.b])
      have HA := Lib.hid (H.out.still OX.out)
      by_cases kk : act.kind = 0
      · have kd : (act.kind == 0) = true := by simp [kk]
        have FL := Lib.hid (fine_len HF.out)
        have SS := Lib.hid (trk_streams HA.out (by have := FL.out; omega))
        clear kk
        go_wp2_with fail
        obtain ⟨xa, hxa⟩ : ∃ xa, wr.heap.size = xa := ⟨_, rfl⟩
        rw [hxa] at RX ⊢
        have LX := Lib.hid hxa
        clear hxa k0 k1 k2
        generalize wr.alloc (.cells #[.int .i64 act.kind, .int .i64 act.a, .int .i64 act.b] 34) = wb at *
        (with_reducible refine SS.out.mono ?_)
        rintro e w3 ⟨⟨A3, c3, rfl, hh3, hb3⟩, o3⟩
        have HS3 := Lib.hid hh3
        have HB3 := Lib.hid hb3
        have O3 := Lib.hid (OX.out.same o3)
        have RX3 := Lib.hid (o3.still RX.out)
        have AC := Lib.hid (trk_acc_from act.a act.b H.out O3.out HF.out hu9)
        obtain ⟨x0', x1', x2'⟩ := RX3.out.three
        clear hh3 hb3 o3 SS RX
        go_wp2_with fail
        (with_reducible refine AC.out.mono ?_)
        rintro e w4 ⟨ha, h4, o4⟩
        unfold Acc at ha
        subst ha
        have HS4 := Lib.hid (HS3.out.far10 o4 (fun a e k => by have := HB3.out a e; have := OX.out.size; omega))
        have RX4 := Lib.hid (o4.row RX3.out (fun k => by have := LX.out; omega))
        have H4 := Lib.hid h4
        clear h4 o4 HS3 RX3 AC x0' x1' x2'
        have NW := acc_new HF.out act.a act.b
        have NF := Lib.hid (accS_fine HF.out act.a act.b)
        have NU := accS_uses ⟨S, 8, 20, D, B⟩ tr act.a act.b
        rcases NW with ⟨nw1, nw2⟩ | ⟨nw1, nw2, nw3, nw4⟩
        · have dl : decide ((accI ⟨S, 8, 20, D, B⟩ tr act.a act.b : Int) ≤ (tr.begun : Int)) = true := by simp; omega
          have dl2 : decide (accI ⟨S, 8, 20, D, B⟩ tr act.a act.b ≤ tr.begun) = true := by simp; omega
          have H5 := Lib.hid (H4.out.still ((Only.refl none_ w4).alloc (.cells #[.int .i64 (accI ⟨S, 8, 20, D, B⟩ tr act.a act.b), .int .i64 (accR ⟨S, 8, 20, D, B⟩ tr act.a act.b).f, .int .i64 (accR ⟨S, 8, 20, D, B⟩ tr act.a act.b).c] 38)))
          clear H4 RX4 HS4 HA OX H
          go_wp2_with fail
          go_roundw
          case rel => exact ⟨j + 1, _, by omega, by omega, by go_num, by rw [nw2], H5.out, NF.out, by omega⟩
          case measure => simp [intOf]; omega
        · rw [nw4] at H4 NF NU
          rw [nw2, nw3]
          have M := mayAcc_iff.1 nw1
          obtain ⟨m1, m2, m3, m4⟩ := M
          have m5 : act.a + act.b ≤ B := m4
          have dl : decide (((tr.begun + 1 : Nat) : Int) ≤ (tr.begun : Int)) = false := by simp; omega
          have dl2 : decide ((tr.begun : Int) + 1 ≤ (tr.begun : Int)) = false := by simp; omega
          have hbeg := HF.out.beg
          obtain ⟨rf, rc⟩ := (Fl.start act.a).readR act.b D B
          have H5 := Lib.hid (H4.out.still ((Only.refl none_ w4).alloc (.cells #[.int .i64 ((tr.begun : Int) + 1), .int .i64 rf, .int .i64 rc] 38)))
          have HS5 := Lib.hid (HS4.out.still8 ((Only.refl none_ w4).alloc (.cells #[.int .i64 ((tr.begun : Int) + 1), .int .i64 rf, .int .i64 rc] 38)))
          have RX5 := Lib.hid (RX4.out.alloc (.cells #[.int .i64 ((tr.begun : Int) + 1), .int .i64 rf, .int .i64 rc] 38))
          clear nw1 nw2 nw3 nw4 H4 HS4 RX4 HA OX H
          go_wp2_with fail
          generalize w4.alloc (.cells #[.int .i64 ((tr.begun : Int) + 1), .int .i64 rf, .int .i64 rc] 38) = w5 at *
          have fl : tr.ss.length ≤ 16 := FL.out
          have few := HF.out.few
          have few' : tr.ss.length ≤ S := few
          have RK := Lib.hid HF.out.rank.apart
          go_loopw [14, 15] (fun ov kv wx => ∃ (k : Nat) (av gv : Int), k ≤ tr.ss.length ∧ kv = .int .i64 k ∧ ov = .int .i64 av ∧ Best (fun s => -(s.used : Int)) (fun _ => true) tr.ss k av gv ∧ (tr.ss.length = S ∨ k = 0) ∧ Only none_ w5 wx) (fun _ kv _ => tr.ss.length - (intOf kv).toNat)
          case atStart => exact ⟨0, -1, 0, Nat.zero_le _, rfl, rfl, Best.start _ _ _, .inr rfl, Only.refl _ _⟩
          case round =>
            obtain ⟨k, av, gv, hk, rfl, rfl, hb, hs0, ho⟩ := hrel
            have HB := Lib.hid hb
            have OO := Lib.hid ho
            clear hb ho
            have c3 : (k < tr.ss.length ∧ tr.ss.length = S) ∨ (¬ (k < tr.ss.length ∧ tr.ss.length = S) ∧ ((tr.ss.length = S ∧ k = tr.ss.length) ∨ (tr.ss.length ≠ S ∧ k = 0))) := by omega
            rcases c3 with ⟨r1, r2⟩ | ⟨r1, r2⟩
            · have e1 : ((tr.ss.length : Int) == (S : Int)) = true := by simp; omega
              obtain ⟨y, hy⟩ : ∃ y, tr.ss[k]? = some y := ⟨_, List.getElem?_eq_getElem r1⟩
              obtain ⟨yg, yo, hyA, _, cy⟩ := HS5.out k y hy
              have y5 : wr.cell? ⟨yg, yo + k * 6 + 5, none⟩ = some (.int .i64 y.used) := OO.out.cell (cy 5 _ rfl) (fun s => s)
              have HY := Lib.hid hy
              have HSL := Lib.hid r2
              clear r2 cy hy hs0
              rcases HB.out with ⟨h1, h2⟩ | ⟨jo, z, h1, h2, h3, h4, h5, h6, h7⟩
              · have dn : decide (av < 0) = true := by simp; omega
                have NX := Lib.hid (HB.out.more HY.out rfl (.inl h1))
                subst hyA
                clear h1 h2 HB
                go_wp2_with fail
                go_quiet (fail)
                go_wp2_with fail
                go_roundw
                case rel => exact ⟨k + 1, k, _, by omega, by go_num, rfl, NX.out, .inl HSL.out, OO.out.drewN _⟩
                case measure => simp [intOf]; omega
              · obtain ⟨zg, zo, hzA, _, cz⟩ := HS5.out jo z h3
                rw [hyA] at hzA
                injection hzA with hzA
                injection hzA with ez1 ez2
                subst ez1 ez2
                have z5 : wr.cell? ⟨yg, yo + jo * 6 + 5, none⟩ = some (.int .i64 z.used) := OO.out.cell (cz 5 _ rfl) (fun s => s)
                have dn : decide (av < 0) = false := by simp; omega
                subst h1
                have hav : ((jo : Int) ≠ -1) := by omega
                have jl : jo < tr.ss.length := by omega
                by_cases hg : y.used < z.used
                · have NX := Lib.hid (HB.out.more HY.out rfl (.inr (by rw [h4]; show -(z.used : Int) < -(y.used : Int); omega)))
                  have d2 : decide ((y.used : Int) < (z.used : Int)) = true := by simp; omega
                  subst hyA
                  clear h3 h4 h5 h6 h7 cz HB hav
                  go_wp2_with fail
                  go_quiet (fail)
                  go_wp2_with fail
                  go_roundw
                  case rel => exact ⟨k + 1, k, _, by omega, by go_num, rfl, NX.out, .inl HSL.out, OO.out.drewN _⟩
                  case measure => simp [intOf]; omega
                · have NX := Lib.hid (HB.out.less HY.out hav (by rw [h4]; show -(y.used : Int) ≤ -(z.used : Int); omega))
                  have d2 : decide ((y.used : Int) < (z.used : Int)) = false := by simp; omega
                  subst hyA
                  clear h3 h4 h5 h6 h7 cz HB hav
                  go_wp2_with fail
                  go_quiet (fail)
                  go_wp2_with fail
                  go_roundw
                  case rel => exact ⟨k + 1, jo, gv, by omega, by go_num, rfl, NX.out, .inl HSL.out, OO.out.drewN _⟩
                  case measure => simp [intOf]; omega
            · have OLD := Lib.hid (best_old RK.out HB.out s1 r2)
              have avb : -1 ≤ av ∧ av ≤ 16 := by
                rcases OLD.out with ⟨_, o, h1, _, h3⟩ | ⟨_, h1⟩ <;> omega
              obtain ⟨wo, hwo⟩ : ∃ wo : World, wo = wr := ⟨_, rfl⟩
              rw [← hwo] at OO ⊢
              clear hwo hs0 HB
              have H6 := Lib.hid (H5.out.still OO.out)
              have HS6 := Lib.hid (HS5.out.still8 OO.out)
              have RX6 := Lib.hid (OO.out.still RX5.out)
              have SS := Lib.hid (trk_streams H6.out (by have := fine_len NF.out; omega))
              have R1 := Lib.hid r1
              have g2 : (¬ k < tr.ss.length) ∨ (k < tr.ss.length ∧ ¬ tr.ss.length = S) := by omega
              clear OO H5 HS5 RX5 r1 r2
              have g5 : (decide ((k : Int) < (tr.ss.length : Int)) = false ∧ ¬ k < tr.ss.length) ∨ (decide ((k : Int) < (tr.ss.length : Int)) = true ∧ k < tr.ss.length ∧ ((tr.ss.length : Int) == (S : Int)) = false ∧ (tr.ss.length == S) = false ∧ ¬ tr.ss.length = S) := by
                rcases g2 with g2 | ⟨g2, g3⟩
                · left; simp; omega
                · right; simp; omega
              clear g2
              rcases g5 with ⟨g1, g2⟩ | ⟨g1, g2, g3, g4, g5⟩
              all_goals
                go_wp2_with fail
                (with_reducible refine SS.out.mono ?_)
                rintro e w6 ⟨⟨A6, c6, rfl, hh6, _⟩, o6⟩
                have H7 := Lib.hid (H6.out.still o6)
                have HN := Lib.hid hh6
                have HS7 := Lib.hid (HS6.out.still8 o6)
                have RX7 := Lib.hid (o6.still RX6.out)
                clear hh6 o6 SS H6 HS6 RX6
                obtain ⟨gs, hgs⟩ : ∃ gs, gs = fewer S tr.ss ++ [usedBy ⟨S, 8, 20, D, B⟩ ⟨tr.begun + 1, Fl.start act.a, 0⟩ act.b (tr.uses + 1)] := ⟨_, rfl⟩
                rw [← hgs] at HN ⊢
                have GL := Lib.hid (show gs.length = (fewer S tr.ss).length + 1 from by rw [hgs]; simp)
                have GE := Lib.hid (show jj av tr.ss.length = (fewer S tr.ss).length from old_end OLD.out few')
                have GG := Lib.hid (fun (m : Nat) (s : Sm) (hm : tr.ss[m]? = some s) (hne : (m : Int) ≠ av) => show gs[jj av m]? = some s from by rw [hgs]; exact old_get OLD.out few' _ hm hne)
                have GN := Lib.hid (show gs[jj av tr.ss.length]? = some (usedBy ⟨S, 8, 20, D, B⟩ ⟨tr.begun + 1, Fl.start act.a, 0⟩ act.b (tr.uses + 1)) from by rw [GE.out, hgs]; simp)
                have gl17 : gs.length ≤ 17 := by have := jj_le av tr.ss.length; have := GL.out; have := GE.out; omega
                have EQ := Lib.hid (fun (s : Sm) w => eq_sm s s w)
                clear hgs
                go_wp2_with fail
                go_loopw [17, 18] (fun jv kv wx => ∃ m : Nat, m ≤ tr.ss.length ∧ kv = .int .i64 m ∧ jv = .int .i64 (jj av m) ∧ Only none_ w6 wx) (fun _ kv _ => tr.ss.length - (intOf kv).toNat)
                case atStart => exact ⟨0, Nat.zero_le _, rfl, by have := jj_le av 0; rw [show jj av 0 = 0 by omega]; rfl, Only.refl _ _⟩
                case round =>
                  obtain ⟨m, hmm, rfl, rfl, ho⟩ := hrel
                  have OO := Lib.hid ho
                  clear ho
                  by_cases r3 : m < tr.ss.length
                  · obtain ⟨y, hy⟩ : ∃ y, tr.ss[m]? = some y := ⟨_, List.getElem?_eq_getElem r3⟩
                    by_cases r4 : (m : Int) = av
                    · have dm : ((m : Int) == av) = true := by simpa using r4
                      have JS := Lib.hid (jj_skip r4)
                      clear r4 hy
                      go_wp2_with fail
                      go_roundw
                      case rel => exact ⟨m + 1, by omega, by go_num, by rw [JS.out], OO.out⟩
                      case measure => simp [intOf]; omega
                    · have dm : ((m : Int) == av) = false := by simpa using r4
                      have JS := Lib.hid (jj_on r4)
                      have jg := GG.out m y hy r4
                      have jl := lt_of_get jg
                      have jm := jj_le av m
                      obtain ⟨yg, yo, rfl, _, cy⟩ := HS7.out m y hy
                      obtain ⟨zg, zo, rfl, _, cz⟩ := HN.out _ y jg
                      clear GL GE GG
                      generalize jj av m = jm' at *
                      have y0 : wr.drew.cell? ⟨yg, yo + m * 6, none⟩ = some (.int .i64 y.id) := OO.out.drew.cell (cy 0 _ rfl) (fun s => s)
                      have y1 : wr.drew.cell? ⟨yg, yo + m * 6 + 1, none⟩ = some (.int .i64 y.f.n) := OO.out.drew.cell (cy 1 _ rfl) (fun s => s)
                      have y2 : wr.drew.cell? ⟨yg, yo + m * 6 + 2, none⟩ = some (.int .i64 y.f.a) := OO.out.drew.cell (cy 2 _ rfl) (fun s => s)
                      have y3 : wr.drew.cell? ⟨yg, yo + m * 6 + 3, none⟩ = some (.int .i64 y.f.p) := OO.out.drew.cell (cy 3 _ rfl) (fun s => s)
                      have y4 : wr.drew.cell? ⟨yg, yo + m * 6 + 4, none⟩ = some (.int .i64 y.f.g) := OO.out.drew.cell (cy 4 _ rfl) (fun s => s)
                      have y5 : wr.drew.cell? ⟨yg, yo + m * 6 + 5, none⟩ = some (.int .i64 y.used) := OO.out.drew.cell (cy 5 _ rfl) (fun s => s)
                      have z0 : wr.drew.cell? ⟨zg, zo + jm' * 6, none⟩ = some (.int .i64 y.id) := OO.out.drew.cell (cz 0 _ rfl) (fun s => s)
                      have z1 : wr.drew.cell? ⟨zg, zo + jm' * 6 + 1, none⟩ = some (.int .i64 y.f.n) := OO.out.drew.cell (cz 1 _ rfl) (fun s => s)
                      have z2 : wr.drew.cell? ⟨zg, zo + jm' * 6 + 2, none⟩ = some (.int .i64 y.f.a) := OO.out.drew.cell (cz 2 _ rfl) (fun s => s)
                      have z3 : wr.drew.cell? ⟨zg, zo + jm' * 6 + 3, none⟩ = some (.int .i64 y.f.p) := OO.out.drew.cell (cz 3 _ rfl) (fun s => s)
                      have z4 : wr.drew.cell? ⟨zg, zo + jm' * 6 + 4, none⟩ = some (.int .i64 y.f.g) := OO.out.drew.cell (cz 4 _ rfl) (fun s => s)
                      have z5 : wr.drew.cell? ⟨zg, zo + jm' * 6 + 5, none⟩ = some (.int .i64 y.used) := OO.out.drew.cell (cz 5 _ rfl) (fun s => s)
                      have dj : decide ((gs.length : Int) ≤ (jm' : Int)) = false := by simp; omega
                      have dj2 : decide (gs.length ≤ jm') = false := by simp; omega
                      have EY := fun w => EQ.out y w
                      simp only [decide_true] at EY
                      clear r4 hy jg cy cz
                      go_wp2_with fail
                      go_region
                      all_goals
                        go_wp2_with fail
                        go_roundw
                        case rel => exact ⟨m + 1, by omega, by go_num, by rw [JS.out]; go_num, OO.out.drew⟩
                        case measure => simp [intOf]; omega
                  · have e : m = tr.ss.length := by omega
                    subst e
                    have HGL := Lib.hid (show gs.length = jj av tr.ss.length + 1 from by rw [GL.out, GE.out])
                    have jm := jj_le av tr.ss.length
                    clear GL GE GG
                    obtain ⟨zg, zo, rfl, _, cz⟩ := HN.out _ _ GN.out
                    have jl := lt_of_get GN.out
                    generalize jj av tr.ss.length = jm' at *
                    have z0 : wr.drew.cell? ⟨zg, zo + jm' * 6, none⟩ = some (.int .i64 ((tr.begun : Int) + 1)) := OO.out.drew.cell (cz 0 _ rfl) (fun s => s)
                    have z1 : wr.drew.cell? ⟨zg, zo + jm' * 6 + 1, none⟩ = some (.int .i64 (act.a + act.b)) := by
                      rw [← start_next (d := D) (b := B) (start_may ⟨e1, e16⟩ ⟨b1, b256⟩ ⟨m3, by omega⟩) m1 m2 m5]
                      exact OO.out.drew.cell (cz 1 _ rfl) (fun s => s)
                    obtain ⟨x0', x1', x2'⟩ := (OO.out.drew.still RX7.out).three
                    have dk : ((jm' : Int) != (gs.length : Int) - 1) = false := by have := HGL.out; simp; omega
                    have dk2 : ((jm' : Int) == (gs.length : Int) - 1) = true := by have := HGL.out; simp; omega
                    have hw9 : IntKind.i64.wrap (act.a + act.b) = act.a + act.b := by rw [IntKind.wrap_i64]; omega
                    have H8 := Lib.hid (H7.out.still OO.out)
                    clear cz
                    go_wp2_with fail
                    go_region
                    all_goals
                      go_wp2_with fail
                      go_roundw
                      case rel => exact ⟨j + 1, _, by omega, by omega, by go_num, by go_num, H8.out.drew, NF.out, (show tr.uses + 1 ≤ j + 1 by omega)⟩
                      case measure => simp [intOf]; omega
      · have kd : (act.kind == 0) = false := by simp [kk]
        have NF := Lib.hid (tuneS_fine HF.out act.a true)
        have NU := tuneS_uses tr act.a true
        have NB := tuneS_begun tr act.a true
        have LT := Lib.hid (trk_late act.a HA.out HF.out (by omega))
        clear kk
        go_wp2_with fail
        (with_reducible refine LT.out.mono ?_)
        rintro e w3 ⟨rfl, h3⟩
        have H3 := Lib.hid h3
        clear h3 LT H HA OX RX
        go_wp2_with fail
        go_roundw
        case rel => exact ⟨j + 1, _, by omega, by omega, by go_num, by rw [NB], H3.out, NF.out, by omega⟩
        case measure => simp [intOf]; omega
    · have W3 := Lib.hid ((W1.out.same H.out.2).to_below8)
      rcases q1 with ⟨q1, q2⟩ | q1
      all_goals
        go_wp2_with fail
        go_ret
        exact ⟨rfl, W3.out⟩


set_option maxRecDepth 100000 in
theorem lifted (os : Os) (started : os.Started) (H : Type) (enc : TypeId × Value → H) :
    ReturnsInHanded {} Try.checked os 6 .any (Rows.streamOldestSpec.pre6 enc Try.prog Try.f6 Rows.streamOldestRow.domain false) (Rows.streamOldestSpec.post enc Try.prog Try.f6 false true false false) := by
  refine returnsInHanded_of_change (C := Try.checked) own started (by kernel_rfl) Try.func6
    (ChangeSpec.witness6 (enc := enc) (C := Try.checked) false ⟨#[], #[.agg #[.int .u8 0, .int .u8 0, .int .u8 0], .slice none 0 0], []⟩ 8 (by kernel_rfl) (by kernel_rfl) (by kernel_rfl) (by kernel_rfl)) ?_
  intro W base args ds gs before hval0 hW hcnd _
  have hval : ∀ (j : Nat) t v, Try.f6.params[j]? = some t → args[j]? = some v → Value.okWide Try.prog W .any base t v := hval0
  have hW' := hW
  obtain ⟨p, q, hA0, hV, rfl, hfz, hnd⟩ := hW
  have hA : DataW.TrodAll enc Try.prog W 0 (fun _ => true) true Try.f6.params.toList args.toList ds p := hA0
  rw [Try.params6] at hA hval
  obtain ⟨v0, vs0, d0, ds0, p0, q0, hargs, rfl, rfl, h0, r0⟩ := trodAll_cons hA
  obtain ⟨v1, vs1, d1, ds1, p1, q1, rfl, rfl, rfl, h1, r1⟩ := trodAll_cons r0
  obtain ⟨rfl, rfl, rfl⟩ := trodAll_nil r1
  obtain rfl : args = #[v0, v1] := by cases args; simp_all
  obtain ⟨rfl, rfl⟩ := trodVars_none hV
  have o0 := hval 0 55 v0 rfl rfl
  have k0 := h0
  have lt0 : ∀ x ∈ p0, x.block < W.heap.size := by obtain ⟨m, hm⟩ := k0; exact DataW.trod_lt m _ _ _ hm
  obtain ⟨a0, rfl, wa0⟩ := open_tri W base H enc v0 d0 p0 o0 h0
  have k1 := h1
  have lt1 : ∀ x ∈ p1, x.block < W.heap.size := by obtain ⟨m, hm⟩ := k1; exact DataW.trod_lt m _ _ _ hm
  obtain ⟨ad1, len1, cap1, rfl⟩ := okWide_slice Try.underlying24 (hval 1 24 v1 rfl rfl)
  obtain ⟨fuel1, hf1⟩ := h1
  obtain ⟨max1, xs1, el1, hold1, wf1⟩ := open_acts hf1
  have shut : ∀ W', Below W.heap.size W W' → DataW.TrodAll enc Try.prog W' 0 (fun b => decide (b < W.heap.size)) true [55, 24] [a0.val, .slice ad1 len1 cap1] [d0, d1] (p0 ++ (p1 ++ [])) := fun W' bel =>
    (trodAll_cons_mk (Below.trod laidOut (by kernel_rfl) (of_decide_eq_true (by kernel_rfl)) k0 bel lt0) (trodAll_cons_mk (Below.trod laidOut (by kernel_rfl) (of_decide_eq_true (by kernel_rfl)) k1 bel lt1) trodAll_mk0))
  clear hA0 hval0
  refine (walk W a0 wa0 ad1 len1 cap1 xs1 max1 el1 hold1 wf1).mono fun e W' ⟨he, bel⟩ => ?_
  subst he
  exact ⟨_, rfl, _, _, _, [], _, [], hW', trodAll_mk1 (shut_bool Try.underlying4 _), shut W' bel, rfl, bel.frame _, fun h => by cases h⟩

theorem over : Rows.streamOldestRow.holds Try.pinned (OpenSpec.ofChange Rows.streamOldestSpec) :=
  OpenClaim.holds_of_wide 6 Try.f6 rfl rfl rfl rfl rfl rfl rfl ⟨rfl, rfl, rfl, rfl, rfl⟩ rfl rfl rfl rfl rfl (by kernel_rfl) Try.func6 (by kernel_rfl)
    (of_decide_eq_true (by kernel_rfl)) (by unfold Func.isWrapper; first | (rw [if_pos (by decide +kernel)]; kernel_rfl) | (rw [if_neg (by decide +kernel)]; exact ⟨rfl, rfl⟩))
    (fun os started H enc _ => lifted os started H enc)

theorem streamOldest_holds : Rows.StreamOldestSaid := over
#print axioms streamOldest_holds
end Go.Proofs.Ytlcgpdefjjhgfaa.streamOldest

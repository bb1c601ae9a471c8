/- The walk through WaitRoom's own text. -/
import Derived.WalkKit
import Derived.ProofKit
import Derived.OpenShut
import Derived.Below
import Derived.Test.YtgngaimbpnlkjaaArgs
import Derived.Test.YtgngaimbpnlkjaaLw14
import Derived.Test.YtgngaimbpnlkjaaRw14
import Derived.Test.YtgngaimbpnlkjaaActs14
import Derived.Test.YtgngaimbpnlkjaaRm14
import Derived.Lib.MinMax
namespace Go.Proofs.Ytgngaimbpnlkjaa.waitRoom
open Go.ChangeShapes Go.WideShapes Go.ChangeAt Go.RowKit
set_option linter.unusedVariables false


theorem wfW_mk {r p : Int} (h1 : 0 ≤ r ∧ r ≤ 1000) (h2 : 0 ≤ p ∧ p ≤ 1000) : wfW ⟨r, p⟩ := ⟨wf_small h1.1 h1.2, wf_small h2.1 h2.2⟩
/-- the ticket that the i-th waits for -/
def tickN (bs : List Int) (i : Nat) : Int := if bs.length = 0 then 1 else 1 + (bs[i % bs.length]?.getD 0)
theorem tick_low {bs : List Int} (h : ∀ x ∈ bs, 0 ≤ x ∧ x ≤ 255) (i : Nat) : 1 ≤ tickN bs i := by
  unfold tickN
  by_cases e : bs.length = 0
  · rw [if_pos e]; decide
  · rw [if_neg e]
    have hl : i % bs.length < bs.length := Nat.mod_lt _ (by omega)
    rw [List.getElem?_eq_getElem hl]
    have := h _ (List.getElem_mem hl)
    simp
    omega
set_option maxHeartbeats 2000000 in
set_option maxRecDepth 100000 in
theorem walk (w : World) (room : Int) (wr : (Lit.int .u8 room).wf = true) (ad1 : Option Addr) (len1 cap1 : Nat) (xs1 : List Int) (max1 : len1 ≤ maxLen) (el1 : xs1.length = len1) (hold1 : Holds w ad1 1 byteC xs1) (wf1 : ∀ x ∈ xs1, (0 ≤ x ∧ x ≤ 255)) (quit : Int) (wq : (Lit.int .u8 quit).wf = true) :
    Calls Try.prog 6 #[.int .u8 room, .slice ad1 len1 cap1, .int .u8 quit] w fun e w' => e = .returned (.bool true) ∧ Below w.heap.size w w' := by
  subst el1
  have HX := Lib.hid hold1
  have HT := Lib.hid (tick_low wf1)
  have HF := Lib.hid wf1
  clear hold1 wf1
  have b1 := bd_u8 wr
  have b2 := bd_u8 wq
  clear wr wq
  obtain ⟨r, rfl⟩ := Int.eq_ofNat_of_zero_le b1.1
  obtain ⟨z, rfl⟩ := Int.eq_ofNat_of_zero_le b2.1
  obtain ⟨n, hn⟩ : ∃ n, n = 1 + r % 64 := ⟨_, rfl⟩
  have v1 : IntKind.i64.wrap (r : Int) = (r : Int) := by rw [IntKind.wrap_i64]; omega
  have v2 : ((r : Int)).tmod 64 = ((r % 64 : Nat) : Int) := by rfl
  have v3 : IntKind.i64.wrap (1 + ((r % 64 : Nat) : Int)) = (n : Int) := by rw [hn, IntKind.wrap_i64]; omega
  have NB := Lib.hid (show 1 ≤ n ∧ n ≤ 64 from by omega)
  have HN := Lib.hid hn
  have B2 := Lib.hid b2
  clear b1 b2 hn
  go_enter Try.func6, Try.ntmps6
  go_wp2_with fail
  (with_reducible refine (awake14_any _).mono ?_)
  rintro e w1 ⟨rfl, o1⟩
  have O1 := Lib.hid o1
  clear o1
  go_wp2_with fail
  rw [show (1 + (r : Int) % 64) = (n : Int) from by have := HN.out; omega]
  clear v1 v2 v3 HN
  (with_reducible refine (wnew_yes n w1 NB.out.1 NB.out.2).mono ?_)
  rintro e w2 ⟨p, rfl, h⟩
  obtain ⟨M1, hm⟩ := LW.start O1.out h
  have H2 := Lib.hid (show LW w w2 p M1 n 0 (roomL (tickN xs1) 0) from hm)
  clear h hm O1
  go_wp2_with fail
  go_loopw [10] (fun i wr => ∃ (k : Nat) (M : Nat → Prop), k ≤ n ∧ i = .int .i64 k ∧ LW w wr p M n k (roomL (tickN xs1) k)) (fun i _ => n - (intOf i).toNat)
  case atStart => exact ⟨0, M1, Nat.zero_le _, rfl, H2.out⟩
  case round =>
    obtain ⟨k, M, hk, rfl, hd⟩ := hrel
    have H := Lib.hid hd
    clear hd H2
    have nb := NB.out
    by_cases hlt : k < n
    · have t1 : decide (k < n) = true := decide_eq_true hlt
      have KB := Lib.hid hlt
      have v4 : IntKind.i64.wrap ((n : Int) - 1) = (n : Int) - 1 := by rw [IntKind.wrap_i64]; omega
      have v5 : IntKind.i64.wrap ((n : Int) - 1 - (k : Int)) = (n : Int) - 1 - (k : Int) := by rw [IntKind.wrap_i64]; omega
      have v9 : IntKind.i64.wrap ((k : Int) / 8) = (k : Int) / 8 := by rw [IntKind.wrap_i64]; omega
      have kb : k ≤ 64 := by omega
      have v6 : IntKind.i64.wrap (1 + (k : Int) / 8) = 1 + (k : Int) / 8 := by rw [IntKind.wrap_i64]; omega
      have wf : ((n : Int) - 1 - (k : Int) != (n : Int) - 1 - (k : Int)) = false := by simp
      have CA := Lib.hid (fun (w' : World) (h : LW w w' p M n k (roomL (tickN xs1) k)) => show Calls Try.prog 11 #[.pointer (some ⟨p, 0, none⟩), .int .i64 (tickN xs1 k), .agg #[.int .i64 (1 + (k : Int) / 8), .int .i64 ((k : Int) % 8)]] w' (fun e w'' => e = .returned (.int .i64 0) ∧ WGto w' p M n (k + 1) (roomL (tickN xs1) (k + 1)) w'') from by
        have := wadd_any (tickN xs1 k) ⟨1 + ((k / 8 : Nat) : Int), ((k % 8 : Nat) : Int)⟩ w' h.wg (wfW_mk (by omega) (by omega)) (by omega)
        have ra := room_add (HT.out k) KB.out
        rw [ra.1, ra.2] at this
        exact this)
      have CF := Lib.hid (fun (w' : World) (N : Nat → Prop) (h : LW w w' p N n (k + 1) (roomL (tickN xs1) (k + 1))) => show Calls Try.prog 23 #[.pointer (some ⟨p, 0, none⟩)] w' (fun e w'' => e = .returned (.int .i64 ((n : Int) - 1 - (k : Int))) ∧ Only none_ w' w'') from by
        have := wfree_any w' h.wg
        rw [roomL_len, show (n : Int) - ((k + 1 : Nat) : Int) = (n : Int) - 1 - (k : Int) by omega] at this
        exact this)
      by_cases hz : xs1.length = 0
      · have e1 : tickN xs1 k = 1 := by unfold tickN; rw [if_pos hz]
        rw [e1] at CA
        have d1 : decide ((0 : Int) < (xs1.length : Int)) = false := decide_eq_false (by omega)
        have d2 : decide (0 < xs1.length) = false := decide_eq_false (by omega)
        have HZ := Lib.hid hz
        clear e1 hz hk hlt nb
        go_wp2_with fail
        (with_reducible refine (CA.out _ H.out).mono ?_)
        rintro e w4 ⟨rfl, k4⟩
        obtain ⟨M4, h4, _⟩ := H.out.call k4
        have H4 := Lib.hid h4
        clear k4 h4 CA
        go_wp2_with fail
        (with_reducible refine (CF.out _ _ H4.out).mono ?_)
        rintro e w5 ⟨rfl, o⟩
        have H5 := Lib.hid (H4.out.still o)
        clear o H4 CF
        go_wp2_with fail
        go_roundw
        case rel => exact ⟨k + 1, M4, KB.out, by go_num, H5.out⟩
        case measure => have := KB.out; simp [intOf]; omega
      · obtain ⟨m, hm⟩ : ∃ m, m = k % xs1.length := ⟨_, rfl⟩
        have hml : m < xs1.length := by rw [hm]; exact Nat.mod_lt _ (by omega)
        obtain ⟨x, hx⟩ : ∃ x, xs1[m]? = some x := ⟨_, List.getElem?_eq_getElem hml⟩
        have hxb := HF.out x (List.mem_of_getElem? hx)
        have e1 : tickN xs1 k = 1 + x := by unfold tickN; rw [if_neg hz, ← hm, hx]; rfl
        rw [e1] at CA
        obtain ⟨b, o, rfl, hbl, c0⟩ := byte_at HX.out (H.out.only.below (Nat.le_refl _) (fun _ _ s => s)) hx
        have d1 : decide ((0 : Int) < (xs1.length : Int)) = true := decide_eq_true (by omega)
        have d2 : decide (0 < xs1.length) = true := decide_eq_true (by omega)
        have m1 : (k : Int) % (xs1.length : Int) = (m : Int) := by rw [hm]; rfl
        have m0 : ((xs1.length : Int) == 0) = false := by rw [beq_eq_false_iff_ne]; omega
        have v7 : IntKind.i64.wrap x = x := by rw [IntKind.wrap_i64]; omega
        have v8 : IntKind.i64.wrap (1 + x) = 1 + x := by rw [IntKind.wrap_i64]; omega
        clear e1 hk hlt nb hx hm hxb hbl
        go_wp2_with fail
        (with_reducible refine (CA.out _ H.out).mono ?_)
        rintro e w4 ⟨rfl, k4⟩
        obtain ⟨M4, h4, _⟩ := H.out.call k4
        have H4 := Lib.hid h4
        clear k4 h4 CA
        go_wp2_with fail
        (with_reducible refine (CF.out _ _ H4.out).mono ?_)
        rintro e w5 ⟨rfl, o⟩
        have H5 := Lib.hid (H4.out.still o)
        clear o H4 CF
        go_wp2_with fail
        go_roundw
        case rel => exact ⟨k + 1, M4, KB.out, by go_num, H5.out⟩
        case measure => have := KB.out; simp [intOf]; omega
    · have t1 : decide (k < n) = false := decide_eq_false hlt
      obtain rfl : n = k := by omega
      have RL := Lib.hid (room_late (tickN xs1) NB.out.2)
      have RG := Lib.hid (room_again (tickN xs1) NB.out.1)
      obtain ⟨q0, hq0⟩ : ∃ q0, q0 = z % n / 8 := ⟨_, rfl⟩
      have QL := Lib.hid (show 8 * q0 < n from by have := Nat.mod_lt z (show 0 < n by omega); omega)
      have RQ := Lib.hid (room_quit (tickN xs1) QL.out)
      have RF := Lib.hid (room_left (tickN xs1) n q0)
      have RA := Lib.hid (room_after (tickN xs1) QL.out NB.out.2)
      have Q0 := Lib.hid hq0
      have ZB := Lib.hid (show z ≤ 255 from by have := B2.out; omega)
      clear hq0
      generalize hrs : roomL (tickN xs1) n = rs at *
      clear hrs
      clear hk hlt nb
      go_wp2_with fail
      have L0 := Lib.hid (Row.fresh wr 31 #[.int .i64 99, .int .i64 0])
      have H1 := Lib.hid (H.out.still ((Only.refl none_ wr).alloc (.cells #[.int .i64 99, .int .i64 0] 31)))
      have NM := Lib.hid (show ¬ M wr.heap.size from fun h => Nat.lt_irrefl _ (H.out.wg.lt _ h))
      clear H
      revert L0 H1 NM
      generalize wr.alloc (.cells #[.int .i64 99, .int .i64 0] 31) = W1
      generalize wr.heap.size = gl
      intro L0 H1 NM
      have CA := Lib.hid (show Calls Try.prog 11 #[.pointer (some ⟨p, 0, none⟩), .int .i64 7, .agg #[.int .i64 99, .int .i64 0]] W1 (fun e w'' => e = .returned (.int .i64 2) ∧ WGto W1 p M n (n + 1) rs w'') from by
        have := wadd_any 7 ⟨99, 0⟩ W1 H1.out.wg ⟨by decide, by decide⟩ (by have := NB.out; omega)
        rw [RL.out.1, RL.out.2] at this
        exact this)
      (with_reducible refine (CA.out).mono ?_)
      rintro e w3 ⟨rfl, k3⟩
      obtain ⟨M3, h3, hM3, o3⟩ := H1.out.call k3
      have L3 := Lib.hid (o3.row L0.out NM.out)
      have NM3 := Lib.hid (show ¬ M3 gl from fun h => by
        rcases hM3 gl h with z | z
        · exact NM.out z
        · have := L0.out.lt; omega)
      have H3 := Lib.hid h3
      clear k3 h3 hM3 o3 CA L0 NM H1
      have CA := Lib.hid (show Calls Try.prog 11 #[.pointer (some ⟨p, 0, none⟩), .int .i64 7, .agg #[.int .i64 1, .int .i64 0]] w3 (fun e w'' => e = .returned (.int .i64 4) ∧ WGto w3 p M3 n (n + 1 + 1) rs w'') from by
        have := wadd_any 7 ⟨1, 0⟩ w3 H3.out.wg ⟨by decide, by decide⟩ (by have := NB.out; omega)
        rw [RG.out.1, RG.out.2] at this
        exact this)
      go_wp2_with fail
      (with_reducible refine (CA.out).mono ?_)
      rintro e w4 ⟨rfl, k4⟩
      obtain ⟨M4, h4, hM4, o4⟩ := H3.out.call k4
      have L4 := Lib.hid (o4.row L3.out NM3.out)
      have NM4 := Lib.hid (show ¬ M4 gl from fun h => by
        rcases hM4 gl h with z | z
        · exact NM3.out z
        · have := L3.out.lt; omega)
      have H4 := Lib.hid h4
      clear k4 h4 hM4 o4 CA L3 NM3 H3 RL RG
      have v1 : IntKind.i64.wrap (z : Int) = (z : Int) := by have := ZB.out; rw [IntKind.wrap_i64]; omega
      have n0 : ((n : Int) == 0) = false := by have := NB.out; rw [beq_eq_false_iff_ne]; omega
      have nz : ¬ n = 0 := by have := NB.out; omega
      have zb : z ≤ 255 := ZB.out
      obtain ⟨zr, hzr⟩ : ∃ zr, zr = z % n := ⟨_, rfl⟩
      have m1 : (z : Int) % (n : Int) = (zr : Int) := by rw [hzr]; rfl
      have m2 : (zr : Int) / 8 = (q0 : Int) := by have := Q0.out; omega
      have zrb : zr ≤ 255 := by have := Nat.mod_le z n; omega
      clear hzr
      have qb : q0 ≤ 8 := by have := QL.out; have := NB.out; omega
      have m3 : IntKind.i64.wrap (q0 : Int) = (q0 : Int) := by rw [IntKind.wrap_i64]; omega
      have m4 : IntKind.i64.wrap (1 + (q0 : Int)) = 1 + (q0 : Int) := by rw [IntKind.wrap_i64]; omega
      go_wp2_with fail
      (with_reducible refine (wquit_any (1 + (q0 : Int)) _ H4.out.wg).mono ?_)
      rintro e w5 ⟨vq, rfl, hq, k5⟩
      obtain ⟨M5, h5, hM5, _, o5⟩ := H4.out.callV k5
      obtain ⟨aq, cq, rfl⟩ := len_of hq
      have L5 := Lib.hid (o5.row L4.out NM4.out)
      have NM5 := Lib.hid (show ¬ M5 gl from fun h => by
        rcases hM5 gl h with z | z
        · exact NM4.out z
        · have := L4.out.lt; omega)
      have H5 := Lib.hid h5
      clear k5 h5 hM5 o5 hq L4 NM4 H4 v1 n0 nz zb m1 m2 zrb m3 m4
      have rq := RQ.out
      have rf := RF.out
      have ra := RA.out
      clear RQ RF RA Q0 ZB
      generalize (quitI rs (1 + (q0 : Int))).length = Q at *
      generalize leftR rs (1 + (q0 : Int)) = ls at *
      have mn : min (8 : Int) ((n : Int) - 8 * (q0 : Int)) = (freeN n q0 : Int) := by
        have := QL.out
        unfold freeN
        split <;> omega
      generalize freeN n q0 = f at *
      have nb := NB.out
      have v1 : IntKind.i64.wrap (1 + (q0 : Int) - 1) = (q0 : Int) := by rw [IntKind.wrap_i64]; omega
      have v2 : IntKind.i64.wrap (8 * (q0 : Int)) = 8 * (q0 : Int) := by rw [IntKind.wrap_i64]; omega
      have v3 : IntKind.i64.wrap ((n : Int) - 8 * (q0 : Int)) = (n : Int) - 8 * (q0 : Int) := by rw [IntKind.wrap_i64]; omega
      have d1 : decide ((1 : Int) ≤ (Q : Int)) = true := decide_eq_true (by omega)
      have d2 : decide ((Q : Int) ≤ (f : Int)) = true := decide_eq_true (by omega)
      have d3 : decide (1 ≤ Q) = true := decide_eq_true rq.1
      have d4 : decide (Q ≤ f) = true := decide_eq_true rq.2
      have ff : ((f : Int) == (f : Int)) = true := by simp
      have CF := Lib.hid (show Calls Try.prog 23 #[.pointer (some ⟨p, 0, none⟩)] w5 (fun e w'' => e = .returned (.int .i64 (f : Int)) ∧ Only none_ w5 w'') from by
        have := wfree_any w5 H5.out.wg
        rw [show (n : Int) - (ls.length : Int) = (f : Int) by omega] at this
        exact this)
      have CA := Lib.hid (fun (w' : World) (h : LW w w' p M5 n (n + 1 + 1) ls) => show Calls Try.prog 11 #[.pointer (some ⟨p, 0, none⟩), .int .i64 7, .agg #[.int .i64 99, .int .i64 0]] w' (fun e w'' => e = .returned (.int .i64 0) ∧ WGto w' p M5 n (n + 1 + 1 + 1) (addS n ls 7 ⟨99, 0⟩) w'') from by
        have := wadd_any 7 ⟨99, 0⟩ w' h.wg ⟨by decide, by decide⟩ (by omega)
        rw [ra.1] at this
        exact this)
      have CW := Lib.hid (fun (w' : World) (N : Nat → Prop) (h : LW w w' p N n (n + 1 + 1 + 1) (addS n ls 7 ⟨99, 0⟩)) => And.intro
        (show Calls Try.prog 19 #[.pointer (some ⟨p, 0, none⟩), .agg #[.int .i64 99, .int .i64 0]] w' (fun e w'' => e = .returned (.bool true) ∧ Only none_ w' w'') from by
          have := wwaits_any ⟨99, 0⟩ w' h.wg ⟨by decide, by decide⟩
          rw [ra.2.1] at this
          exact this)
        (show Calls Try.prog 19 #[.pointer (some ⟨p, 0, none⟩), .agg #[.int .i64 (1 + (q0 : Int)), .int .i64 0]] w' (fun e w'' => e = .returned (.bool false) ∧ Only none_ w' w'') from by
          have := wwaits_any ⟨1 + (q0 : Int), 0⟩ w' h.wg (wfW_mk (by omega) (by omega))
          rw [ra.2.2] at this
          exact this))
      clear rq rf ra nb qb
      obtain ⟨l0, l1⟩ := L5.out.two
      go_wp2_with fail
      (with_reducible refine CF.out.mono ?_)
      rintro e w6 ⟨rfl, o⟩
      have H6 := Lib.hid (H5.out.still o)
      have L6 := Lib.hid (o.still L5.out)
      clear o CF H5 L5 l0 l1
      obtain ⟨l0, l1⟩ := L6.out.two
      go_wp2_with fail
      (with_reducible refine (CA.out _ H6.out).mono ?_)
      rintro e w7 ⟨rfl, k7⟩
      obtain ⟨M7, h7, _, o7⟩ := H6.out.call k7
      have L7 := Lib.hid (o7.row L6.out NM5.out)
      have H7 := Lib.hid h7
      clear k7 h7 o7 CA H6 L6 NM5 l0 l1
      obtain ⟨l0, l1⟩ := L7.out.two
      go_wp2_with fail
      (with_reducible refine ((CW.out _ _ H7.out).1).mono ?_)
      rintro e w8 ⟨rfl, o⟩
      have H8 := Lib.hid (H7.out.still o)
      clear o H7 L7 l0 l1
      go_wp2_with fail
      (with_reducible refine ((CW.out _ _ H8.out).2).mono ?_)
      rintro e w9 ⟨rfl, o⟩
      have H9 := Lib.hid (H8.out.still o)
      clear o H8
      go_wp2_with fail
      go_ret
      exact ⟨rfl, H9.out.only.to_below14⟩



end Go.Proofs.Ytgngaimbpnlkjaa.waitRoom

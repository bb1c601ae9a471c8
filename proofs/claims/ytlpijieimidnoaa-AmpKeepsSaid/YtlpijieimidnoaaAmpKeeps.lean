/- Proved: the statement AmpKeeps of layer 9, for every beginning, every degree, every disk and every row of beats, on no condition. -/
import Derived.Test.YtlpijieimidnoaaRows
import Derived.WalkKit
import Derived.ProofKit
import Derived.OpenShut
import Derived.Below
import Derived.Test.YtlpijieimidnoaaArgs
import Derived.Test.YtlpijieimidnoaaAmpAwake
import Derived.Test.YtlpijieimidnoaaAmpAgain
import Derived.Deep.RegionHeld3
import Derived.Deep.CutRange
namespace Go.Proofs.Ytlpijieimidnoaa.ampKeeps
open Go.ChangeShapes Go.WideShapes Go.ChangeAt Go.RowKit
set_option linter.unusedVariables false

theorem own : ownKnob Try.prog.godebug = none := by kernel_rfl
theorem laidOut : laidOutB Try.prog = true := by kernel_rfl

theorem keeps_facts {g : Fl} {c d b : Int} (hm : g.May d b) (h : g.readC c d b = 0) :
    (g.readF c d b).n = g.n + c ∧ (g.readF c d b).a = max g.a (g.n + c) + (g.readR c d b).c ∧ (0 < (g.readR c d b).c → (g.readR c d b).f = max g.a (g.n + c)) ∧ (g.readR c d b).c ≤ d ∧ 0 ≤ (g.readR c d b).c ∧
    g.p ≤ (g.readF c d b).p ∧ (g.readF c d b).p ≤ g.p + 1 ∧ (g.readF c d b).g = g.g ∧ (g.readF c d b).May d b ∧ 1 ≤ c ∧ c ≤ 8 ∧ g.n + c ≤ b := by
  have q : (g.May d b ∧ 1 ≤ c ∧ c ≤ 8) ∧ g.n + c ≤ b := by
    unfold Fl.readC at h
    by_cases q : g.May d b ∧ 1 ≤ c ∧ c ≤ 8
    · rw [if_pos q] at h
      by_cases k : g.n + c ≤ b
      · exact ⟨q, k⟩
      · rw [if_neg k] at h; cases h
    · rw [if_neg q] at h; cases h
  have M := moved_may hm q.1.2.1 q.1.2.2 q.2
  have A := ask_may M
  have rf : g.readF c d b = (g.moved c d).askF b := by unfold Fl.readF; rw [if_pos h]
  have rr : g.readR c d b = (g.moved c d).askR b := by unfold Fl.readR; rw [if_pos h]
  rw [rf, rr]
  have mn : (g.moved c d).n = g.n + c := rfl
  have ma : (g.moved c d).a = max g.a (g.n + c) := rfl
  have mg : (g.moved c d).g = g.g := rfl
  have mp : (g.moved c d).p = if g.n < g.a ∧ g.a ≤ g.n + c then min (g.p + 1) d else g.p := rfl
  have p1 : g.p ≤ (g.moved c d).p ∧ (g.moved c d).p ≤ g.p + 1 := by
    have := hm.pd
    rw [mp]; split <;> omega
  have hro : (g.moved c d).room b = min (g.moved c d).p (b - (g.moved c d).a) := rfl
  have hab := M.ab
  have hpd := M.pd
  have hp0 := M.p0
  unfold Fl.askF Fl.askR at *
  by_cases k : (g.moved c d).a - (g.moved c d).n ≤ (g.moved c d).g ∧ (g.moved c d).room b ≠ 0
  · rw [if_pos k] at A ⊢
    rw [if_pos k]
    dsimp only
    exact ⟨mn, by rw [ma], fun _ => ma, by omega, by omega, p1.1, p1.2, mg, A, q.1.2.1, q.1.2.2, q.2⟩
  · rw [if_neg k] at A ⊢
    rw [if_neg k]
    dsimp only
    exact ⟨mn, by rw [ma]; omega, fun z => absurd z (by omega), by omega, by omega, p1.1, p1.2, mg, A, q.1.2.1, q.1.2.2, q.2⟩

theorem fresh_at (w : World) (t : TypeId) (cs : Array Value) (n : Nat) (h : n = w.heap.size) : Row (w.alloc (.cells cs t)) n t cs := by subst h; exact Row.fresh w t cs

set_option maxHeartbeats 4000000 in
set_option maxRecDepth 100000 in
theorem walk (w : World) (a0 : Int) (w0 : (Lit.int .u8 a0).wf = true) (s0 : Int) (ws0 : (Lit.int .u8 s0).wf = true) (s1 : Int) (ws1 : (Lit.int .u8 s1).wf = true) (A : Option Addr) (len cap : Nat) (xs : List Beat1) (hmax : len ≤ maxLen) (hlen : xs.length = len) (hold : Holds w A 2 Beat1.cells xs) (_ : ∀ a ∈ xs, True) :
    Calls Try.prog 5 #[.int .u8 a0, .agg #[.int .u8 s0, .int .u8 s1], .slice A len cap] w fun e w' => e = .returned (.bool true) ∧ Below w.heap.size w w' := by
  have x1 := bd_u8 w0
  have x2 := bd_u8 ws0
  have x3 := bd_u8 ws1
  clear w0 ws0 ws1
  unfold maxLen at hmax
  have HL := Lib.hid hlen
  have HO := Lib.hid hold
  clear hlen hold
  obtain ⟨d, hd, y1, y16⟩ : ∃ d : Int, 1 + s0 % 16 = d ∧ 1 ≤ d ∧ d ≤ 16 := ⟨1 + s0 % 16, rfl, by omega, by omega⟩
  obtain ⟨b, hb, y2, y256⟩ : ∃ b : Int, 1 + s1 = b ∧ 1 ≤ b ∧ b ≤ 256 := ⟨1 + s1, rfl, by omega, by omega⟩
  obtain ⟨n, hn, n0, nb⟩ : ∃ n : Int, a0 % b = n ∧ 0 ≤ n ∧ n < b := ⟨a0 % b, rfl, Int.emod_nonneg _ (by omega), Int.emod_lt_of_pos _ (by omega)⟩
  have MS := Lib.hid (show (Fl.start n).May d b from by unfold Fl.start; constructor <;> (try dsimp only) <;> omega)
  have RD := Lib.hid (fun (g : Fl) c w => read_any g c d b w)
  have MY := Lib.hid (fun (g : Fl) (h : g.May d b) w => (by have := may_any g d b w; rw [decide_eq_true h] at this; exact this : Calls Try.prog 12 #[g.val, .int .i64 d, .int .i64 b] w fun e w' => e = .returned (.bool true) ∧ Only none_ w w'))
  have RM := Lib.hid (fun (g : Fl) (h : g.May d b) w => (by have := rmay_any g d b w; rw [decide_eq_true h] at this; exact this : Calls Try.prog 13 #[g.val, .int .i64 d, .int .i64 b] w fun e w' => e = .returned (.bool true) ∧ One w w'))
  have LA := Lib.hid (fun (g : Fl) (h : g.May d b) w => late_any g w (May.wf h))
  have WA := Lib.hid (fun (g : Fl) (h : g.May d b) w => waste_any g w (May.wf h))
  have ST := Lib.hid (fun w => start_any n w)
  unfold Fl.val at RD MY RM LA WA ST
  unfold Rn.val at RD
  go_enter Try.func5, Try.ntmps5
  go_wp2_with fail
  have R4 := Lib.hid (Row.fresh w 37 #[.int .u8 s0, .int .u8 s1])
  have OA := Lib.hid ((Only.refl none_ w).alloc (.cells #[.int .u8 s0, .int .u8 s1] 37))
  generalize w.alloc (.cells #[.int .u8 s0, .int .u8 s1] 37) = W1 at *
  obtain ⟨b4, hb4⟩ : ∃ b4, w.heap.size = b4 := ⟨_, rfl⟩
  rw [hb4] at R4 ⊢
  clear hb4
  (with_reducible refine (awake_any _).mono ?_)
  rintro e w1 ⟨rfl, o⟩
  have OB := Lib.hid (OA.out.same o)
  obtain ⟨d0, d1⟩ := (o.still R4.out).two
  clear R4 OA o
  have bne : (b == 0) = false := by simp; omega
  go_wp2_with fail
  (with_reducible refine (ST.out _).mono ?_)
  rintro e w2 ⟨rfl, o⟩
  unfold Fl.start
  have R9 := Lib.hid (Row.fresh w2 23 #[.int .i64 n, .int .i64 n, .int .i64 1, .int .i64 0])
  have OC := Lib.hid ((OB.out.same o).alloc (.cells #[.int .i64 n, .int .i64 n, .int .i64 1, .int .i64 0] 23))
  have LS := Nat.le_trans OB.out.size o.size
  clear OB o d0 d1
  go_wp2_with fail
  obtain ⟨b9, hb9⟩ : ∃ b9, w2.heap.size = b9 := ⟨_, rfl⟩
  rw [hb9] at R9 LS ⊢
  have L9 := Lib.hid LS
  clear hb9 LS x1 x2 x3 ST hd hb hn bne
  generalize w2.alloc (.cells #[.int .i64 n, .int .i64 n, .int .i64 1, .int .i64 0] 23) = W2 at *
  go_wp2_with fail
  go_loopw [10] (fun i wr => ∃ (j : Nat) (g : Fl), j ≤ len ∧ j ≤ 200 ∧ i = .int .i64 j ∧ Row wr b9 23 #[.int .i64 g.n, .int .i64 g.a, .int .i64 g.p, .int .i64 g.g] ∧ Only none_ w wr ∧ g.May d b) (fun i _ => len - (intOf i).toNat)
  case atStart => exact ⟨0, ⟨n, n, 1, 0⟩, Nat.zero_le _, Nat.zero_le _, rfl, R9.out, OC.out, MS.out⟩
  case round =>
    obtain ⟨j, g, hj, hj2, rfl, r9, ro, hm⟩ := hrel
    clear R9 OC MS
    have R9 := Lib.hid r9
    have RO := Lib.hid ro
    have HM := Lib.hid hm
    clear r9 ro hm
    have t12 : (j < len ∧ j < 200) ∨ (j < len ∧ 200 ≤ j) ∨ len ≤ j := by omega
    rcases t12 with ⟨t1, t2⟩ | t1
    · obtain ⟨act, hact⟩ : ∃ act, xs[j]? = some act := ⟨_, List.getElem?_eq_getElem (by rw [HL.out]; exact t1)⟩
      obtain ⟨sb, so, hA, hsb, _, _⟩ := beat_at HO.out RO.out.to_below9 hact
      subst hA
      have LM := Lib.hid (fun (w' : World) (o : Only none_ w w') => (show w'.cell? ⟨sb, so + j * 2, none⟩ = some (.int .i64 act.kind) ∧ w'.cell? ⟨sb, so + j * 2 + 1, none⟩ = some (.int .i64 act.count) from by
        obtain ⟨sb', so', hA', _, q1, q2⟩ := beat_at HO.out o.to_below9 hact
        injection hA' with hA'
        injection hA' with e1 e2
        subst e1 e2
        exact ⟨q1, q2⟩))
      clear hact
      obtain ⟨c0, c1, c2, c3⟩ := R9.out.four
      have NR := Lib.hid (RO.out.alloc (.cells #[.int .i64 g.n, .int .i64 g.a, .int .i64 g.p, .int .i64 g.g] 23))
      obtain ⟨k0, _⟩ := LM.out _ NR.out
      have kk : (act.kind == 0) = true ∨ ((act.kind == 0) = false ∧ (act.kind == 1) = true) ∨ ((act.kind == 0) = false ∧ (act.kind == 1) = false ∧ (act.kind == 2) = true) ∨ ((act.kind == 0) = false ∧ (act.kind == 1) = false ∧ (act.kind == 2) = false) := by
        simp only [beq_iff_eq, beq_eq_false_iff_ne]; omega
      rcases kk with kk | ⟨kk, k1⟩ | ⟨kk, k1, k2⟩ | ⟨kk, k1, k2⟩
      · have lt9 := R9.out.lt
        obtain ⟨b11, hb11⟩ : ∃ b11, wr.heap.size = b11 := ⟨_, rfl⟩
        have L11 := Lib.hid (show w.heap.size ≤ b11 from hb11 ▸ RO.out.size)
        have n9 : b9 ≠ b11 := by omega
        have n11 : b11 ≠ b9 := by omega
        have Q11 := Lib.hid (Row.fresh wr 23 #[.int .i64 g.n, .int .i64 g.a, .int .i64 g.p, .int .i64 g.g])
        have Q9 := Lib.hid (R9.out.alloc (.cells #[.int .i64 g.n, .int .i64 g.a, .int .i64 g.p, .int .i64 g.g] 23))
        have RD' := Lib.hid (fun w => RD.out g act.count w)
        go_wp2_with fail
        rw [hb11] at Q11
        clear hb11 lt9 R9 RO c0 c1 c2 c3 k0
        generalize wr.alloc (.cells #[.int .i64 g.n, .int .i64 g.a, .int .i64 g.p, .int .i64 g.g] 23) = v1 at *
        generalize hK : g.readF act.count d b = k at *
        generalize hR : g.readR act.count d b = r at *
        generalize hC : g.readC act.count d b = q at *
        have HK := Lib.hid hK
        have HR := Lib.hid hR
        have HC := Lib.hid hC
        clear hK hR hC
        go_cut [12, 13, 14] from 33 to 164 (fun s12 s13 s14 wx => ∃ p p', s12 = .pointer (some ⟨p, 0, none⟩) ∧ s13 = .pointer (some ⟨p', 0, none⟩) ∧ s14 = .int .i64 q ∧ v1.heap.size ≤ p ∧ v1.heap.size ≤ p' ∧ Row wx p 23 #[.int .i64 k.n, .int .i64 k.a, .int .i64 k.p, .int .i64 k.g] ∧ Row wx p' 27 #[.int .i64 r.f, .int .i64 r.c] ∧ Only none_ v1 wx)
        case first =>
          have N0 := Lib.hid (Only.refl none_ v1)
          have le0 : v1.heap.size ≤ v1.heap.size := Nat.le_refl _
          have le1 : v1.heap.size ≤ v1.heap.size + 1 := Nat.le_succ _
          have ND := Lib.hid (Only.refl none_ v1).drew
          have KK := Lib.hid (fun (w' : World) (o : Only none_ v1 w') => (show w'.cell? ⟨b9, 0, none⟩ = some (.int .i64 g.n) ∧ w'.cell? ⟨b9, 1, none⟩ = some (.int .i64 g.a) ∧ w'.cell? ⟨b9, 2, none⟩ = some (.int .i64 g.p) ∧ w'.cell? ⟨b9, 3, none⟩ = some (.int .i64 g.g) ∧ w'.cell? ⟨sb, so + j * 2 + 1, none⟩ = some (.int .i64 act.count) from by
            obtain ⟨c0, c1, c2, c3⟩ := (o.still Q9.out).four
            exact ⟨c0, c1, c2, c3, (LM.out _ (NR.out.same o)).2⟩))
          obtain ⟨c0, c1, c2, c3, c4⟩ := KK.out _ ND.out
          go_region_held3 (fun w' => w'.cell? ⟨b9, 0, none⟩ = some (.int .i64 g.n) ∧ w'.cell? ⟨b9, 1, none⟩ = some (.int .i64 g.a) ∧ w'.cell? ⟨b9, 2, none⟩ = some (.int .i64 g.p) ∧ w'.cell? ⟨b9, 3, none⟩ = some (.int .i64 g.g) ∧ w'.cell? ⟨sb, so + j * 2 + 1, none⟩ = some (.int .i64 act.count))
            (first
              | (with_reducible exact KK.out _ ND.out)
              | (with_reducible exact KK.out _ (Only.drew (Only.alloc N0.out _)))
              | (with_reducible exact KK.out _ (Only.drew (Only.alloc (Only.alloc N0.out _) _)))
              | (with_reducible exact KK.out _ O1.out)
              | (with_reducible refine KK.out _ ?_; (repeat (first | (with_reducible refine Only.alloc ?_ _) | (with_reducible refine Only.new ?_ le0 _ _) | (with_reducible refine Only.new ?_ le1 _ _))); with_reducible exact O1.out)
              | fail)
            (first
              | (go_at_call 10; (with_reducible refine (RD'.out _).mono ?_); rintro e u1 ⟨rfl, o1⟩; first | (have o2 : Only none_ (v1.drew) u1 := (by with_reducible exact o1); have O1 := Lib.hid (ND.out.same o2); clear o1 o2) | (have o2 : Only none_ ((v1.alloc (.cells #[.int .i64 0, .int .i64 0, .int .i64 0, .int .i64 0] 23)).drew) u1 := (by with_reducible exact o1); have O1 := Lib.hid ((Only.drew (Only.alloc N0.out _)).same o2); have far := o2.still (Row.drew (Row.fresh v1 23 #[.int .i64 0, .int .i64 0, .int .i64 0, .int .i64 0])); obtain ⟨fa0, fa1, fa2, fa3⟩ := far.four; have faz := far.frozen; have fal := far.lt; have FAR := Lib.hid far; clear far; clear o1 o2) | (have o2 : Only none_ ((v1.alloc (.cells #[.int .i64 0, .int .i64 0] 27)).drew) u1 := (by with_reducible exact o1); have O1 := Lib.hid ((Only.drew (Only.alloc N0.out _)).same o2); have fbr := o2.still (Row.drew (Row.fresh v1 27 #[.int .i64 0, .int .i64 0])); obtain ⟨fb0, fb1⟩ := fbr.two; have fbz := fbr.frozen; have fbl := fbr.lt; have FBR := Lib.hid fbr; clear fbr; clear o1 o2) | (have o2 : Only none_ (((v1.alloc (.cells #[.int .i64 0, .int .i64 0, .int .i64 0, .int .i64 0] 23)).alloc (.cells #[.int .i64 0, .int .i64 0] 27)).drew) u1 := (by with_reducible exact o1); have O1 := Lib.hid ((Only.drew (Only.alloc (Only.alloc N0.out _) _)).same o2); have far := o2.still (Row.drew ((Row.fresh v1 23 #[.int .i64 0, .int .i64 0, .int .i64 0, .int .i64 0]).alloc (.cells #[.int .i64 0, .int .i64 0] 27))); obtain ⟨fa0, fa1, fa2, fa3⟩ := far.four; have faz := far.frozen; have fal := far.lt; have FAR := Lib.hid far; clear far; have fbr := o2.still (Row.drew (fresh_at (v1.alloc (.cells #[.int .i64 0, .int .i64 0, .int .i64 0, .int .i64 0] 23)) 27 #[.int .i64 0, .int .i64 0] (v1.heap.size + 1) (by simp))); obtain ⟨fb0, fb1⟩ := fbr.two; have fbz := fbr.frozen; have fbl := fbr.lt; have FBR := Lib.hid fbr; clear fbr; clear o1 o2) | (have o2 : Only none_ (((v1.alloc (.cells #[.int .i64 0, .int .i64 0] 27)).alloc (.cells #[.int .i64 0, .int .i64 0, .int .i64 0, .int .i64 0] 23)).drew) u1 := (by with_reducible exact o1); have O1 := Lib.hid ((Only.drew (Only.alloc (Only.alloc N0.out _) _)).same o2); have fbr := o2.still (Row.drew ((Row.fresh v1 27 #[.int .i64 0, .int .i64 0]).alloc (.cells #[.int .i64 0, .int .i64 0, .int .i64 0, .int .i64 0] 23))); obtain ⟨fb0, fb1⟩ := fbr.two; have fbz := fbr.frozen; have fbl := fbr.lt; have FBR := Lib.hid fbr; clear fbr; have far := o2.still (Row.drew (fresh_at (v1.alloc (.cells #[.int .i64 0, .int .i64 0] 27)) 23 #[.int .i64 0, .int .i64 0, .int .i64 0, .int .i64 0] (v1.heap.size + 1) (by simp))); obtain ⟨fa0, fa1, fa2, fa3⟩ := far.four; have faz := far.frozen; have fal := far.lt; have FAR := Lib.hid far; clear far; clear o1 o2) | fail)
              | fail)
          · have X1 := Lib.hid ((Row.fresh u1 23 #[.int .i64 k.n, .int .i64 k.a, .int .i64 k.p, .int .i64 k.g]).alloc (.cells #[.int .i64 r.f, .int .i64 r.c] 27))
            have X2 := Lib.hid (fresh_at (u1.alloc (.cells #[.int .i64 k.n, .int .i64 k.a, .int .i64 k.p, .int .i64 k.g] 23)) 27 #[.int .i64 r.f, .int .i64 r.c] (u1.heap.size + 1) (by simp))
            have X3 := Lib.hid ((O1.out.alloc (.cells #[.int .i64 k.n, .int .i64 k.a, .int .i64 k.p, .int .i64 k.g] 23)).alloc (.cells #[.int .i64 r.f, .int .i64 r.c] 27))
            go_wp2_with fail
            go_meet
            case rel => exact ⟨u1.heap.size, u1.heap.size + 1, rfl, rfl, rfl, O1.out.size, Nat.le_succ_of_le O1.out.size, X1.out, X2.out, X3.out⟩
          · have X1 := Lib.hid (fresh_at (u1.alloc (.cells #[.int .i64 r.f, .int .i64 r.c] 27)) 23 #[.int .i64 k.n, .int .i64 k.a, .int .i64 k.p, .int .i64 k.g] (u1.heap.size + 1) (by simp))
            have X2 := Lib.hid ((Row.fresh u1 27 #[.int .i64 r.f, .int .i64 r.c]).alloc (.cells #[.int .i64 k.n, .int .i64 k.a, .int .i64 k.p, .int .i64 k.g] 23))
            have X3 := Lib.hid ((O1.out.alloc (.cells #[.int .i64 r.f, .int .i64 r.c] 27)).alloc (.cells #[.int .i64 k.n, .int .i64 k.a, .int .i64 k.p, .int .i64 k.g] 23))
            go_wp2_with fail
            go_meet
            case rel => exact ⟨u1.heap.size + 1, u1.heap.size, rfl, rfl, rfl, Nat.le_succ_of_le O1.out.size, O1.out.size, X1.out, X2.out, X3.out⟩
          · have X1 := Lib.hid (show Row (((((u1.setCell ⟨v1.heap.size, 0, none⟩ (.int .i64 k.n)).setCell ⟨v1.heap.size, 1, none⟩ (.int .i64 k.a)).setCell ⟨v1.heap.size, 2, none⟩ (.int .i64 k.p)).setCell ⟨v1.heap.size, 3, none⟩ (.int .i64 k.g)).alloc (.cells #[.int .i64 r.f, .int .i64 r.c] 27)) v1.heap.size 23 #[.int .i64 k.n, .int .i64 k.a, .int .i64 k.p, .int .i64 k.g] from ((((FAR.out.put 0 (.int .i64 k.n)).put 1 (.int .i64 k.a)).put 2 (.int .i64 k.p)).put 3 (.int .i64 k.g)).alloc (.cells #[.int .i64 r.f, .int .i64 r.c] 27))
            have X2 := Lib.hid (fresh_at ((((u1.setCell ⟨v1.heap.size, 0, none⟩ (.int .i64 k.n)).setCell ⟨v1.heap.size, 1, none⟩ (.int .i64 k.a)).setCell ⟨v1.heap.size, 2, none⟩ (.int .i64 k.p)).setCell ⟨v1.heap.size, 3, none⟩ (.int .i64 k.g)) 27 #[.int .i64 r.f, .int .i64 r.c] u1.heap.size (by simp [World.setCell]))
            have X3 := Lib.hid (((((O1.out.new le0 0 (.int .i64 k.n)).new le0 1 (.int .i64 k.a)).new le0 2 (.int .i64 k.p)).new le0 3 (.int .i64 k.g)).alloc (.cells #[.int .i64 r.f, .int .i64 r.c] 27))
            go_wp2_with fail
            go_meet
            case rel => exact ⟨v1.heap.size, u1.heap.size, rfl, rfl, rfl, le0, O1.out.size, X1.out, X2.out, X3.out⟩
          · have X1 := Lib.hid (show Row ((((((u1.setCell ⟨v1.heap.size, 0, none⟩ (.int .i64 k.n)).setCell ⟨v1.heap.size, 1, none⟩ (.int .i64 k.a)).setCell ⟨v1.heap.size, 2, none⟩ (.int .i64 k.p)).setCell ⟨v1.heap.size, 3, none⟩ (.int .i64 k.g)).setCell ⟨(v1.heap.size + 1), 0, none⟩ (.int .i64 r.f)).setCell ⟨(v1.heap.size + 1), 1, none⟩ (.int .i64 r.c)) v1.heap.size 23 #[.int .i64 k.n, .int .i64 k.a, .int .i64 k.p, .int .i64 k.g] from ((((((FAR.out.put 0 (.int .i64 k.n)).put 1 (.int .i64 k.a)).put 2 (.int .i64 k.p)).put 3 (.int .i64 k.g)).far (p := ⟨(v1.heap.size + 1), 0, none⟩) (show v1.heap.size ≠ v1.heap.size + 1 by omega) (.int .i64 r.f)).far (p := ⟨(v1.heap.size + 1), 1, none⟩) (show v1.heap.size ≠ v1.heap.size + 1 by omega) (.int .i64 r.c)))
            have X2 := Lib.hid (show Row ((((((u1.setCell ⟨v1.heap.size, 0, none⟩ (.int .i64 k.n)).setCell ⟨v1.heap.size, 1, none⟩ (.int .i64 k.a)).setCell ⟨v1.heap.size, 2, none⟩ (.int .i64 k.p)).setCell ⟨v1.heap.size, 3, none⟩ (.int .i64 k.g)).setCell ⟨(v1.heap.size + 1), 0, none⟩ (.int .i64 r.f)).setCell ⟨(v1.heap.size + 1), 1, none⟩ (.int .i64 r.c)) (v1.heap.size + 1) 27 #[.int .i64 r.f, .int .i64 r.c] from ((((((FBR.out.far (p := ⟨v1.heap.size, 0, none⟩) (show v1.heap.size + 1 ≠ v1.heap.size by omega) (.int .i64 k.n)).far (p := ⟨v1.heap.size, 1, none⟩) (show v1.heap.size + 1 ≠ v1.heap.size by omega) (.int .i64 k.a)).far (p := ⟨v1.heap.size, 2, none⟩) (show v1.heap.size + 1 ≠ v1.heap.size by omega) (.int .i64 k.p)).far (p := ⟨v1.heap.size, 3, none⟩) (show v1.heap.size + 1 ≠ v1.heap.size by omega) (.int .i64 k.g)).put 0 (.int .i64 r.f)).put 1 (.int .i64 r.c)))
            have X3 := Lib.hid ((((((O1.out.new le0 0 (.int .i64 k.n)).new le0 1 (.int .i64 k.a)).new le0 2 (.int .i64 k.p)).new le0 3 (.int .i64 k.g)).new le1 0 (.int .i64 r.f)).new le1 1 (.int .i64 r.c))
            go_wp2_with fail
            go_meet
            case rel => exact ⟨v1.heap.size, (v1.heap.size + 1), rfl, rfl, rfl, le0, le1, X1.out, X2.out, X3.out⟩
          · have X1 := Lib.hid (fresh_at ((u1.setCell ⟨v1.heap.size, 0, none⟩ (.int .i64 r.f)).setCell ⟨v1.heap.size, 1, none⟩ (.int .i64 r.c)) 23 #[.int .i64 k.n, .int .i64 k.a, .int .i64 k.p, .int .i64 k.g] u1.heap.size (by simp [World.setCell]))
            have X2 := Lib.hid (show Row (((u1.setCell ⟨v1.heap.size, 0, none⟩ (.int .i64 r.f)).setCell ⟨v1.heap.size, 1, none⟩ (.int .i64 r.c)).alloc (.cells #[.int .i64 k.n, .int .i64 k.a, .int .i64 k.p, .int .i64 k.g] 23)) v1.heap.size 27 #[.int .i64 r.f, .int .i64 r.c] from ((FBR.out.put 0 (.int .i64 r.f)).put 1 (.int .i64 r.c)).alloc (.cells #[.int .i64 k.n, .int .i64 k.a, .int .i64 k.p, .int .i64 k.g] 23))
            have X3 := Lib.hid (((O1.out.new le0 0 (.int .i64 r.f)).new le0 1 (.int .i64 r.c)).alloc (.cells #[.int .i64 k.n, .int .i64 k.a, .int .i64 k.p, .int .i64 k.g] 23))
            go_wp2_with fail
            go_meet
            case rel => exact ⟨u1.heap.size, v1.heap.size, rfl, rfl, rfl, O1.out.size, le0, X1.out, X2.out, X3.out⟩
          · have X1 := Lib.hid (show Row ((((((u1.setCell ⟨(v1.heap.size + 1), 0, none⟩ (.int .i64 k.n)).setCell ⟨(v1.heap.size + 1), 1, none⟩ (.int .i64 k.a)).setCell ⟨(v1.heap.size + 1), 2, none⟩ (.int .i64 k.p)).setCell ⟨(v1.heap.size + 1), 3, none⟩ (.int .i64 k.g)).setCell ⟨v1.heap.size, 0, none⟩ (.int .i64 r.f)).setCell ⟨v1.heap.size, 1, none⟩ (.int .i64 r.c)) (v1.heap.size + 1) 23 #[.int .i64 k.n, .int .i64 k.a, .int .i64 k.p, .int .i64 k.g] from ((((((FAR.out.put 0 (.int .i64 k.n)).put 1 (.int .i64 k.a)).put 2 (.int .i64 k.p)).put 3 (.int .i64 k.g)).far (p := ⟨v1.heap.size, 0, none⟩) (show v1.heap.size + 1 ≠ v1.heap.size by omega) (.int .i64 r.f)).far (p := ⟨v1.heap.size, 1, none⟩) (show v1.heap.size + 1 ≠ v1.heap.size by omega) (.int .i64 r.c)))
            have X2 := Lib.hid (show Row ((((((u1.setCell ⟨(v1.heap.size + 1), 0, none⟩ (.int .i64 k.n)).setCell ⟨(v1.heap.size + 1), 1, none⟩ (.int .i64 k.a)).setCell ⟨(v1.heap.size + 1), 2, none⟩ (.int .i64 k.p)).setCell ⟨(v1.heap.size + 1), 3, none⟩ (.int .i64 k.g)).setCell ⟨v1.heap.size, 0, none⟩ (.int .i64 r.f)).setCell ⟨v1.heap.size, 1, none⟩ (.int .i64 r.c)) v1.heap.size 27 #[.int .i64 r.f, .int .i64 r.c] from ((((((FBR.out.far (p := ⟨(v1.heap.size + 1), 0, none⟩) (show v1.heap.size ≠ v1.heap.size + 1 by omega) (.int .i64 k.n)).far (p := ⟨(v1.heap.size + 1), 1, none⟩) (show v1.heap.size ≠ v1.heap.size + 1 by omega) (.int .i64 k.a)).far (p := ⟨(v1.heap.size + 1), 2, none⟩) (show v1.heap.size ≠ v1.heap.size + 1 by omega) (.int .i64 k.p)).far (p := ⟨(v1.heap.size + 1), 3, none⟩) (show v1.heap.size ≠ v1.heap.size + 1 by omega) (.int .i64 k.g)).put 0 (.int .i64 r.f)).put 1 (.int .i64 r.c)))
            have X3 := Lib.hid ((((((O1.out.new le1 0 (.int .i64 k.n)).new le1 1 (.int .i64 k.a)).new le1 2 (.int .i64 k.p)).new le1 3 (.int .i64 k.g)).new le0 0 (.int .i64 r.f)).new le0 1 (.int .i64 r.c))
            go_wp2_with fail
            go_meet
            case rel => exact ⟨(v1.heap.size + 1), v1.heap.size, rfl, rfl, rfl, le1, le0, X1.out, X2.out, X3.out⟩
        case rest =>
          obtain ⟨p, p', rfl, rfl, rfl, lp, lp', rp, rp', o⟩ := hcut
          have XO := Lib.hid o
          have X1 := Lib.hid rp
          have X2 := Lib.hid rp'
          have X9 := Lib.hid (o.still Q9.out)
          have X11 := Lib.hid (o.still Q11.out)
          have l9 := Q9.out.lt
          have l11 := Q11.out.lt
          have ne1 : b9 ≠ p := by omega
          have ne2 : b9 ≠ p' := by omega
          have ne3 : b11 ≠ p := by omega
          have ne4 : b11 ≠ p' := by omega
          have ne5 : p ≠ b9 := by omega
          have ne6 : p' ≠ b9 := by omega
          have ne7 : p ≠ b11 := by omega
          have ne8 : p' ≠ b11 := by omega
          clear lp lp' rp rp' o l9 l11
          obtain ⟨c0, c1, c2, c3⟩ := X1.out.four
          obtain ⟨d0, d1⟩ := X2.out.two
          by_cases hq : q = 0
          · obtain ⟨f1, f2, f3, f4, f5, f6, f7, f8, f9, f10, f11, f12⟩ := keeps_facts HM.out (HC.out.trans hq)
            rw [HK.out] at f1 f2 f6 f7 f8 f9
            rw [HR.out] at f2 f3 f4 f5
            have HM2 := Lib.hid f9
            have hq1 : (q != 0) = false := by simp [hq]
            have h1 : (k.n != g.n + act.count) = false := by simp [f1]
            have h2 : (k.a != max g.a (g.n + act.count) + r.c) = false := by simp [f2]
            have h4 : decide (d < r.c) = false := by simp only [decide_eq_false_iff_not]; omega
            have h5 : decide (r.c < 0) = false := by simp only [decide_eq_false_iff_not]; omega
            have h6 : decide (k.p < g.p) = false := by simp only [decide_eq_false_iff_not]; omega
            have h7 : decide (g.p + 1 < k.p) = false := by simp only [decide_eq_false_iff_not]; omega
            have h8 : (k.g != g.g) = false := by simp [f8]
            have m0 := HM.out.n0; have m1 := HM.out.na; have m2 := HM.out.ab; have m3 := HM.out.b1; have m4 := HM.out.p0; have m5 := HM.out.pd; have m6 := HM.out.d1
            have v5 : IntKind.i64.wrap (g.n + act.count) = g.n + act.count := by rw [IntKind.wrap_i64]; omega
            have v6 : IntKind.i64.wrap (max g.a (g.n + act.count) + r.c) = max g.a (g.n + act.count) + r.c := by rw [IntKind.wrap_i64]; omega
            have v7 : IntKind.i64.wrap (g.p + 1) = g.p + 1 := by rw [IntKind.wrap_i64]; omega
            have h3 : (decide (0 < r.c) = true ∧ (r.f != max g.a (g.n + act.count)) = false) ∨ decide (0 < r.c) = false := by
              by_cases z : 0 < r.c
              · exact Or.inl ⟨decide_eq_true z, by simp [f3 z]⟩
              · exact Or.inr (decide_eq_false z)
            obtain ⟨_, cc⟩ := LM.out _ (NR.out.same XO.out)
            obtain ⟨_, cd⟩ := LM.out _ ((NR.out.same XO.out).drew)
            obtain ⟨e0, e1, e2, e3⟩ := X9.out.four
            obtain ⟨i0, i1, i2, i3⟩ := X9.out.drew.four
            clear f1 f2 f3 f4 f5 f6 f7 f8 f9 f10 f11 f12 m0 m1 m2 m3 m4 m5 m6 hq HK HR HC HM
            go_wp2_with fail
            go_region
            clear c0 c1 c2 c3 d0 d1 e0 e1 e2 e3 cc cd i0 i1 i2 i3
            obtain ⟨c0, c1, c2, c3⟩ := X1.out.drew.four
            obtain ⟨d0, d1⟩ := X2.out.drew.two
            obtain ⟨e0, e1, e2, e3⟩ := X9.out.drew.four
            obtain ⟨i0, i1, i2, i3⟩ := X11.out.drew.four
            obtain ⟨f0, f1, f2, f3⟩ := X11.out.four
            have z := X11.out.drew.frozen
            have z' := X11.out.frozen
            rcases h3 with ⟨h3, h3'⟩ | h3
            all_goals
              go_wp2_with fail
              have R9 := Lib.hid (show Row ((((wc.setCell ⟨b11, 0, none⟩ (.int .i64 k.n)).setCell ⟨b11, 1, none⟩ (.int .i64 k.a)).setCell ⟨b11, 2, none⟩ (.int .i64 k.p)).setCell ⟨b11, 3, none⟩ (.int .i64 k.g)).drew b9 23 #[.int .i64 g.n, .int .i64 g.a, .int .i64 g.p, .int .i64 g.g] from (((((X9.out.far (p := ⟨b11, 0, none⟩) n9 (.int .i64 k.n)).far (p := ⟨b11, 1, none⟩) n9 (.int .i64 k.a)).far (p := ⟨b11, 2, none⟩) n9 (.int .i64 k.p)).far (p := ⟨b11, 3, none⟩) n9 (.int .i64 k.g))).drew)
              have R11 := Lib.hid (show Row ((((wc.setCell ⟨b11, 0, none⟩ (.int .i64 k.n)).setCell ⟨b11, 1, none⟩ (.int .i64 k.a)).setCell ⟨b11, 2, none⟩ (.int .i64 k.p)).setCell ⟨b11, 3, none⟩ (.int .i64 k.g)).drew b11 23 #[.int .i64 k.n, .int .i64 k.a, .int .i64 k.p, .int .i64 k.g] from (((((X11.out.put 0 (.int .i64 k.n)).put 1 (.int .i64 k.a)).put 2 (.int .i64 k.p)).put 3 (.int .i64 k.g))).drew)
              have RO := Lib.hid ((((((NR.out.same XO.out).new L11.out 0 (.int .i64 k.n)).new L11.out 1 (.int .i64 k.a)).new L11.out 2 (.int .i64 k.p)).new L11.out 3 (.int .i64 k.g))).drew
              clear c0 c1 c2 c3 d0 d1 e0 e1 e2 e3 i0 i1 i2 i3 f0 f1 f2 f3 z z' X1 X2 X9 X11 XO
              generalize ((((wc.setCell ⟨b11, 0, none⟩ (.int .i64 k.n)).setCell ⟨b11, 1, none⟩ (.int .i64 k.a)).setCell ⟨b11, 2, none⟩ (.int .i64 k.p)).setCell ⟨b11, 3, none⟩ (.int .i64 k.g)).drew = v2 at *
              (with_reducible refine (MY.out k HM2.out _).mono ?_)
              rintro e u2 ⟨rfl, o⟩
              have S9 := Lib.hid (o.still R9.out)
              have S11 := Lib.hid (o.still R11.out)
              have SO := Lib.hid (RO.out.same o)
              clear o R9 R11 RO
              obtain ⟨c0, c1, c2, c3⟩ := S11.out.four
              go_wp2_with fail
              (with_reducible refine (RM.out k HM2.out _).mono ?_)
              rintro e u3 ⟨rfl, o⟩
              have R9 := Lib.hid (o.only.still S9.out)
              have R11 := Lib.hid (o.only.still S11.out)
              have RO := Lib.hid (SO.out.same o.only)
              clear o S9 S11 SO c0 c1 c2 c3
              obtain ⟨c0, c1, c2, c3⟩ := R11.out.four
              obtain ⟨d0, d1, d2, d3⟩ := R9.out.four
              have z := R9.out.frozen
              go_wp2_with fail
              have T9 := Lib.hid (show Row ((((u3.setCell ⟨b9, 0, none⟩ (.int .i64 k.n)).setCell ⟨b9, 1, none⟩ (.int .i64 k.a)).setCell ⟨b9, 2, none⟩ (.int .i64 k.p)).setCell ⟨b9, 3, none⟩ (.int .i64 k.g)) b9 23 #[.int .i64 k.n, .int .i64 k.a, .int .i64 k.p, .int .i64 k.g] from ((((R9.out.put 0 (.int .i64 k.n)).put 1 (.int .i64 k.a)).put 2 (.int .i64 k.p)).put 3 (.int .i64 k.g)))
              have TO := Lib.hid ((((RO.out.new L9.out 0 (.int .i64 k.n)).new L9.out 1 (.int .i64 k.a)).new L9.out 2 (.int .i64 k.p)).new L9.out 3 (.int .i64 k.g))
              go_roundw
              case rel => exact ⟨j + 1, k, by omega, by omega, by go_num, T9.out, TO.out, HM2.out⟩
              case measure => simp [intOf]; omega
          · have hq1 : (q != 0) = true := by simp [hq]
            have z1 : k = ⟨0, 0, 0, 0⟩ := by rw [← HK.out]; unfold Fl.readF; rw [if_neg (by rw [HC.out]; exact hq)]
            have z2 : r = ⟨0, 0⟩ := by rw [← HR.out]; unfold Fl.readR; rw [if_neg (by rw [HC.out]; exact hq)]
            subst z1 z2
            have er := fun w => eq_rn ⟨0, 0⟩ ⟨0, 0⟩ w
            have ef := fun w => eq_fl ⟨0, 0, 0, 0⟩ ⟨0, 0, 0, 0⟩ w
            simp only [decide_true] at er ef
            clear HK HR HC hq
            go_wp2_with fail
            exact ⟨⟨j + 1, g, by omega, by omega, by go_num, X9.out, NR.out.same XO.out, HM.out⟩, by simp [intOf]; omega⟩
      · have lt9 := R9.out.lt
        obtain ⟨b11, hb11⟩ : ∃ b11, wr.heap.size = b11 := ⟨_, rfl⟩
        have L11 := Lib.hid (show w.heap.size ≤ b11 from hb11 ▸ RO.out.size)
        have n9 : b9 ≠ b11 := by omega
        have n11 : b11 ≠ b9 := by omega
        have Q11 := Lib.hid (Row.fresh wr 23 #[.int .i64 g.n, .int .i64 g.a, .int .i64 g.p, .int .i64 g.g])
        have Q9 := Lib.hid (R9.out.alloc (.cells #[.int .i64 g.n, .int .i64 g.a, .int .i64 g.p, .int .i64 g.g] 23))
        obtain ⟨e0, e1, e2, e3⟩ := Q9.out.four
        go_wp2_with fail
        (with_reducible refine (LA.out g HM.out _).mono ?_)
        rintro e u1 ⟨rfl, o⟩
        have HM2 := Lib.hid (show g.late.May d b from late_may HM.out)
        generalize g.late = h at *
        rw [hb11] at Q11
        clear hb11 lt9
        have S9 := Lib.hid (o.still Q9.out)
        have S11 := Lib.hid (o.still Q11.out)
        have SO := Lib.hid (NR.out.same o)
        clear o Q9 Q11 R9 RO NR c0 c1 c2 c3 e0 e1 e2 e3 k0
        obtain ⟨c0, c1, c2, c3⟩ := S11.out.four
        have z := S11.out.frozen
        go_wp2_with fail
        have R9 := Lib.hid (show Row ((((u1.setCell ⟨b11, 0, none⟩ (.int .i64 h.n)).setCell ⟨b11, 1, none⟩ (.int .i64 h.a)).setCell ⟨b11, 2, none⟩ (.int .i64 h.p)).setCell ⟨b11, 3, none⟩ (.int .i64 h.g)) b9 23 #[.int .i64 g.n, .int .i64 g.a, .int .i64 g.p, .int .i64 g.g] from ((((S9.out.far (p := ⟨b11, 0, none⟩) n9 (.int .i64 h.n)).far (p := ⟨b11, 1, none⟩) n9 (.int .i64 h.a)).far (p := ⟨b11, 2, none⟩) n9 (.int .i64 h.p)).far (p := ⟨b11, 3, none⟩) n9 (.int .i64 h.g)))
        have R11 := Lib.hid (show Row ((((u1.setCell ⟨b11, 0, none⟩ (.int .i64 h.n)).setCell ⟨b11, 1, none⟩ (.int .i64 h.a)).setCell ⟨b11, 2, none⟩ (.int .i64 h.p)).setCell ⟨b11, 3, none⟩ (.int .i64 h.g)) b11 23 #[.int .i64 h.n, .int .i64 h.a, .int .i64 h.p, .int .i64 h.g] from ((((S11.out.put 0 (.int .i64 h.n)).put 1 (.int .i64 h.a)).put 2 (.int .i64 h.p)).put 3 (.int .i64 h.g)))
        have RO := Lib.hid ((((SO.out.new L11.out 0 (.int .i64 h.n)).new L11.out 1 (.int .i64 h.a)).new L11.out 2 (.int .i64 h.p)).new L11.out 3 (.int .i64 h.g))
        clear S9 S11 SO c0 c1 c2 c3 z
        generalize ((((u1.setCell ⟨b11, 0, none⟩ (.int .i64 h.n)).setCell ⟨b11, 1, none⟩ (.int .i64 h.a)).setCell ⟨b11, 2, none⟩ (.int .i64 h.p)).setCell ⟨b11, 3, none⟩ (.int .i64 h.g)) = v1 at *
        (with_reducible refine (MY.out h HM2.out _).mono ?_)
        rintro e u2 ⟨rfl, o⟩
        have S9 := Lib.hid (o.still R9.out)
        have S11 := Lib.hid (o.still R11.out)
        have SO := Lib.hid (RO.out.same o)
        clear o R9 R11 RO
        obtain ⟨c0, c1, c2, c3⟩ := S11.out.four
        go_wp2_with fail
        (with_reducible refine (RM.out h HM2.out _).mono ?_)
        rintro e u3 ⟨rfl, o⟩
        have R9 := Lib.hid (o.only.still S9.out)
        have R11 := Lib.hid (o.only.still S11.out)
        have RO := Lib.hid (SO.out.same o.only)
        clear o S9 S11 SO c0 c1 c2 c3
        obtain ⟨c0, c1, c2, c3⟩ := R11.out.four
        obtain ⟨d0, d1, d2, d3⟩ := R9.out.four
        have z := R9.out.frozen
        go_wp2_with fail
        have T9 := Lib.hid (show Row ((((u3.setCell ⟨b9, 0, none⟩ (.int .i64 h.n)).setCell ⟨b9, 1, none⟩ (.int .i64 h.a)).setCell ⟨b9, 2, none⟩ (.int .i64 h.p)).setCell ⟨b9, 3, none⟩ (.int .i64 h.g)) b9 23 #[.int .i64 h.n, .int .i64 h.a, .int .i64 h.p, .int .i64 h.g] from ((((R9.out.put 0 (.int .i64 h.n)).put 1 (.int .i64 h.a)).put 2 (.int .i64 h.p)).put 3 (.int .i64 h.g)))
        have TO := Lib.hid ((((RO.out.new L9.out 0 (.int .i64 h.n)).new L9.out 1 (.int .i64 h.a)).new L9.out 2 (.int .i64 h.p)).new L9.out 3 (.int .i64 h.g))
        go_roundw
        case rel => exact ⟨j + 1, h, by omega, by omega, by go_num, T9.out, TO.out, HM2.out⟩
        case measure => simp [intOf]; omega
      · have lt9 := R9.out.lt
        obtain ⟨b11, hb11⟩ : ∃ b11, wr.heap.size = b11 := ⟨_, rfl⟩
        have L11 := Lib.hid (show w.heap.size ≤ b11 from hb11 ▸ RO.out.size)
        have n9 : b9 ≠ b11 := by omega
        have n11 : b11 ≠ b9 := by omega
        have Q11 := Lib.hid (Row.fresh wr 23 #[.int .i64 g.n, .int .i64 g.a, .int .i64 g.p, .int .i64 g.g])
        have Q9 := Lib.hid (R9.out.alloc (.cells #[.int .i64 g.n, .int .i64 g.a, .int .i64 g.p, .int .i64 g.g] 23))
        obtain ⟨e0, e1, e2, e3⟩ := Q9.out.four
        go_wp2_with fail
        (with_reducible refine (WA.out g HM.out _).mono ?_)
        rintro e u1 ⟨rfl, o⟩
        have HM2 := Lib.hid (show g.waste.May d b from waste_may HM.out)
        generalize g.waste = h at *
        rw [hb11] at Q11
        clear hb11 lt9
        have S9 := Lib.hid (o.still Q9.out)
        have S11 := Lib.hid (o.still Q11.out)
        have SO := Lib.hid (NR.out.same o)
        clear o Q9 Q11 R9 RO NR c0 c1 c2 c3 e0 e1 e2 e3 k0
        obtain ⟨c0, c1, c2, c3⟩ := S11.out.four
        have z := S11.out.frozen
        go_wp2_with fail
        have R9 := Lib.hid (show Row ((((u1.setCell ⟨b11, 0, none⟩ (.int .i64 h.n)).setCell ⟨b11, 1, none⟩ (.int .i64 h.a)).setCell ⟨b11, 2, none⟩ (.int .i64 h.p)).setCell ⟨b11, 3, none⟩ (.int .i64 h.g)) b9 23 #[.int .i64 g.n, .int .i64 g.a, .int .i64 g.p, .int .i64 g.g] from ((((S9.out.far (p := ⟨b11, 0, none⟩) n9 (.int .i64 h.n)).far (p := ⟨b11, 1, none⟩) n9 (.int .i64 h.a)).far (p := ⟨b11, 2, none⟩) n9 (.int .i64 h.p)).far (p := ⟨b11, 3, none⟩) n9 (.int .i64 h.g)))
        have R11 := Lib.hid (show Row ((((u1.setCell ⟨b11, 0, none⟩ (.int .i64 h.n)).setCell ⟨b11, 1, none⟩ (.int .i64 h.a)).setCell ⟨b11, 2, none⟩ (.int .i64 h.p)).setCell ⟨b11, 3, none⟩ (.int .i64 h.g)) b11 23 #[.int .i64 h.n, .int .i64 h.a, .int .i64 h.p, .int .i64 h.g] from ((((S11.out.put 0 (.int .i64 h.n)).put 1 (.int .i64 h.a)).put 2 (.int .i64 h.p)).put 3 (.int .i64 h.g)))
        have RO := Lib.hid ((((SO.out.new L11.out 0 (.int .i64 h.n)).new L11.out 1 (.int .i64 h.a)).new L11.out 2 (.int .i64 h.p)).new L11.out 3 (.int .i64 h.g))
        clear S9 S11 SO c0 c1 c2 c3 z
        generalize ((((u1.setCell ⟨b11, 0, none⟩ (.int .i64 h.n)).setCell ⟨b11, 1, none⟩ (.int .i64 h.a)).setCell ⟨b11, 2, none⟩ (.int .i64 h.p)).setCell ⟨b11, 3, none⟩ (.int .i64 h.g)) = v1 at *
        (with_reducible refine (MY.out h HM2.out _).mono ?_)
        rintro e u2 ⟨rfl, o⟩
        have S9 := Lib.hid (o.still R9.out)
        have S11 := Lib.hid (o.still R11.out)
        have SO := Lib.hid (RO.out.same o)
        clear o R9 R11 RO
        obtain ⟨c0, c1, c2, c3⟩ := S11.out.four
        go_wp2_with fail
        (with_reducible refine (RM.out h HM2.out _).mono ?_)
        rintro e u3 ⟨rfl, o⟩
        have R9 := Lib.hid (o.only.still S9.out)
        have R11 := Lib.hid (o.only.still S11.out)
        have RO := Lib.hid (SO.out.same o.only)
        clear o S9 S11 SO c0 c1 c2 c3
        obtain ⟨c0, c1, c2, c3⟩ := R11.out.four
        obtain ⟨d0, d1, d2, d3⟩ := R9.out.four
        have z := R9.out.frozen
        go_wp2_with fail
        have T9 := Lib.hid (show Row ((((u3.setCell ⟨b9, 0, none⟩ (.int .i64 h.n)).setCell ⟨b9, 1, none⟩ (.int .i64 h.a)).setCell ⟨b9, 2, none⟩ (.int .i64 h.p)).setCell ⟨b9, 3, none⟩ (.int .i64 h.g)) b9 23 #[.int .i64 h.n, .int .i64 h.a, .int .i64 h.p, .int .i64 h.g] from ((((R9.out.put 0 (.int .i64 h.n)).put 1 (.int .i64 h.a)).put 2 (.int .i64 h.p)).put 3 (.int .i64 h.g)))
        have TO := Lib.hid ((((RO.out.new L9.out 0 (.int .i64 h.n)).new L9.out 1 (.int .i64 h.a)).new L9.out 2 (.int .i64 h.p)).new L9.out 3 (.int .i64 h.g))
        go_roundw
        case rel => exact ⟨j + 1, h, by omega, by omega, by go_num, T9.out, TO.out, HM2.out⟩
        case measure => simp [intOf]; omega
      · have lt9 := R9.out.lt
        obtain ⟨b11, hb11⟩ : ∃ b11, wr.heap.size = b11 := ⟨_, rfl⟩
        have Q11 := Lib.hid (Row.fresh wr 23 #[.int .i64 g.n, .int .i64 g.a, .int .i64 g.p, .int .i64 g.g])
        have Q9 := Lib.hid (R9.out.alloc (.cells #[.int .i64 g.n, .int .i64 g.a, .int .i64 g.p, .int .i64 g.g] 23))
        go_wp2_with fail
        rw [hb11] at Q11
        clear hb11 lt9 R9 RO c0 c1 c2 c3 k0
        have R9 := Lib.hid Q9.out
        have R11 := Lib.hid Q11.out
        have RO := Lib.hid NR.out
        have HM2 := Lib.hid HM.out
        clear Q9 Q11 NR
        generalize wr.alloc (.cells #[.int .i64 g.n, .int .i64 g.a, .int .i64 g.p, .int .i64 g.g] 23) = v1 at *
        (with_reducible refine (MY.out g HM2.out _).mono ?_)
        rintro e u2 ⟨rfl, o⟩
        have S9 := Lib.hid (o.still R9.out)
        have S11 := Lib.hid (o.still R11.out)
        have SO := Lib.hid (RO.out.same o)
        clear o R9 R11 RO
        obtain ⟨c0, c1, c2, c3⟩ := S11.out.four
        go_wp2_with fail
        (with_reducible refine (RM.out g HM2.out _).mono ?_)
        rintro e u3 ⟨rfl, o⟩
        have R9 := Lib.hid (o.only.still S9.out)
        have R11 := Lib.hid (o.only.still S11.out)
        have RO := Lib.hid (SO.out.same o.only)
        clear o S9 S11 SO c0 c1 c2 c3
        obtain ⟨c0, c1, c2, c3⟩ := R11.out.four
        obtain ⟨d0, d1, d2, d3⟩ := R9.out.four
        have z := R9.out.frozen
        go_wp2_with fail
        have T9 := Lib.hid (show Row ((((u3.setCell ⟨b9, 0, none⟩ (.int .i64 g.n)).setCell ⟨b9, 1, none⟩ (.int .i64 g.a)).setCell ⟨b9, 2, none⟩ (.int .i64 g.p)).setCell ⟨b9, 3, none⟩ (.int .i64 g.g)) b9 23 #[.int .i64 g.n, .int .i64 g.a, .int .i64 g.p, .int .i64 g.g] from ((((R9.out.put 0 (.int .i64 g.n)).put 1 (.int .i64 g.a)).put 2 (.int .i64 g.p)).put 3 (.int .i64 g.g)))
        have TO := Lib.hid ((((RO.out.new L9.out 0 (.int .i64 g.n)).new L9.out 1 (.int .i64 g.a)).new L9.out 2 (.int .i64 g.p)).new L9.out 3 (.int .i64 g.g))
        go_roundw
        case rel => exact ⟨j + 1, g, by omega, by omega, by go_num, T9.out, TO.out, HM2.out⟩
        case measure => simp [intOf]; omega
    · have FG := 0
      rcases t1 with ⟨t1, t2⟩ | t1
      all_goals
        go_wp2_with fail
        go_ret
        exact ⟨rfl, RO.out.to_below9⟩


set_option maxRecDepth 100000 in
theorem lifted (os : Os) (started : os.Started) (H : Type) (enc : TypeId × Value → H) :
    ReturnsInHanded {} Try.checked os 5 .any (Rows.ampKeepsSpec.pre6 enc Try.prog Try.f5 Rows.ampKeepsRow.domain false) (Rows.ampKeepsSpec.post enc Try.prog Try.f5 false true false false) := by
  refine returnsInHanded_of_change (C := Try.checked) own started (by kernel_rfl) Try.func5
    (ChangeSpec.witness6 (enc := enc) (C := Try.checked) false ⟨#[], #[.int .u8 0, .agg #[.int .u8 0, .int .u8 0], .slice none 0 0], []⟩ 8 (by kernel_rfl) (by kernel_rfl) (by kernel_rfl) (by kernel_rfl)) ?_
  intro W base args ds gs before hval0 hW hcnd _
  have hval : ∀ (j : Nat) t v, Try.f5.params[j]? = some t → args[j]? = some v → Value.okWide Try.prog W .any base t v := hval0
  have hW' := hW
  obtain ⟨p, q, hA0, hV, rfl, hfz, hnd⟩ := hW
  have hA : DataW.TrodAll enc Try.prog W 0 (fun _ => true) true Try.f5.params.toList args.toList ds p := hA0
  rw [Try.params5] at hA hval
  obtain ⟨v0, vs0, d0, ds0, p0, q0, hargs, rfl, rfl, h0, r0⟩ := trodAll_cons hA
  obtain ⟨v1, vs1, d1, ds1, p1, q1, rfl, rfl, rfl, h1, r1⟩ := trodAll_cons r0
  obtain ⟨v2, vs2, d2, ds2, p2, q2, rfl, rfl, rfl, h2, r2⟩ := trodAll_cons r1
  obtain ⟨rfl, rfl, rfl⟩ := trodAll_nil r2
  obtain rfl : args = #[v0, v1, v2] := by cases args; simp_all
  obtain ⟨rfl, rfl⟩ := trodVars_none hV
  obtain ⟨a0, rfl, rfl, rfl, w0⟩ := open_int Try.underlying5 (hval 0 5 v0 rfl rfl) h0
  have o1 := hval 1 37 v1 rfl rfl
  have k1 := h1
  have lt1 : ∀ x ∈ p1, x.block < W.heap.size := by obtain ⟨m, hm⟩ := k1; exact DataW.trod_lt m _ _ _ hm
  obtain ⟨a1, b1, rfl, wa1, wb1⟩ := open_pair8 W base H enc v1 d1 p1 o1 h1
  have k2 := h2
  have lt2 : ∀ x ∈ p2, x.block < W.heap.size := by obtain ⟨m, hm⟩ := k2; exact DataW.trod_lt m _ _ _ hm
  obtain ⟨ad2, len2, cap2, rfl⟩ := okWide_slice Try.underlying38 (hval 2 38 v2 rfl rfl)
  obtain ⟨fuel2, hf2⟩ := h2
  obtain ⟨max2, xs2, el2, hold2, wf2⟩ := open_beats hf2
  have shut : ∀ W', Below W.heap.size W W' → DataW.TrodAll enc Try.prog W' 0 (fun b => decide (b < W.heap.size)) true [5, 37, 38] [.int .u8 a0, .agg #[.int .u8 a1, .int .u8 b1], .slice ad2 len2 cap2] [.lit (.int .u8 a0), d1, d2] ([] ++ (p1 ++ (p2 ++ []))) := fun W' bel =>
    (trodAll_cons_mk (shut_int Try.underlying5 w0) (trodAll_cons_mk (Below.trod laidOut (by kernel_rfl) (of_decide_eq_true (by kernel_rfl)) k1 bel lt1) (trodAll_cons_mk (Below.trod laidOut (by kernel_rfl) (of_decide_eq_true (by kernel_rfl)) k2 bel lt2) trodAll_mk0)))
  clear hA0 hval0
  refine (walk W a0 w0 a1 wa1 b1 wb1 ad2 len2 cap2 xs2 max2 el2 hold2 wf2).mono fun e W' ⟨he, bel⟩ => ?_
  subst he
  exact ⟨_, rfl, _, _, _, [], _, [], hW', trodAll_mk1 (shut_bool Try.underlying4 _), shut W' bel, rfl, bel.frame _, fun h => by cases h⟩

theorem over : Rows.ampKeepsRow.holds Try.pinned (OpenSpec.ofChange Rows.ampKeepsSpec) :=
  OpenClaim.holds_of_wide 5 Try.f5 rfl rfl rfl rfl rfl rfl rfl ⟨rfl, rfl, rfl, rfl, rfl⟩ rfl rfl rfl rfl rfl (by kernel_rfl) Try.func5 (by kernel_rfl)
    (of_decide_eq_true (by kernel_rfl)) (by unfold Func.isWrapper; first | (rw [if_pos (by decide +kernel)]; kernel_rfl) | (rw [if_neg (by decide +kernel)]; exact ⟨rfl, rfl⟩))
    (fun os started H enc _ => lifted os started H enc)

theorem ampKeeps_holds : Rows.AmpKeepsSaid := over
#print axioms ampKeeps_holds
end Go.Proofs.Ytlpijieimidnoaa.ampKeeps

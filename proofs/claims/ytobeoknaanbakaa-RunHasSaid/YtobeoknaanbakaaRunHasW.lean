/- The walk through RunHas's own text. -/
import Derived.WalkKit
import Derived.ProofKit
import Derived.OpenShut
import Derived.Below
import Derived.Test.YtobeoknaanbakaaArgs
import Derived.Test.YtobeoknaanbakaaRunAw
import Derived.Test.YtobeoknaanbakaaActs13
import Derived.Deep.RegionHeld3
namespace Go.Proofs.Ytobeoknaanbakaa.runHas
open Go.ChangeShapes Go.WideShapes Go.ChangeAt Go.RowKit
set_option linter.unusedVariables false


set_option maxHeartbeats 1000000 in
set_option maxRecDepth 100000 in
theorem walk (w : World) (ad0 : Option Addr) (len0 cap0 : Nat) (xs0 : List Int) (max0 : len0 ≤ maxLen) (el0 : xs0.length = len0) (hold0 : Holds w ad0 1 one xs0) (wf0 : ∀ x ∈ xs0, True) (ad1 : Option Addr) (len1 cap1 : Nat) (xs1 : List Int) (max1 : len1 ≤ maxLen) (el1 : xs1.length = len1) (hold1 : Holds w ad1 1 one xs1) (wf1 : ∀ x ∈ xs1, True) (a : Ask1) (wa : a.Wf) :
    Calls Try.prog 5 #[.slice ad0 len0 cap0, .slice ad1 len1 cap1, a.val] w fun e w' => e = .returned (.bool true) ∧ Below w.heap.size w w' := by
  subst el0 el1
  have RX := Lib.hid (Reads.of_holds (cap := cap0) hold0)
  have RY := Lib.hid (Reads.of_holds (cap := cap1) hold1)
  have WA := Lib.hid wa
  clear hold0 hold1 wf0 wf1 max0 max1 wa
  by_cases h0 : 300 < xs0.length
  · have t0 : decide ((300 : Int) < (xs0.length : Int)) = true := decide_eq_true (by omega)
    have t0' : decide (300 < xs0.length) = true := decide_eq_true h0
    clear h0
    go_enter Try.func5, Try.ntmps5
    go_wp2_with fail
    have O0 := Lib.hid ((Only.refl none_ w).alloc (.cells #[.int .i64 a.b, .int .i64 a.m, .int .i64 a.r] 24))
    (with_reducible refine (awake_any _).mono ?_)
    rintro e w1 ⟨rfl, o⟩
    have O1 := Lib.hid (O0.out.same o)
    clear o O0
    go_wp2_with fail
    go_ret
    exact ⟨rfl, O1.out.to_below13⟩
  by_cases h1 : 300 < xs1.length
  · have t0 : decide ((300 : Int) < (xs0.length : Int)) = false := decide_eq_false (by omega)
    have t0' : decide (300 < xs0.length) = false := decide_eq_false h0
    have t1 : decide ((300 : Int) < (xs1.length : Int)) = true := decide_eq_true (by omega)
    have t1' : decide (300 < xs1.length) = true := decide_eq_true h1
    clear h0 h1
    go_enter Try.func5, Try.ntmps5
    go_wp2_with fail
    have O0 := Lib.hid ((Only.refl none_ w).alloc (.cells #[.int .i64 a.b, .int .i64 a.m, .int .i64 a.r] 24))
    (with_reducible refine (awake_any _).mono ?_)
    rintro e w1 ⟨rfl, o⟩
    have O1 := Lib.hid (O0.out.same o)
    clear o O0
    go_wp2_with fail
    go_ret
    exact ⟨rfl, O1.out.to_below13⟩
  have t0 : decide ((300 : Int) < (xs0.length : Int)) = false := decide_eq_false (by omega)
  have t0' : decide (300 < xs0.length) = false := decide_eq_false h0
  have t1 : decide ((300 : Int) < (xs1.length : Int)) = false := decide_eq_false (by omega)
  have t1' : decide (300 < xs1.length) = false := decide_eq_false h1
  have CA := Lib.hid (fun (w' : World) (o : Only none_ w w') => around_any _ _ xs0 xs1 a.b a.m a.r w' (RX.out.still o) (RY.out.still o) (by omega) (by omega) WA.out.2.2.2)
  have IX := Lib.hid (fun (x : Int) (w' : World) (o : Only none_ w w') => in_q _ xs0 x w' (RX.out.still o) (by omega))
  have IY := Lib.hid (fun (x : Int) (w' : World) (o : Only none_ w w') => in_q _ xs1 x w' (RY.out.still o) (by omega))
  have SP := Lib.hid (fun (h : aroundC xs0 xs1 a.b a.m a.r = 0) => around_spec h)
  have CD := Lib.hid (fun (h : aroundC xs0 xs1 a.b a.m a.r ≠ 0) => around_codes h)
  generalize aroundR xs0 xs1 a.b a.m a.r = R at *
  generalize aroundC xs0 xs1 a.b a.m a.r = C at *
  have HH := Lib.hid (fun w' => rhas_any R a.b w' WA.out.1.2)
  unfold Rn.val at CA HH
  clear h0 h1
  by_cases hC : C = 0
  · subst hC
    obtain ⟨s1, s2, s3, s4, s5, s6⟩ := SP.out rfl
    rw [decide_eq_true s2] at HH
    have S1 := Lib.hid s1
    have S5 := Lib.hid s5
    have S6 := Lib.hid s6
    have g1 : decide (a.m < R.c) = false := decide_eq_false (by omega)
    have g2 : decide (8 < R.c) = false := decide_eq_false (by omega)
    have v1 : IntKind.i64.wrap (R.f + R.c) = R.f + R.c := by unfold Rn.Ok at s1; rw [IntKind.wrap_i64]; omega
    obtain ⟨n, hn⟩ := Int.eq_ofNat_of_zero_le (show 0 ≤ R.c by unfold Rn.Ok at s1; omega)
    have HN := Lib.hid (show R.c = (n : Int) ∧ n ≤ 8 ∧ R.c.toNat = n from by omega)
    clear s1 s2 s3 s4 s5 s6 SP CD hn
    go_enter Try.func5, Try.ntmps5
    go_wp2_with fail
    have X0 := Lib.hid (Row.fresh w 24 #[.int .i64 a.b, .int .i64 a.m, .int .i64 a.r])
    have O0 := Lib.hid ((Only.refl none_ w).alloc (.cells #[.int .i64 a.b, .int .i64 a.m, .int .i64 a.r] 24))
    revert X0 O0
    generalize w.alloc (.cells #[.int .i64 a.b, .int .i64 a.m, .int .i64 a.r] 24) = W1
    generalize hg : w.heap.size = g
    intro X0 O0
    have GW := Lib.hid hg
    clear hg
    (with_reducible refine (awake_any _).mono ?_)
    rintro e w1 ⟨rfl, o⟩
    have X1 := Lib.hid (o.still X0.out)
    have O1 := Lib.hid (O0.out.same o)
    clear o X0 O0
    obtain ⟨x0, x1, x2⟩ := X1.out.three
    go_wp2_with fail
    (with_reducible refine (CA.out _ O1.out).mono ?_)
    rintro e w2 ⟨rfl, o⟩
    have X2 := Lib.hid ((o.still X1.out).alloc (.cells #[.int .i64 R.f, .int .i64 R.c] 27))
    have R2 := Lib.hid (Row.fresh w2 27 #[.int .i64 R.f, .int .i64 R.c])
    have O2 := Lib.hid ((O1.out.same o).alloc (.cells #[.int .i64 R.f, .int .i64 R.c] 27))
    clear o X1 O1 x0 x1 x2
    obtain ⟨x0, x1, x2⟩ := X2.out.three
    obtain ⟨r0, r1⟩ := R2.out.two
    go_wp2_with fail
    (with_reducible refine (HH.out _).mono ?_)
    rintro e w3 ⟨rfl, o⟩
    have X3 := Lib.hid (o.still X2.out)
    have R3 := Lib.hid (o.still R2.out)
    have O3 := Lib.hid (O2.out.same o)
    clear o X2 R2 O2 x0 x1 x2 r0 r1
    revert R3
    generalize w2.heap.size = gr
    intro R3
    obtain ⟨x0, x1, x2⟩ := X3.out.three
    obtain ⟨r0, r1⟩ := R3.out.two
    go_wp2_with fail
    go_loopw [9, 10] (fun c x wr => w3 = wr ∧ ∃ k : Nat, k ≤ n ∧ c = .int .i64 (cnt (hasB xs1) R.f k) ∧ x = .int .i64 (R.f + (k : Int))) (fun _ x _ => (R.f + R.c - intOf x).toNat)
    case atStart => exact ⟨rfl, 0, Nat.zero_le _, rfl, by rw [show R.f + ((0 : Nat) : Int) = R.f by omega]⟩
    case round =>
      obtain ⟨hw, k, hk, rfl, rfl⟩ := hrel
      subst hw
      have hn := HN.out
      have ok := S1.out
      unfold Rn.Ok at ok
      obtain ⟨x, hx⟩ : ∃ x, x = R.f + (k : Int) := ⟨_, rfl⟩
      rw [← hx]
      have CB := cnt_bd (hasB xs1) R.f k
      by_cases hlt : k < n
      · have t2 : decide (x < R.f + R.c) = true := decide_eq_true (by omega)
        have v2 : IntKind.i64.wrap (x + 1) = x + 1 := by rw [IntKind.wrap_i64]; omega
        have v3 : IntKind.i64.wrap (cnt (hasB xs1) R.f k + 1) = cnt (hasB xs1) R.f k + 1 := by rw [IntKind.wrap_i64]; omega
        have IQ := IX.out x _ O3.out
        rw [decide_eq_true (S5.out x (by omega) (by omega))] at IQ
        have IQ := Lib.hid IQ
        have JQ := IY.out x _ O3.out
        rw [← hasB_in (show 0 ≤ x by omega) (show x < 256 by omega)] at JQ
        have JQ := Lib.hid JQ
        have NX := Lib.hid (show cnt (hasB xs1) R.f (k + 1) = cnt (hasB xs1) R.f k + costB (hasB xs1) x from by rw [hx]; rfl)
        have FX := Lib.hid (show x + 1 = R.f + ((k + 1 : Nat) : Int) ∧ k + 1 ≤ n ∧ x < R.f + R.c ∧ x = R.f + (k : Int) from by omega)
        generalize hcv : cnt (hasB xs1) R.f k = cv at *
        clear hn ok hx hlt hk CB hcv
        go_wp2_with fail
        (with_reducible refine IQ.out.mono ?_)
        rintro e w4 ⟨rfl, rfl⟩
        go_wp2_with fail
        cases qn : hasB xs1 x with
        | true =>
          rw [qn] at JQ
          have CV := Lib.hid (show costB (hasB xs1) x = 1 from by unfold costB; rw [qn]; rfl)
          clear qn
          (with_reducible refine JQ.out.mono ?_)
          rintro e w5 ⟨rfl, rfl⟩
          go_wp2_with fail
          go_roundw
          case rel => exact ⟨by trivial, k + 1, FX.out.2.1, by rw [NX.out, CV.out], by rw [FX.out.1]⟩
          case measure => have := FX.out; simp [intOf]; omega
        | false =>
          rw [qn] at JQ
          have CV := Lib.hid (show costB (hasB xs1) x = 0 from by unfold costB; rw [qn]; rfl)
          clear qn
          (with_reducible refine JQ.out.mono ?_)
          rintro e w5 ⟨rfl, rfl⟩
          go_wp2_with fail
          go_roundw
          case rel => exact ⟨by trivial, k + 1, FX.out.2.1, by rw [NX.out, CV.out, Int.add_zero], by rw [FX.out.1]⟩
          case measure => have := FX.out; simp [intOf]; omega
      · have t2 : decide (x < R.f + R.c) = false := decide_eq_false (by omega)
        have e : k = n := by omega
        have s6 := S6.out
        rw [HN.out.2.2, ← e] at s6
        generalize hcv : cnt (hasB xs1) R.f k = cv at *
        have t3 : decide (cv ≤ a.r) = true := decide_eq_true s6
        clear hn ok hx hlt hk CB hcv e s6
        go_wp2_with fail
        go_ret
        exact ⟨rfl, O3.out.to_below13⟩
  · obtain ⟨rfl, hc⟩ := CD.out hC
    have t2 : (C != 0) = true := by simp [hC]
    have er := fun w => eq_rn ⟨0, 0⟩ ⟨0, 0⟩ w
    simp only [decide_true] at er
    clear SP CD HH hC
    rcases hc with rfl | ⟨rfl, hz, hm⟩
    · 
      go_enter Try.func5, Try.ntmps5
      go_wp2_with fail
      have X0 := Lib.hid (Row.fresh w 24 #[.int .i64 a.b, .int .i64 a.m, .int .i64 a.r])
      have O0 := Lib.hid ((Only.refl none_ w).alloc (.cells #[.int .i64 a.b, .int .i64 a.m, .int .i64 a.r] 24))
      revert X0 O0
      generalize w.alloc (.cells #[.int .i64 a.b, .int .i64 a.m, .int .i64 a.r] 24) = W1
      generalize hg : w.heap.size = g
      intro X0 O0
      have GW := Lib.hid hg
      clear hg
      (with_reducible refine (awake_any _).mono ?_)
      rintro e w1 ⟨rfl, o⟩
      have X1 := Lib.hid (o.still X0.out)
      have O1 := Lib.hid (O0.out.same o)
      clear o X0 O0
      obtain ⟨x0, x1, x2⟩ := X1.out.three
      go_wp2_with fail
      (with_reducible refine (CA.out _ O1.out).mono ?_)
      rintro e w2 ⟨rfl, o⟩
      have X2 := Lib.hid ((o.still X1.out).alloc (.cells #[.int .i64 0, .int .i64 0] 27))
      have R2 := Lib.hid (Row.fresh w2 27 #[.int .i64 0, .int .i64 0])
      have O2 := Lib.hid ((O1.out.same o).alloc (.cells #[.int .i64 0, .int .i64 0] 27))
      clear o X1 O1 x0 x1 x2
      obtain ⟨x0, x1, x2⟩ := X2.out.three
      obtain ⟨r0, r1⟩ := R2.out.two
      go_wp2_with fail
      go_ret
      exact ⟨rfl, O2.out.to_below13⟩
    · have tz : (a.r == 0) = true := by simp [hz]
      have IB := Lib.hid (fun (w' : World) (o : Only none_ w w') => IY.out a.b w' o)
      rw [decide_eq_true hm] at IB
      clear hz hm
      go_enter Try.func5, Try.ntmps5
      go_wp2_with fail
      have X0 := Lib.hid (Row.fresh w 24 #[.int .i64 a.b, .int .i64 a.m, .int .i64 a.r])
      have O0 := Lib.hid ((Only.refl none_ w).alloc (.cells #[.int .i64 a.b, .int .i64 a.m, .int .i64 a.r] 24))
      revert X0 O0
      generalize w.alloc (.cells #[.int .i64 a.b, .int .i64 a.m, .int .i64 a.r] 24) = W1
      generalize hg : w.heap.size = g
      intro X0 O0
      have GW := Lib.hid hg
      clear hg
      (with_reducible refine (awake_any _).mono ?_)
      rintro e w1 ⟨rfl, o⟩
      have X1 := Lib.hid (o.still X0.out)
      have O1 := Lib.hid (O0.out.same o)
      clear o X0 O0
      obtain ⟨x0, x1, x2⟩ := X1.out.three
      go_wp2_with fail
      (with_reducible refine (CA.out _ O1.out).mono ?_)
      rintro e w2 ⟨rfl, o⟩
      have X2 := Lib.hid ((o.still X1.out).alloc (.cells #[.int .i64 0, .int .i64 0] 27))
      have R2 := Lib.hid (Row.fresh w2 27 #[.int .i64 0, .int .i64 0])
      have O2 := Lib.hid ((O1.out.same o).alloc (.cells #[.int .i64 0, .int .i64 0] 27))
      clear o X1 O1 x0 x1 x2
      obtain ⟨x0, x1, x2⟩ := X2.out.three
      obtain ⟨r0, r1⟩ := R2.out.two
      go_wp2_with fail
      (with_reducible refine (IB.out _ O2.out).mono ?_)
      rintro e w3 ⟨rfl, rfl⟩
      go_wp2_with fail
      go_ret
      exact ⟨rfl, O2.out.to_below13⟩



end Go.Proofs.Ytobeoknaanbakaa.runHas

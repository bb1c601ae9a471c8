/- What the document's own Percent answers. No condition but that the number fits its kind. -/
import Derived.Test.YthknbmjobllonaaFpct2
import Derived.Deep.QuietTactic
import Derived.BigQuiet
namespace Go.Proofs.Ythknbmjobllonaa
open Go.RowKit Fl

theorem sgn_ge {x : Nat} (hx : x < 18446744073709551616) : sgn x = decide (9223372036854775808 ≤ x) := by
  unfold sgn; rw [Bool.eq_iff_iff, beq_iff_eq, decide_eq_true_eq]; omega

theorem small_order {k p : Nat} (hk : k + 1 < 101) (hp : nan p = false) (hs : sgn p = false) :
    (k + 1 ≤ whole (rung p) → (FloatKind.f64.format.order (floatOfInt .f64 ((k : Int) + 1)) p == some .lt || FloatKind.f64.format.order (floatOfInt .f64 ((k : Int) + 1)) p == some .eq) = true) ∧
    (¬ k + 1 ≤ whole (rung p) → (FloatKind.f64.format.order (floatOfInt .f64 ((k : Int) + 1)) p == some .lt) = false ∧ (FloatKind.f64.format.order (floatOfInt .f64 ((k : Int) + 1)) p == some .eq) = false) := by
  have e : floatOfInt .f64 ((k : Int) + 1) = rnd (k + 1) 0 := floatOfInt_eq (k + 1)
  rw [e]
  have v := (small_val (k + 1) hk).1
  have r : rung (rnd (k + 1) 0) = rnd (k + 1) 0 := by unfold rung; omega
  have n : nan (rnd (k + 1) 0) = false := by unfold nan; rw [r, decide_eq_false_iff_not]; omega
  have s : sgn (rnd (k + 1) 0) = false := by unfold sgn; rw [show rnd (k + 1) 0 / 9223372036854775808 = 0 by omega]; rfl
  obtain ⟨o1, _, o3⟩ := f_order n hp
  rw [o1, o3, key_sg' n s, key_sg' hp hs, r]
  have sk := small_key (r := rung p) hk
  generalize rnd (k + 1) 0 = f at *
  constructor
  · intro h
    have := sk.2 h
    rw [← Bool.decide_or, decide_eq_true_eq]; omega
  · intro h
    have : ¬ f ≤ rung p := fun c => h (sk.1 c)
    rw [decide_eq_false_iff_not, decide_eq_false_iff_not]; omega

theorem pct_ref (x : Nat) (hx : x < 18446744073709551616) (w : World) : Calls Try.prog 17 #[.int .u64 x] w fun e w' => e = .returned (.int .i64 (pct x)) ∧ w = w' := by
  have fb := frombits x
  by_cases n : nan x = true
  · have e : pct x = 0 := by unfold pct; rw [if_pos (Or.inl n)]
    rw [e]
    clear e
    go_enter Try.func17, Try.ntmps17
    go_wp2_with (go_at_call 15; (with_reducible refine (isNaN_ref _ hx _).mono ?_); rintro e w' ⟨rfl, rfl⟩)
    go_ret
    exact ⟨rfl, rfl⟩
  · have n : nan x = false := by simpa using n
    by_cases s : sgn x = true
    · have e : pct x = 0 := by unfold pct; rw [if_pos (Or.inr s)]
      rw [e]
      have t : decide ((9223372036854775808 : Int) ≤ (x : Int)) = true := by
        rw [sgn_ge hx, decide_eq_true_eq] at s
        rw [decide_eq_true_eq]; omega
      clear e s
      go_enter Try.func17, Try.ntmps17
      go_wp2_with (go_at_call 15; (with_reducible refine (isNaN_ref _ hx _).mono ?_); rintro e w' ⟨rfl, rfl⟩)
      go_ret
      exact ⟨rfl, rfl⟩
    · have s : sgn x = false := by simpa using s
      have e : pct x = min 100 (whole (times x)) := by unfold pct; rw [if_neg (by rw [n, s]; simp)]
      rw [e]
      have t : decide ((9223372036854775808 : Int) ≤ (x : Int)) = false := by
        rw [sgn_ge hx, decide_eq_false_iff_not] at s
        rw [decide_eq_false_iff_not]; omega
      have m := mul_hundred n
      rw [mul_comm] at m
      have m : Ieee.double.mul x 4636737291354636288 = some (Ieee.double.word (sgn x) (times x)) := m
      rw [s] at m
      have hm := fun t w => @mul_some Try.prog _ _ _ m t w
      have p1 : nan (Ieee.double.word false (times x)) = false := nan_word (times_inf x)
      have p2 : sgn (Ieee.double.word false (times x)) = false := sgn_word (times_inf x)
      have p3 : rung (Ieee.double.word false (times x)) = times x := rung_word (times_inf x)
      have SO := fun k hk => @small_order k _ hk p1 p2
      rw [p3] at SO
      have cf := conv_float
      clear m e s p1 p2 p3
      generalize Ieee.double.word false (times x) = p at *
      generalize whole (times x) = q at *
      have SO' := Lib.hid SO
      clear SO
      go_enter Try.func17, Try.ntmps17
      go_wp2_with (go_at_call 15; (with_reducible refine (isNaN_ref _ hx _).mono ?_); rintro e w' ⟨rfl, rfl⟩)
      go_loop [4] (fun i => ∃ k : Nat, k ≤ 100 ∧ k ≤ q ∧ i = .int .i64 k) (fun i => 100 - (intOf i).toNat)
      case atStart => exact ⟨0, by omega, by omega, rfl⟩
      case round =>
        obtain ⟨k, hk, hq, rfl⟩ := hrel
        by_cases c1 : k < 100
        · by_cases c2 : k + 1 ≤ q
          · have o := (SO'.out k (by omega)).1 c2
            go_wp2
            exact ⟨⟨k + 1, by omega, by omega, by go_num⟩, by simp [intOf]; omega⟩
          · obtain ⟨o1, o2⟩ := (SO'.out k (by omega)).2 c2
            go_wp2
            go_ret
            exact ⟨ret_int (by omega), rfl⟩
        · go_wp2
          go_ret
          exact ⟨ret_int (by omega), rfl⟩
end Go.Proofs.Ythknbmjobllonaa

/- What Rate and Mean answer, and the document's own ones: the same bits. No condition but that the numbers fit their kinds. -/
import Derived.Test.YthknbmjobllonaaFtold
namespace Go.Proofs.Ythknbmjobllonaa
open Go.RowKit Fl

/-- the NaN that an operation without an answer gives: what the tape says -/
def drawnNaN (w : World) (x y : Nat) : Nat := (Question.nanBits .f64 x y).cut (w.tape w.drawn (.nanBits .f64 x y))

theorem drawnNaN_range (w : World) (x y : Nat) : nan (drawnNaN w x y) = true ∧ drawnNaN w x y < 18446744073709551616 := by
  unfold drawnNaN
  generalize w.tape w.drawn (.nanBits .f64 x y) = t
  show nan (t % 2 * 2 ^ 63 + 0x7ff0000000000000 + 1 + t / 2 % (2 ^ 52 - 1)) = true ∧ t % 2 * 2 ^ 63 + 0x7ff0000000000000 + 1 + t / 2 % (2 ^ 52 - 1) < 18446744073709551616
  have h1 : t / 2 % (2 ^ 52 - 1) < 2 ^ 52 - 1 := Nat.mod_lt _ (by decide)
  have h2 : t % 2 = 0 ∨ t % 2 = 1 := by omega
  generalize t / 2 % (2 ^ 52 - 1) = r at *
  generalize t % 2 = q at *
  unfold nan rung
  rw [decide_eq_true_eq]
  rcases h2 with rfl | rfl <;> omega

section
variable {P : Program}
theorem quo_some {x y r : Nat} (h : Ieee.double.div x y = some r) (t : TypeId) (w : World) : (binOp .quo t (.float .f64 x) (.float .f64 y)).run P w = .ok (.float .f64 r) w := run_float_arith w .quo t .f64 x y r h
theorem add_some {x y r : Nat} (h : Ieee.double.add x y = some r) (t : TypeId) (w : World) : (binOp .add t (.float .f64 x) (.float .f64 y)).run P w = .ok (.float .f64 r) w := run_float_arith w .add t .f64 x y r h
theorem mul_some {x y r : Nat} (h : Ieee.double.mul x y = some r) (t : TypeId) (w : World) : (binOp .mul t (.float .f64 x) (.float .f64 y)).run P w = .ok (.float .f64 r) w := run_float_arith w .mul t .f64 x y r h
theorem quo_none {x y : Nat} (h : Ieee.double.div x y = none) (t : TypeId) (w : World) : (binOp .quo t (.float .f64 x) (.float .f64 y)).run P w = .ok (.float .f64 (drawnNaN w x y)) w.drew := by
  have h' : FloatKind.f64.format.div x y = none := h
  simp [binOp, Op.floatArith, h', drawnNaN, Question.forced]
theorem add_none {x y : Nat} (h : Ieee.double.add x y = none) (t : TypeId) (w : World) : (binOp .add t (.float .f64 x) (.float .f64 y)).run P w = .ok (.float .f64 (drawnNaN w x y)) w.drew := by
  have h' : FloatKind.f64.format.add x y = none := h
  simp [binOp, Op.floatArith, h', drawnNaN, Question.forced]
end

theorem conv_float (x : Nat) (w : World) : (convert 35 35 (.float .f64 x)).run Try.prog w = .ok (.float .f64 x) w :=
  run_convert_float_float w _ _ .f64 .f64 x x (by rw [Try.underlying35]; rfl) Try.underlying35 rfl

theorem rate_any (a b : Nat) (w : World) : Calls Try.prog 18 #[.int .u64 a, .int .u64 b] w (Kept (.int .u64 (rate a b)) w) := by
  have c1 := floatOfInt_eq a
  have c2 := floatOfInt_eq b
  cases hd : Ieee.double.div (rnd a 0) (rnd b 0) with
  | some r =>
    have e : rate a b = canon r := by unfold rate; rw [hd]
    rw [e]
    have hq := fun t w => @quo_some Try.prog _ _ _ hd t w
    clear e hd
    go_enter Try.func18, Try.ntmps18
    go_wp2_with (go_at_call 22; (with_reducible refine (told_any _ _).mono ?_); rintro e w' ⟨rfl, hb⟩)
    go_ret
    exact ⟨rfl, hb⟩
  | none =>
    have e : rate a b = 9221120237041090561 := by unfold rate; rw [hd]
    rw [e]
    have hq := fun t w => @quo_none Try.prog _ _ hd t w
    clear e hd
    go_enter Try.func18, Try.ntmps18
    go_wp2_with (go_at_call 22; (with_reducible refine (told_nan _ (drawnNaN_range _ _ _).1 _).mono ?_); rintro e w' ⟨rfl, hb⟩)
    go_ret
    exact ⟨rfl, (below_drewN (Below.refl _ _) 1).trans hb⟩


/-- both halves are numbers -/
theorem mean_any (a b : Nat) (w : World) : Calls Try.prog 13 #[.int .u64 a, .int .u64 b] w (Kept (.int .u64 (mean a b)) w) := by
  have f1 := frombits a
  have f2 := frombits b
  have cf := conv_float
  cases ha : Ieee.double.div a 4611686018427387904 with
  | some x =>
    have q1 := fun t w => @quo_some Try.prog _ _ _ ha t w
    cases hb : Ieee.double.div b 4611686018427387904 with
    | some y =>
      have q2 := fun t w => @quo_some Try.prog _ _ _ hb t w
      cases hs : Ieee.double.add x y with
      | some r =>
        have e : mean a b = canon r := by unfold mean; rw [ha, hb]; dsimp only; rw [hs]
        rw [e]
        have q3 := fun t w => @add_some Try.prog _ _ _ hs t w
        clear e ha hb hs
        go_enter Try.func13, Try.ntmps13
        go_wp2_with (go_at_call 22; (with_reducible refine (told_any _ _).mono ?_); rintro e w' ⟨rfl, hb⟩)
        go_ret
        exact ⟨rfl, hb⟩
      | none =>
        have e : mean a b = 9221120237041090561 := by unfold mean; rw [ha, hb]; dsimp only; rw [hs]
        rw [e]
        have q3 := fun t w => @add_none Try.prog _ _ hs t w
        clear e ha hb hs
        go_enter Try.func13, Try.ntmps13
        go_wp2_with (go_at_call 22; (with_reducible refine (told_nan _ (drawnNaN_range _ _ _).1 _).mono ?_); rintro e w' ⟨rfl, hb⟩)
        go_ret
        exact ⟨rfl, (below_drewN (Below.refl _ _) 1).trans hb⟩
    | none =>
      have q2 := fun t w => @quo_none Try.prog _ _ hb t w
      have e : mean a b = 9221120237041090561 := by unfold mean; rw [ha, hb]
      rw [e]
      have q3 : ∀ (t : TypeId) (w W : World), (binOp .add t (.float .f64 x) (.float .f64 (drawnNaN W b 4611686018427387904))).run Try.prog w = .ok (.float .f64 (drawnNaN w x (drawnNaN W b 4611686018427387904))) w.drew :=
        fun t w W => add_none (add_nan_right (drawnNaN_range _ _ _).1) t w
      clear e ha hb
      go_enter Try.func13, Try.ntmps13
      go_wp2_with (go_at_call 22; (with_reducible refine (told_nan _ (drawnNaN_range _ _ _).1 _).mono ?_); rintro e w' ⟨rfl, hb⟩)
      go_ret
      exact ⟨rfl, (below_drewN (below_drewN (Below.refl _ _) 1) 1).trans hb⟩
  | none =>
    have q1 := fun t w => @quo_none Try.prog _ _ ha t w
    have e : mean a b = 9221120237041090561 := by unfold mean; rw [ha]
    rw [e]
    have q3 : ∀ (t : TypeId) (w W : World) (y : Nat), (binOp .add t (.float .f64 (drawnNaN W a 4611686018427387904)) (.float .f64 y)).run Try.prog w = .ok (.float .f64 (drawnNaN w (drawnNaN W a 4611686018427387904) y)) w.drew :=
      fun t w W y => add_none (add_nan_left (drawnNaN_range _ _ _).1) t w
    cases hb : Ieee.double.div b 4611686018427387904 with
    | some y =>
      have q2 := fun t w => @quo_some Try.prog _ _ _ hb t w
      clear e ha hb
      go_enter Try.func13, Try.ntmps13
      go_wp2_with (go_at_call 22; (with_reducible refine (told_nan _ (drawnNaN_range _ _ _).1 _).mono ?_); rintro e w' ⟨rfl, hb⟩)
      go_ret
      exact ⟨rfl, (below_drewN (below_drewN (Below.refl _ _) 1) 1).trans hb⟩
    | none =>
      have q2 := fun t w => @quo_none Try.prog _ _ hb t w
      clear e ha hb
      go_enter Try.func13, Try.ntmps13
      go_wp2_with (go_at_call 22; (with_reducible refine (told_nan _ (drawnNaN_range _ _ _).1 _).mono ?_); rintro e w' ⟨rfl, hb⟩)
      go_ret
      exact ⟨rfl, (below_drewN (below_drewN (below_drewN (Below.refl _ _) 1) 1) 1).trans hb⟩

theorem plain_nan (x : Nat) (h : nan x = true ∧ x < 18446744073709551616) (w : World) : Calls Try.prog 23 #[.float .f64 x] w fun e w' => e = .returned (.int .u64 9221120237041090561) ∧ w = w' := by
  have := plain_any x h.2 w
  rw [canon_nan h.1] at this
  exact this

theorem mean_ref (a b : Nat) (w : World) : Calls Try.prog 14 #[.int .u64 a, .int .u64 b] w (Kept (.int .u64 (mean a b)) w) := by
  have f1 := frombits a
  have f2 := frombits b
  have cf := conv_float
  cases ha : Ieee.double.div a 4611686018427387904 with
  | some x =>
    have q1 := fun t w => @quo_some Try.prog _ _ _ ha t w
    cases hb : Ieee.double.div b 4611686018427387904 with
    | some y =>
      have q2 := fun t w => @quo_some Try.prog _ _ _ hb t w
      cases hs : Ieee.double.add x y with
      | some r =>
        have hr := add_lt hs
        have e : mean a b = canon r := by unfold mean; rw [ha, hb]; dsimp only; rw [hs]
        rw [e]
        have q3 := fun t w => @add_some Try.prog _ _ _ hs t w
        clear e ha hb hs
        go_enter Try.func14, Try.ntmps14
        go_wp2_with (go_at_call 23; (with_reducible refine (plain_any _ hr _).mono ?_); rintro e w' ⟨rfl, rfl⟩)
        go_ret
        exact ⟨rfl, Below.refl _ _⟩
      | none =>
        have e : mean a b = 9221120237041090561 := by unfold mean; rw [ha, hb]; dsimp only; rw [hs]
        rw [e]
        have q3 := fun t w => @add_none Try.prog _ _ hs t w
        clear e ha hb hs
        go_enter Try.func14, Try.ntmps14
        go_wp2_with (go_at_call 23; (with_reducible refine (plain_nan _ (drawnNaN_range _ _ _) _).mono ?_); rintro e w' ⟨rfl, rfl⟩)
        go_ret
        exact ⟨rfl, below_drewN (Below.refl _ _) 1⟩
    | none =>
      have q2 := fun t w => @quo_none Try.prog _ _ hb t w
      have e : mean a b = 9221120237041090561 := by unfold mean; rw [ha, hb]
      rw [e]
      have q3 : ∀ (t : TypeId) (w W : World), (binOp .add t (.float .f64 x) (.float .f64 (drawnNaN W b 4611686018427387904))).run Try.prog w = .ok (.float .f64 (drawnNaN w x (drawnNaN W b 4611686018427387904))) w.drew :=
        fun t w W => add_none (add_nan_right (drawnNaN_range _ _ _).1) t w
      clear e ha hb
      go_enter Try.func14, Try.ntmps14
      go_wp2_with (go_at_call 23; (with_reducible refine (plain_nan _ (drawnNaN_range _ _ _) _).mono ?_); rintro e w' ⟨rfl, rfl⟩)
      go_ret
      exact ⟨rfl, below_drewN (below_drewN (Below.refl _ _) 1) 1⟩
  | none =>
    have q1 := fun t w => @quo_none Try.prog _ _ ha t w
    have e : mean a b = 9221120237041090561 := by unfold mean; rw [ha]
    rw [e]
    have q3 : ∀ (t : TypeId) (w W : World) (y : Nat), (binOp .add t (.float .f64 (drawnNaN W a 4611686018427387904)) (.float .f64 y)).run Try.prog w = .ok (.float .f64 (drawnNaN w (drawnNaN W a 4611686018427387904) y)) w.drew :=
      fun t w W y => add_none (add_nan_left (drawnNaN_range _ _ _).1) t w
    cases hb : Ieee.double.div b 4611686018427387904 with
    | some y =>
      have q2 := fun t w => @quo_some Try.prog _ _ _ hb t w
      clear e ha hb
      go_enter Try.func14, Try.ntmps14
      go_wp2_with (go_at_call 23; (with_reducible refine (plain_nan _ (drawnNaN_range _ _ _) _).mono ?_); rintro e w' ⟨rfl, rfl⟩)
      go_ret
      exact ⟨rfl, below_drewN (below_drewN (Below.refl _ _) 1) 1⟩
    | none =>
      have q2 := fun t w => @quo_none Try.prog _ _ hb t w
      clear e ha hb
      go_enter Try.func14, Try.ntmps14
      go_wp2_with (go_at_call 23; (with_reducible refine (plain_nan _ (drawnNaN_range _ _ _) _).mono ?_); rintro e w' ⟨rfl, rfl⟩)
      go_ret
      exact ⟨rfl, below_drewN (below_drewN (below_drewN (Below.refl _ _) 1) 1) 1⟩
end Go.Proofs.Ythknbmjobllonaa

/- What the document's own key and Cmp answer. No condition but that the numbers fit their kinds. -/
import Derived.Test.YthknbmjobllonaaFsmall
import Derived.Deep.QuietTactic
import Derived.BigQuiet
namespace Go.Proofs.Ythknbmjobllonaa
open Go.RowKit Fl

theorem ret_pair {i j : IntKind} {a b c d : Int} (h : a = c) (k : b = d) : Ending.returned (.tuple #[.int i a, .int j b]) = .returned (.tuple #[.int i c, .int j d]) := by rw [h, k]

/-- the document's key: a class, and a place in it -/
def kc (x : Nat) : Nat := if nan x then 0 else if rung x = 0 then 2 else if 9223372036854775808 ≤ x then 1 else 3
def ku (x : Nat) : Nat := if nan x then 0 else if rung x = 0 then 0 else if 9223372036854775808 ≤ x then 9223372036854775808 - rung x else rung x

theorem key_ref (x : Nat) (hx : x < 18446744073709551616) (w : World) : Calls Try.prog 21 #[.int .u64 x] w fun e w' => e = .returned (.tuple #[.int .i64 (kc x), .int .u64 (ku x)]) ∧ w = w' := by
  have r : rung x < 9223372036854775808 := Nat.mod_lt _ (by decide)
  by_cases n : nan x = true
  · have e1 : kc x = 0 := by unfold kc; rw [if_pos n]
    have e2 : ku x = 0 := by unfold ku; rw [if_pos n]
    rw [e1, e2]
    clear e1 e2 r
    go_enter Try.func21, Try.ntmps21
    go_wp2_with (go_at_call 15; (with_reducible refine (isNaN_ref _ hx _).mono ?_); rintro e w' ⟨rfl, rfl⟩)
    go_ret2
    exact ⟨rfl, rfl⟩
  · have n : nan x = false := by simpa using n
    by_cases z : rung x = 0
    · have e1 : kc x = 2 := by unfold kc; rw [n, if_pos z]; rfl
      have e2 : ku x = 0 := by unfold ku; rw [n, if_pos z]; rfl
      rw [e1, e2]
      have t : (((x % 9223372036854775808 : Nat) : Int) == 0) = true := by unfold rung at z; rw [z]; rfl
      clear e1 e2 r z
      go_enter Try.func21, Try.ntmps21
      go_wp2_with (go_at_call 15; (with_reducible refine (isNaN_ref _ hx _).mono ?_); rintro e w' ⟨rfl, rfl⟩)
      go_ret2
      exact ⟨rfl, rfl⟩
    · have t : (((x % 9223372036854775808 : Nat) : Int) == 0) = false := by unfold rung at z; rw [beq_eq_false_iff_ne]; omega
      by_cases g : 9223372036854775808 ≤ x
      · have e1 : kc x = 1 := by unfold kc; rw [n, if_neg z, if_pos g]; rfl
        have e2 : ku x = 9223372036854775808 - rung x := by unfold ku; rw [n, if_neg z, if_pos g]; rfl
        rw [e1, e2]
        unfold rung at r ⊢
        clear e1 e2 z
        have t2 : decide ((9223372036854775808 : Int) ≤ (x : Int)) = true := by rw [decide_eq_true_eq]; omega
        have G := Lib.hid g
        clear g
        go_enter Try.func21, Try.ntmps21
        go_wp2_with (go_at_call 15; (with_reducible refine (isNaN_ref _ hx _).mono ?_); rintro e w' ⟨rfl, rfl⟩)
        go_ret2
        exact ⟨ret_pair rfl (by omega), rfl⟩
      · have e1 : kc x = 3 := by unfold kc; rw [n, if_neg z, if_neg g]; rfl
        have e2 : ku x = rung x := by unfold ku; rw [n, if_neg z, if_neg g]; rfl
        rw [e1, e2]
        unfold rung at r ⊢
        clear e1 e2 z
        have t2 : decide ((9223372036854775808 : Int) ≤ (x : Int)) = false := by rw [decide_eq_false_iff_not]; omega
        have G := Lib.hid g
        clear g
        go_enter Try.func21, Try.ntmps21
        go_wp2_with (go_at_call 15; (with_reducible refine (isNaN_ref _ hx _).mono ?_); rintro e w' ⟨rfl, rfl⟩)
        go_ret2
        exact ⟨rfl, rfl⟩

theorem key_lex {a b : Nat} (ha : a < 18446744073709551616) (hb : b < 18446744073709551616) : key a < key b ↔ kc a < kc b ∨ kc a = kc b ∧ ku a < ku b := by
  have r1 : rung a < 9223372036854775808 := Nat.mod_lt _ (by decide)
  have r2 : rung b < 9223372036854775808 := Nat.mod_lt _ (by decide)
  have s1 : sgn a = decide (9223372036854775808 ≤ a) := by
    unfold sgn; rw [Bool.eq_iff_iff, beq_iff_eq, decide_eq_true_eq]; omega
  have s2 : sgn b = decide (9223372036854775808 ≤ b) := by
    unfold sgn; rw [Bool.eq_iff_iff, beq_iff_eq, decide_eq_true_eq]; omega
  unfold key kc ku
  rw [s1, s2]
  cases nan a <;> cases nan b <;> simp only [Bool.false_eq_true, if_true, if_false, decide_eq_true_eq] <;> (repeat' split) <;> omega

theorem cmp_ref (a b : Nat) (ha : a < 18446744073709551616) (hb : b < 18446744073709551616) (w : World) :
    Calls Try.prog 12 #[.int .u64 a, .int .u64 b] w fun e w' => e = .returned (.int .i64 (Fl.side (key a) (key b))) ∧ w = w' := by
  have A := Lib.hid (key_ref a ha)
  have B := Lib.hid (key_ref b hb)
  have l1 := key_lex ha hb
  have l2 := key_lex hb ha
  generalize kc a = i at *
  generalize ku a = u at *
  generalize kc b = j at *
  generalize ku b = v at *
  have S : Fl.side (key a) (key b) = if i < j ∨ i = j ∧ u < v then -1 else if j < i ∨ j = i ∧ v < u then 1 else 0 := by
    unfold Fl.side
    simp only [l1, l2]
  rw [S]
  have L1 := Lib.hid l1
  clear l1 l2 S
  rcases Nat.lt_trichotomy i j with k | k | k
  · rw [if_pos (Or.inl k)]
    go_enter Try.func12, Try.ntmps12
    go_wp2_with (first | (go_at_call 21; (with_reducible refine (A.out _).mono ?_); rintro e w' ⟨rfl, rfl⟩) | (go_at_call 21; (with_reducible refine (B.out _).mono ?_); rintro e w' ⟨rfl, rfl⟩))
    go_ret
    exact ⟨rfl, rfl⟩
  · subst k
    rcases Nat.lt_trichotomy u v with k | k | k
    · rw [if_pos (Or.inr ⟨rfl, k⟩)]
      go_enter Try.func12, Try.ntmps12
      go_wp2_with (first | (go_at_call 21; (with_reducible refine (A.out _).mono ?_); rintro e w' ⟨rfl, rfl⟩) | (go_at_call 21; (with_reducible refine (B.out _).mono ?_); rintro e w' ⟨rfl, rfl⟩))
      go_ret
      exact ⟨rfl, rfl⟩
    · subst k
      rw [if_neg (by omega), if_neg (by omega)]
      go_enter Try.func12, Try.ntmps12
      go_wp2_with (first | (go_at_call 21; (with_reducible refine (A.out _).mono ?_); rintro e w' ⟨rfl, rfl⟩) | (go_at_call 21; (with_reducible refine (B.out _).mono ?_); rintro e w' ⟨rfl, rfl⟩))
      go_ret
      exact ⟨rfl, rfl⟩
    · rw [if_neg (by omega), if_pos (Or.inr ⟨rfl, k⟩)]
      have k2 : ¬ u < v := by omega
      go_enter Try.func12, Try.ntmps12
      go_wp2_with (first | (go_at_call 21; (with_reducible refine (A.out _).mono ?_); rintro e w' ⟨rfl, rfl⟩) | (go_at_call 21; (with_reducible refine (B.out _).mono ?_); rintro e w' ⟨rfl, rfl⟩))
      go_ret
      exact ⟨rfl, rfl⟩
  · rw [if_neg (by omega), if_pos (Or.inl k)]
    have k2 : ¬ i < j := by omega
    have k3 : ((i : Int) == j) = false := by rw [beq_eq_false_iff_ne]; omega
    go_enter Try.func12, Try.ntmps12
    go_wp2_with (first | (go_at_call 21; (with_reducible refine (A.out _).mono ?_); rintro e w' ⟨rfl, rfl⟩) | (go_at_call 21; (with_reducible refine (B.out _).mono ?_); rintro e w' ⟨rfl, rfl⟩))
    go_ret
    exact ⟨rfl, rfl⟩
end Go.Proofs.Ythknbmjobllonaa

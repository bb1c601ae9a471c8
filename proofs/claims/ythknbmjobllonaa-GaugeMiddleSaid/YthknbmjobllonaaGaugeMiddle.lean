/- Proved: the statement GaugeMiddle of layer 2, for every two gauges, on no condition. -/
import Derived.Test.YthknbmjobllonaaRows
import Derived.WalkKit
import Derived.ProofKit
import Derived.OpenShut
import Derived.Below
import Derived.Test.YthknbmjobllonaaFawake
import Derived.Laws.Bits64
import Derived.Laws.Bits64b
import Derived.Test.YthknbmjobllonaaMiddle
namespace Go.Proofs.Ythknbmjobllonaa.gaugeMiddle
open Go.ChangeShapes Go.WideShapes Go.ChangeAt Go.RowKit Fl
set_option linter.unusedVariables false

theorem own : ownKnob Try.prog.godebug = none := by kernel_rfl

theorem wrap_zero {a : Nat} (r : rung a = 0) : IntKind.u64.wrap ((a : Int) * 2) = 0 := by unfold rung at r; rw [IntKind.wrap_u64]; omega
theorem wrap_more {a : Nat} (r : rung a ≠ 0) : ¬ IntKind.u64.wrap ((a : Int) * 2) = 0 := by unfold rung at r; rw [IntKind.wrap_u64]; omega
theorem wrap_bool {a : Nat} (r : rung a ≠ 0) : (IntKind.u64.wrap ((a : Int) * 2) != 0) = true := by rw [bne_iff_ne]; exact wrap_more r
theorem expo_low {a : Nat} (r : rung a < 9007199254740992) : decide ((a : Int) / 4503599627370496 % 2048 < 2) = true := by unfold rung at r; rw [decide_eq_true_eq]; omega
theorem expo_high {a : Nat} (r : 9007199254740992 ≤ rung a) : decide ((a : Int) / 4503599627370496 % 2048 < 2) = false := by unfold rung at r; rw [decide_eq_false_iff_not]; omega
theorem side_le {x y : Int} (h : x ≤ y) : Fl.side x y ≤ 0 := by unfold Fl.side; split <;> (try split) <;> omega
theorem not_inf {a : Nat} {c : Int} (h : (a : Int) ≠ c) : ((a : Int) == c) = false := by rw [beq_eq_false_iff_ne]; exact h
theorem is_inf {a : Nat} {c : Int} (h : (a : Int) = c) : ((a : Int) == c) = true := by rw [beq_iff_eq]; exact h
theorem inf_word {a : Nat} (ha : a < 18446744073709551616) (h : rung a = 9218868437227405312) : (sgn a = false → a = 9218868437227405312) ∧ (sgn a = true → a = 18442240474082181120) := by
  have := word_self ha
  rw [h, word_eq] at this
  constructor
  · intro s; rw [s] at this; simpa using this.symm
  · intro s; rw [s] at this; simpa using this.symm
theorem ends_of {a b : Nat} (ha : a < 18446744073709551616) (hb : b < 18446744073709551616) (h : ends a b) : (a = 9218868437227405312 ∧ b = 18442240474082181120) ∨ (b = 9218868437227405312 ∧ a = 18442240474082181120) := by
  obtain ⟨h1, h2, h3⟩ := h
  have i1 := inf_word ha h1
  have i2 := inf_word hb h2
  cases sa : sgn a <;> cases sb : sgn b
  · exact absurd (sa.trans sb.symm) h3
  · exact Or.inl ⟨i1.1 sa, i2.2 sb⟩
  · exact Or.inr ⟨i2.1 sb, i1.2 sa⟩
  · exact absurd (sa.trans sb.symm) h3
theorem ends_left : ends 9218868437227405312 18442240474082181120 := by unfold ends; decide
theorem ends_right : ends 18442240474082181120 9218868437227405312 := by unfold ends; decide

/-- whether each is +Inf, decided: what the statement asks -/
def Tests (a b : Nat) : Prop := (((a : Int) == 9218868437227405312) = false ∨ ((a : Int) == 9218868437227405312) = true ∧ ((b : Int) == 18442240474082181120) = false) ∧ (((b : Int) == 9218868437227405312) = false ∨ ((b : Int) == 9218868437227405312) = true ∧ ((a : Int) == 18442240474082181120) = false)
theorem tests_of {a b : Nat} (ne : ¬ ends a b) : Tests a b := by
  have e1 : ¬ ((a : Int) = 9218868437227405312 ∧ (b : Int) = 18442240474082181120) := fun ⟨h1, h2⟩ => by
    obtain rfl : a = 9218868437227405312 := by omega
    obtain rfl : b = 18442240474082181120 := by omega
    exact ne ends_left
  have e2 : ¬ ((b : Int) = 9218868437227405312 ∧ (a : Int) = 18442240474082181120) := fun ⟨h1, h2⟩ => by
    obtain rfl : b = 9218868437227405312 := by omega
    obtain rfl : a = 18442240474082181120 := by omega
    exact ne ends_right
  constructor
  · by_cases h : (a : Int) = 9218868437227405312
    · exact Or.inr ⟨is_inf h, not_inf fun k => e1 ⟨h, k⟩⟩
    · exact Or.inl (not_inf h)
  · by_cases h : (b : Int) = 9218868437227405312
    · exact Or.inr ⟨is_inf h, not_inf fun k => e2 ⟨h, k⟩⟩
    · exact Or.inl (not_inf h)

set_option maxHeartbeats 1000000 in
theorem tiny_a (a b : Nat) (ha : a < 18446744073709551616) (hb : b < 18446744073709551616) (ra : rung a ≠ 0) (qa : rung a < 9007199254740992) (w : World) :
    Calls Try.prog 7 #[.int .u64 a, .int .u64 b] w fun e w' => e = .returned (.bool true) ∧ Below w.heap.size w w' := by
  have O := or_sign
  have za := wrap_more ra
  have ya := wrap_bool ra
  have xa := expo_low qa
  go_enter Try.func7, Try.ntmps7
  go_wp2_with fail
  (with_reducible refine (awake_any _).mono ?_)
  rintro e w1 ⟨rfl, hb1⟩
  have H1 := Lib.hid hb1
  clear hb1
  go_wp2_with fail
  go_ret
  exact ⟨by simp, H1.out⟩

set_option maxHeartbeats 1000000 in
theorem tiny_bz (a b : Nat) (ha : a < 18446744073709551616) (hb : b < 18446744073709551616) (ra : rung a = 0) (rb : rung b ≠ 0) (qb : rung b < 9007199254740992) (w : World) :
    Calls Try.prog 7 #[.int .u64 a, .int .u64 b] w fun e w' => e = .returned (.bool true) ∧ Below w.heap.size w w' := by
  have O := or_sign
  have za := wrap_zero ra
  have pa : plainly a := Or.inl ra
  have zb := wrap_more rb
  have yb := wrap_bool rb
  have xb := expo_low qb
  go_enter Try.func7, Try.ntmps7
  go_wp2_with fail
  (with_reducible refine (awake_any _).mono ?_)
  rintro e w1 ⟨rfl, hb1⟩
  have H1 := Lib.hid hb1
  clear hb1
  go_wp2_with fail
  go_ret
  exact ⟨by simp, H1.out⟩

set_option maxHeartbeats 1000000 in
theorem tiny_bn (a b : Nat) (ha : a < 18446744073709551616) (hb : b < 18446744073709551616) (ra : 9007199254740992 ≤ rung a) (rb : rung b ≠ 0) (qb : rung b < 9007199254740992) (w : World) :
    Calls Try.prog 7 #[.int .u64 a, .int .u64 b] w fun e w' => e = .returned (.bool true) ∧ Below w.heap.size w w' := by
  have O := or_sign
  have za := wrap_more (a := a) (by omega)
  have ya := wrap_bool (a := a) (by omega)
  have xa := expo_high ra
  have pa : plainly a := Or.inr ra
  have zb := wrap_more rb
  have yb := wrap_bool rb
  have xb := expo_low qb
  go_enter Try.func7, Try.ntmps7
  go_wp2_with fail
  (with_reducible refine (awake_any _).mono ?_)
  rintro e w1 ⟨rfl, hb1⟩
  have H1 := Lib.hid hb1
  clear hb1
  go_wp2_with fail
  go_ret
  exact ⟨by simp, H1.out⟩

set_option maxHeartbeats 1000000 in
theorem mid_zz (a b : Nat) (ha : a < 18446744073709551616) (hb : b < 18446744073709551616) (ra : rung a = 0) (rb : rung b = 0) (na : nan a = false) (nb : nan b = false) (ne : ¬ ends a b) (w : World) :
    Calls Try.prog 7 #[.int .u64 a, .int .u64 b] w fun e w' => e = .returned (.bool true) ∧ Below w.heap.size w w' := by
  have O := or_sign
  have za := wrap_zero ra
  have pa : plainly a := Or.inl ra
  have zb := wrap_zero rb
  have pb : plainly b := Or.inl rb
  obtain ⟨T1, T2⟩ := tests_of ne
  have IA := isNaN_ref a ha
  rw [na] at IA
  have IA := Lib.hid IA
  have IB := isNaN_ref b hb
  rw [nb] at IB
  have IB := Lib.hid IB
  have T1 := not_inf (show (a : Int) ≠ 9218868437227405312 by unfold rung at ra; omega)
  have T2 := not_inf (show (b : Int) ≠ 9218868437227405312 by unfold rung at rb; omega)
  clear ra rb
  skip
  obtain ⟨nm, m1, m2⟩ := middle ha hb pa pb na nb ne
  have IM := isNaN_ref (mean a b) (mean_lt a b)
  rw [nm] at IM
  have IM := Lib.hid IM
  have M := Lib.hid (mean_any a b)
  by_cases c : key b < key a
  · have CAB := Lib.hid (same_lit (cmp_any a b) (side_pos c))
    have o := m2 (by omega)
    have C1 := cmp_any b (mean a b)
    have C2 := cmp_any (mean a b) a
    have s1 := side_le o.1
    have s2 := side_le o.2
    generalize Fl.side (key b) (key (mean a b)) = u1 at *
    generalize Fl.side (key (mean a b)) (key a) = u2 at *
    generalize mean a b = m at *
    have t1 : decide (u1 ≤ 0) = true := by rw [decide_eq_true_eq]; omega
    have t2 : decide (u2 ≤ 0) = true := by rw [decide_eq_true_eq]; omega
    have C1' := Lib.hid C1
    have C2' := Lib.hid C2
    clear C1 C2 s1 s2 o m1 m2 nm c ne na nb pa pb
    have C1 := C1'
    have C2 := C2'
    clear C1' C2'
    go_enter Try.func7, Try.ntmps7
    go_wp2_with fail
    (with_reducible refine (awake_any _).mono ?_)
    rintro e w1 ⟨rfl, hb1⟩
    have H1 := Lib.hid hb1
    clear hb1
    go_wp2_with fail
    (with_reducible refine (M.out _).mono ?_)
    rintro e w2 ⟨rfl, hb2⟩
    have H2 := Lib.hid (H1.out.trans (hb2.mono H1.out.size))
    clear hb2 H1
    go_wp2_with fail
    (with_reducible refine (IA.out _).mono ?_)
    rintro e w' ⟨rfl, rfl⟩
    go_wp2_with fail
    (with_reducible refine (IB.out _).mono ?_)
    rintro e w' ⟨rfl, rfl⟩
    go_wp2_with fail
    (with_reducible refine (IM.out _).mono ?_)
    rintro e w' ⟨rfl, rfl⟩
    go_wp2_with fail
    (with_reducible refine (CAB.out _).mono ?_)
    rintro e w' ⟨rfl, rfl⟩
    go_wp2_with fail
    (with_reducible refine (C1.out _).mono ?_)
    rintro e w' ⟨rfl, rfl⟩
    go_wp2_with fail
    (with_reducible refine (C2.out _).mono ?_)
    rintro e w' ⟨rfl, rfl⟩
    go_wp2_with fail
    go_ret
    exact ⟨by simp, H2.out⟩
  · have CAB := cmp_any a b
    have s0 := side_le (show key a ≤ key b by omega)
    generalize Fl.side (key a) (key b) = s at *
    have CAB' := Lib.hid CAB
    clear CAB
    have CAB := CAB'
    clear CAB'
    have t0 : decide ((0 : Int) < s) = false := by rw [decide_eq_false_iff_not]; omega
    have o := m1 (by omega)
    have C1 := cmp_any a (mean a b)
    have C2 := cmp_any (mean a b) b
    have s1 := side_le o.1
    have s2 := side_le o.2
    generalize Fl.side (key a) (key (mean a b)) = u1 at *
    generalize Fl.side (key (mean a b)) (key b) = u2 at *
    generalize mean a b = m at *
    have t1 : decide (u1 ≤ 0) = true := by rw [decide_eq_true_eq]; omega
    have t2 : decide (u2 ≤ 0) = true := by rw [decide_eq_true_eq]; omega
    have C1' := Lib.hid C1
    have C2' := Lib.hid C2
    clear C1 C2 s1 s2 o m1 m2 nm c ne na nb pa pb
    have C1 := C1'
    have C2 := C2'
    clear C1' C2'
    go_enter Try.func7, Try.ntmps7
    go_wp2_with fail
    (with_reducible refine (awake_any _).mono ?_)
    rintro e w1 ⟨rfl, hb1⟩
    have H1 := Lib.hid hb1
    clear hb1
    go_wp2_with fail
    (with_reducible refine (M.out _).mono ?_)
    rintro e w2 ⟨rfl, hb2⟩
    have H2 := Lib.hid (H1.out.trans (hb2.mono H1.out.size))
    clear hb2 H1
    go_wp2_with fail
    (with_reducible refine (IA.out _).mono ?_)
    rintro e w' ⟨rfl, rfl⟩
    go_wp2_with fail
    (with_reducible refine (IB.out _).mono ?_)
    rintro e w' ⟨rfl, rfl⟩
    go_wp2_with fail
    (with_reducible refine (IM.out _).mono ?_)
    rintro e w' ⟨rfl, rfl⟩
    go_wp2_with fail
    (with_reducible refine (CAB.out _).mono ?_)
    rintro e w' ⟨rfl, rfl⟩
    go_wp2_with fail
    (with_reducible refine (C1.out _).mono ?_)
    rintro e w' ⟨rfl, rfl⟩
    go_wp2_with fail
    (with_reducible refine (C2.out _).mono ?_)
    rintro e w' ⟨rfl, rfl⟩
    go_wp2_with fail
    go_ret
    exact ⟨by simp, H2.out⟩

set_option maxHeartbeats 1000000 in
theorem mid_nb_zn (a b : Nat) (ha : a < 18446744073709551616) (hb : b < 18446744073709551616) (ra : rung a = 0) (rb : 9007199254740992 ≤ rung b) (na : nan a = false) (nb : nan b = true) (w : World) :
    Calls Try.prog 7 #[.int .u64 a, .int .u64 b] w fun e w' => e = .returned (.bool true) ∧ Below w.heap.size w w' := by
  have O := or_sign
  have za := wrap_zero ra
  have pa : plainly a := Or.inl ra
  have zb := wrap_more (a := b) (by omega)
  have yb := wrap_bool (a := b) (by omega)
  have xb := expo_high rb
  have pb : plainly b := Or.inr rb
  have IA := isNaN_ref a ha
  rw [na] at IA
  have IA := Lib.hid IA
  have IB := isNaN_ref b hb
  rw [nb] at IB
  have IB := Lib.hid IB
  have M := mean_any a b
  have t := is_inf (show ((mean a b : Nat) : Int) = 9221120237041090561 by rw [middle_none ha (Or.inr (Or.inl nb))]; rfl)
  generalize mean a b = m at *
  have M' := Lib.hid M
  clear M
  have M := M'
  clear M' pa pb ra rb na nb
  go_enter Try.func7, Try.ntmps7
  go_wp2_with fail
  (with_reducible refine (awake_any _).mono ?_)
  rintro e w1 ⟨rfl, hb1⟩
  have H1 := Lib.hid hb1
  clear hb1
  go_wp2_with fail
  (with_reducible refine (M.out _).mono ?_)
  rintro e w2 ⟨rfl, hb2⟩
  have H2 := Lib.hid (H1.out.trans (hb2.mono H1.out.size))
  clear hb2 H1
  go_wp2_with fail
  (with_reducible refine (IA.out _).mono ?_)
  rintro e w' ⟨rfl, rfl⟩
  go_wp2_with fail
  (with_reducible refine (IB.out _).mono ?_)
  rintro e w' ⟨rfl, rfl⟩
  go_wp2_with fail
  go_ret
  exact ⟨by simp, H2.out⟩

set_option maxHeartbeats 1000000 in
theorem mid_zn (a b : Nat) (ha : a < 18446744073709551616) (hb : b < 18446744073709551616) (ra : rung a = 0) (rb : 9007199254740992 ≤ rung b) (na : nan a = false) (nb : nan b = false) (ne : ¬ ends a b) (w : World) :
    Calls Try.prog 7 #[.int .u64 a, .int .u64 b] w fun e w' => e = .returned (.bool true) ∧ Below w.heap.size w w' := by
  have O := or_sign
  have za := wrap_zero ra
  have pa : plainly a := Or.inl ra
  have zb := wrap_more (a := b) (by omega)
  have yb := wrap_bool (a := b) (by omega)
  have xb := expo_high rb
  have pb : plainly b := Or.inr rb
  obtain ⟨T1, T2⟩ := tests_of ne
  have IA := isNaN_ref a ha
  rw [na] at IA
  have IA := Lib.hid IA
  have IB := isNaN_ref b hb
  rw [nb] at IB
  have IB := Lib.hid IB
  have T1 := not_inf (show (a : Int) ≠ 9218868437227405312 by unfold rung at ra; omega)
  clear ra rb
  rcases T2 with T2 | ⟨T2, T4⟩
  all_goals
    skip
    obtain ⟨nm, m1, m2⟩ := middle ha hb pa pb na nb ne
    have IM := isNaN_ref (mean a b) (mean_lt a b)
    rw [nm] at IM
    have IM := Lib.hid IM
    have M := Lib.hid (mean_any a b)
    by_cases c : key b < key a
    · have CAB := Lib.hid (same_lit (cmp_any a b) (side_pos c))
      have o := m2 (by omega)
      have C1 := cmp_any b (mean a b)
      have C2 := cmp_any (mean a b) a
      have s1 := side_le o.1
      have s2 := side_le o.2
      generalize Fl.side (key b) (key (mean a b)) = u1 at *
      generalize Fl.side (key (mean a b)) (key a) = u2 at *
      generalize mean a b = m at *
      have t1 : decide (u1 ≤ 0) = true := by rw [decide_eq_true_eq]; omega
      have t2 : decide (u2 ≤ 0) = true := by rw [decide_eq_true_eq]; omega
      have C1' := Lib.hid C1
      have C2' := Lib.hid C2
      clear C1 C2 s1 s2 o m1 m2 nm c ne na nb pa pb
      have C1 := C1'
      have C2 := C2'
      clear C1' C2'
      go_enter Try.func7, Try.ntmps7
      go_wp2_with fail
      (with_reducible refine (awake_any _).mono ?_)
      rintro e w1 ⟨rfl, hb1⟩
      have H1 := Lib.hid hb1
      clear hb1
      go_wp2_with fail
      (with_reducible refine (M.out _).mono ?_)
      rintro e w2 ⟨rfl, hb2⟩
      have H2 := Lib.hid (H1.out.trans (hb2.mono H1.out.size))
      clear hb2 H1
      go_wp2_with fail
      (with_reducible refine (IA.out _).mono ?_)
      rintro e w' ⟨rfl, rfl⟩
      go_wp2_with fail
      (with_reducible refine (IB.out _).mono ?_)
      rintro e w' ⟨rfl, rfl⟩
      go_wp2_with fail
      (with_reducible refine (IM.out _).mono ?_)
      rintro e w' ⟨rfl, rfl⟩
      go_wp2_with fail
      (with_reducible refine (CAB.out _).mono ?_)
      rintro e w' ⟨rfl, rfl⟩
      go_wp2_with fail
      (with_reducible refine (C1.out _).mono ?_)
      rintro e w' ⟨rfl, rfl⟩
      go_wp2_with fail
      (with_reducible refine (C2.out _).mono ?_)
      rintro e w' ⟨rfl, rfl⟩
      go_wp2_with fail
      go_ret
      exact ⟨by simp, H2.out⟩
    · have CAB := cmp_any a b
      have s0 := side_le (show key a ≤ key b by omega)
      generalize Fl.side (key a) (key b) = s at *
      have CAB' := Lib.hid CAB
      clear CAB
      have CAB := CAB'
      clear CAB'
      have t0 : decide ((0 : Int) < s) = false := by rw [decide_eq_false_iff_not]; omega
      have o := m1 (by omega)
      have C1 := cmp_any a (mean a b)
      have C2 := cmp_any (mean a b) b
      have s1 := side_le o.1
      have s2 := side_le o.2
      generalize Fl.side (key a) (key (mean a b)) = u1 at *
      generalize Fl.side (key (mean a b)) (key b) = u2 at *
      generalize mean a b = m at *
      have t1 : decide (u1 ≤ 0) = true := by rw [decide_eq_true_eq]; omega
      have t2 : decide (u2 ≤ 0) = true := by rw [decide_eq_true_eq]; omega
      have C1' := Lib.hid C1
      have C2' := Lib.hid C2
      clear C1 C2 s1 s2 o m1 m2 nm c ne na nb pa pb
      have C1 := C1'
      have C2 := C2'
      clear C1' C2'
      go_enter Try.func7, Try.ntmps7
      go_wp2_with fail
      (with_reducible refine (awake_any _).mono ?_)
      rintro e w1 ⟨rfl, hb1⟩
      have H1 := Lib.hid hb1
      clear hb1
      go_wp2_with fail
      (with_reducible refine (M.out _).mono ?_)
      rintro e w2 ⟨rfl, hb2⟩
      have H2 := Lib.hid (H1.out.trans (hb2.mono H1.out.size))
      clear hb2 H1
      go_wp2_with fail
      (with_reducible refine (IA.out _).mono ?_)
      rintro e w' ⟨rfl, rfl⟩
      go_wp2_with fail
      (with_reducible refine (IB.out _).mono ?_)
      rintro e w' ⟨rfl, rfl⟩
      go_wp2_with fail
      (with_reducible refine (IM.out _).mono ?_)
      rintro e w' ⟨rfl, rfl⟩
      go_wp2_with fail
      (with_reducible refine (CAB.out _).mono ?_)
      rintro e w' ⟨rfl, rfl⟩
      go_wp2_with fail
      (with_reducible refine (C1.out _).mono ?_)
      rintro e w' ⟨rfl, rfl⟩
      go_wp2_with fail
      (with_reducible refine (C2.out _).mono ?_)
      rintro e w' ⟨rfl, rfl⟩
      go_wp2_with fail
      go_ret
      exact ⟨by simp, H2.out⟩

set_option maxHeartbeats 1000000 in
theorem mid_na_nz (a b : Nat) (ha : a < 18446744073709551616) (hb : b < 18446744073709551616) (ra : 9007199254740992 ≤ rung a) (rb : rung b = 0) (na : nan a = true) (w : World) :
    Calls Try.prog 7 #[.int .u64 a, .int .u64 b] w fun e w' => e = .returned (.bool true) ∧ Below w.heap.size w w' := by
  have O := or_sign
  have za := wrap_more (a := a) (by omega)
  have ya := wrap_bool (a := a) (by omega)
  have xa := expo_high ra
  have pa : plainly a := Or.inr ra
  have zb := wrap_zero rb
  have pb : plainly b := Or.inl rb
  have IA := isNaN_ref a ha
  rw [na] at IA
  have IA := Lib.hid IA
  have M := mean_any a b
  have t := is_inf (show ((mean a b : Nat) : Int) = 9221120237041090561 by rw [middle_none ha (Or.inl na)]; rfl)
  generalize mean a b = m at *
  have M' := Lib.hid M
  clear M
  have M := M'
  clear M' pa pb ra rb na
  go_enter Try.func7, Try.ntmps7
  go_wp2_with fail
  (with_reducible refine (awake_any _).mono ?_)
  rintro e w1 ⟨rfl, hb1⟩
  have H1 := Lib.hid hb1
  clear hb1
  go_wp2_with fail
  (with_reducible refine (M.out _).mono ?_)
  rintro e w2 ⟨rfl, hb2⟩
  have H2 := Lib.hid (H1.out.trans (hb2.mono H1.out.size))
  clear hb2 H1
  go_wp2_with fail
  (with_reducible refine (IA.out _).mono ?_)
  rintro e w' ⟨rfl, rfl⟩
  go_wp2_with fail
  go_ret
  exact ⟨by simp, H2.out⟩

set_option maxHeartbeats 1000000 in
theorem mid_nz (a b : Nat) (ha : a < 18446744073709551616) (hb : b < 18446744073709551616) (ra : 9007199254740992 ≤ rung a) (rb : rung b = 0) (na : nan a = false) (nb : nan b = false) (ne : ¬ ends a b) (w : World) :
    Calls Try.prog 7 #[.int .u64 a, .int .u64 b] w fun e w' => e = .returned (.bool true) ∧ Below w.heap.size w w' := by
  have O := or_sign
  have za := wrap_more (a := a) (by omega)
  have ya := wrap_bool (a := a) (by omega)
  have xa := expo_high ra
  have pa : plainly a := Or.inr ra
  have zb := wrap_zero rb
  have pb : plainly b := Or.inl rb
  obtain ⟨T1, T2⟩ := tests_of ne
  have IA := isNaN_ref a ha
  rw [na] at IA
  have IA := Lib.hid IA
  have IB := isNaN_ref b hb
  rw [nb] at IB
  have IB := Lib.hid IB
  have T2 := not_inf (show (b : Int) ≠ 9218868437227405312 by unfold rung at rb; omega)
  clear ra rb
  rcases T1 with T1 | ⟨T1, T3⟩
  all_goals
    skip
    obtain ⟨nm, m1, m2⟩ := middle ha hb pa pb na nb ne
    have IM := isNaN_ref (mean a b) (mean_lt a b)
    rw [nm] at IM
    have IM := Lib.hid IM
    have M := Lib.hid (mean_any a b)
    by_cases c : key b < key a
    · have CAB := Lib.hid (same_lit (cmp_any a b) (side_pos c))
      have o := m2 (by omega)
      have C1 := cmp_any b (mean a b)
      have C2 := cmp_any (mean a b) a
      have s1 := side_le o.1
      have s2 := side_le o.2
      generalize Fl.side (key b) (key (mean a b)) = u1 at *
      generalize Fl.side (key (mean a b)) (key a) = u2 at *
      generalize mean a b = m at *
      have t1 : decide (u1 ≤ 0) = true := by rw [decide_eq_true_eq]; omega
      have t2 : decide (u2 ≤ 0) = true := by rw [decide_eq_true_eq]; omega
      have C1' := Lib.hid C1
      have C2' := Lib.hid C2
      clear C1 C2 s1 s2 o m1 m2 nm c ne na nb pa pb
      have C1 := C1'
      have C2 := C2'
      clear C1' C2'
      go_enter Try.func7, Try.ntmps7
      go_wp2_with fail
      (with_reducible refine (awake_any _).mono ?_)
      rintro e w1 ⟨rfl, hb1⟩
      have H1 := Lib.hid hb1
      clear hb1
      go_wp2_with fail
      (with_reducible refine (M.out _).mono ?_)
      rintro e w2 ⟨rfl, hb2⟩
      have H2 := Lib.hid (H1.out.trans (hb2.mono H1.out.size))
      clear hb2 H1
      go_wp2_with fail
      (with_reducible refine (IA.out _).mono ?_)
      rintro e w' ⟨rfl, rfl⟩
      go_wp2_with fail
      (with_reducible refine (IB.out _).mono ?_)
      rintro e w' ⟨rfl, rfl⟩
      go_wp2_with fail
      (with_reducible refine (IM.out _).mono ?_)
      rintro e w' ⟨rfl, rfl⟩
      go_wp2_with fail
      (with_reducible refine (CAB.out _).mono ?_)
      rintro e w' ⟨rfl, rfl⟩
      go_wp2_with fail
      (with_reducible refine (C1.out _).mono ?_)
      rintro e w' ⟨rfl, rfl⟩
      go_wp2_with fail
      (with_reducible refine (C2.out _).mono ?_)
      rintro e w' ⟨rfl, rfl⟩
      go_wp2_with fail
      go_ret
      exact ⟨by simp, H2.out⟩
    · have CAB := cmp_any a b
      have s0 := side_le (show key a ≤ key b by omega)
      generalize Fl.side (key a) (key b) = s at *
      have CAB' := Lib.hid CAB
      clear CAB
      have CAB := CAB'
      clear CAB'
      have t0 : decide ((0 : Int) < s) = false := by rw [decide_eq_false_iff_not]; omega
      have o := m1 (by omega)
      have C1 := cmp_any a (mean a b)
      have C2 := cmp_any (mean a b) b
      have s1 := side_le o.1
      have s2 := side_le o.2
      generalize Fl.side (key a) (key (mean a b)) = u1 at *
      generalize Fl.side (key (mean a b)) (key b) = u2 at *
      generalize mean a b = m at *
      have t1 : decide (u1 ≤ 0) = true := by rw [decide_eq_true_eq]; omega
      have t2 : decide (u2 ≤ 0) = true := by rw [decide_eq_true_eq]; omega
      have C1' := Lib.hid C1
      have C2' := Lib.hid C2
      clear C1 C2 s1 s2 o m1 m2 nm c ne na nb pa pb
      have C1 := C1'
      have C2 := C2'
      clear C1' C2'
      go_enter Try.func7, Try.ntmps7
      go_wp2_with fail
      (with_reducible refine (awake_any _).mono ?_)
      rintro e w1 ⟨rfl, hb1⟩
      have H1 := Lib.hid hb1
      clear hb1
      go_wp2_with fail
      (with_reducible refine (M.out _).mono ?_)
      rintro e w2 ⟨rfl, hb2⟩
      have H2 := Lib.hid (H1.out.trans (hb2.mono H1.out.size))
      clear hb2 H1
      go_wp2_with fail
      (with_reducible refine (IA.out _).mono ?_)
      rintro e w' ⟨rfl, rfl⟩
      go_wp2_with fail
      (with_reducible refine (IB.out _).mono ?_)
      rintro e w' ⟨rfl, rfl⟩
      go_wp2_with fail
      (with_reducible refine (IM.out _).mono ?_)
      rintro e w' ⟨rfl, rfl⟩
      go_wp2_with fail
      (with_reducible refine (CAB.out _).mono ?_)
      rintro e w' ⟨rfl, rfl⟩
      go_wp2_with fail
      (with_reducible refine (C1.out _).mono ?_)
      rintro e w' ⟨rfl, rfl⟩
      go_wp2_with fail
      (with_reducible refine (C2.out _).mono ?_)
      rintro e w' ⟨rfl, rfl⟩
      go_wp2_with fail
      go_ret
      exact ⟨by simp, H2.out⟩

set_option maxHeartbeats 1000000 in
theorem mid_na_nn (a b : Nat) (ha : a < 18446744073709551616) (hb : b < 18446744073709551616) (ra : 9007199254740992 ≤ rung a) (rb : 9007199254740992 ≤ rung b) (na : nan a = true) (w : World) :
    Calls Try.prog 7 #[.int .u64 a, .int .u64 b] w fun e w' => e = .returned (.bool true) ∧ Below w.heap.size w w' := by
  have O := or_sign
  have za := wrap_more (a := a) (by omega)
  have ya := wrap_bool (a := a) (by omega)
  have xa := expo_high ra
  have pa : plainly a := Or.inr ra
  have zb := wrap_more (a := b) (by omega)
  have yb := wrap_bool (a := b) (by omega)
  have xb := expo_high rb
  have pb : plainly b := Or.inr rb
  have IA := isNaN_ref a ha
  rw [na] at IA
  have IA := Lib.hid IA
  have M := mean_any a b
  have t := is_inf (show ((mean a b : Nat) : Int) = 9221120237041090561 by rw [middle_none ha (Or.inl na)]; rfl)
  generalize mean a b = m at *
  have M' := Lib.hid M
  clear M
  have M := M'
  clear M' pa pb ra rb na
  go_enter Try.func7, Try.ntmps7
  go_wp2_with fail
  (with_reducible refine (awake_any _).mono ?_)
  rintro e w1 ⟨rfl, hb1⟩
  have H1 := Lib.hid hb1
  clear hb1
  go_wp2_with fail
  (with_reducible refine (M.out _).mono ?_)
  rintro e w2 ⟨rfl, hb2⟩
  have H2 := Lib.hid (H1.out.trans (hb2.mono H1.out.size))
  clear hb2 H1
  go_wp2_with fail
  (with_reducible refine (IA.out _).mono ?_)
  rintro e w' ⟨rfl, rfl⟩
  go_wp2_with fail
  go_ret
  exact ⟨by simp, H2.out⟩

set_option maxHeartbeats 1000000 in
theorem mid_nb_nn (a b : Nat) (ha : a < 18446744073709551616) (hb : b < 18446744073709551616) (ra : 9007199254740992 ≤ rung a) (rb : 9007199254740992 ≤ rung b) (na : nan a = false) (nb : nan b = true) (w : World) :
    Calls Try.prog 7 #[.int .u64 a, .int .u64 b] w fun e w' => e = .returned (.bool true) ∧ Below w.heap.size w w' := by
  have O := or_sign
  have za := wrap_more (a := a) (by omega)
  have ya := wrap_bool (a := a) (by omega)
  have xa := expo_high ra
  have pa : plainly a := Or.inr ra
  have zb := wrap_more (a := b) (by omega)
  have yb := wrap_bool (a := b) (by omega)
  have xb := expo_high rb
  have pb : plainly b := Or.inr rb
  have IA := isNaN_ref a ha
  rw [na] at IA
  have IA := Lib.hid IA
  have IB := isNaN_ref b hb
  rw [nb] at IB
  have IB := Lib.hid IB
  have M := mean_any a b
  have t := is_inf (show ((mean a b : Nat) : Int) = 9221120237041090561 by rw [middle_none ha (Or.inr (Or.inl nb))]; rfl)
  generalize mean a b = m at *
  have M' := Lib.hid M
  clear M
  have M := M'
  clear M' pa pb ra rb na nb
  go_enter Try.func7, Try.ntmps7
  go_wp2_with fail
  (with_reducible refine (awake_any _).mono ?_)
  rintro e w1 ⟨rfl, hb1⟩
  have H1 := Lib.hid hb1
  clear hb1
  go_wp2_with fail
  (with_reducible refine (M.out _).mono ?_)
  rintro e w2 ⟨rfl, hb2⟩
  have H2 := Lib.hid (H1.out.trans (hb2.mono H1.out.size))
  clear hb2 H1
  go_wp2_with fail
  (with_reducible refine (IA.out _).mono ?_)
  rintro e w' ⟨rfl, rfl⟩
  go_wp2_with fail
  (with_reducible refine (IB.out _).mono ?_)
  rintro e w' ⟨rfl, rfl⟩
  go_wp2_with fail
  go_ret
  exact ⟨by simp, H2.out⟩

set_option maxHeartbeats 1000000 in
theorem mid_ends (a b : Nat) (ha : a < 18446744073709551616) (hb : b < 18446744073709551616) (ra : 9007199254740992 ≤ rung a) (rb : 9007199254740992 ≤ rung b) (na : nan a = false) (nb : nan b = false) (en : ends a b) (w : World) :
    Calls Try.prog 7 #[.int .u64 a, .int .u64 b] w fun e w' => e = .returned (.bool true) ∧ Below w.heap.size w w' := by
  have O := or_sign
  have za := wrap_more (a := a) (by omega)
  have ya := wrap_bool (a := a) (by omega)
  have xa := expo_high ra
  have pa : plainly a := Or.inr ra
  have zb := wrap_more (a := b) (by omega)
  have yb := wrap_bool (a := b) (by omega)
  have xb := expo_high rb
  have pb : plainly b := Or.inr rb
  have IA := isNaN_ref a ha
  rw [na] at IA
  have IA := Lib.hid IA
  have IB := isNaN_ref b hb
  rw [nb] at IB
  have IB := Lib.hid IB
  have M := mean_any a b
  have t := is_inf (show ((mean a b : Nat) : Int) = 9221120237041090561 by rw [middle_none ha (Or.inr (Or.inr en))]; rfl)
  generalize mean a b = m at *
  have M' := Lib.hid M
  clear M
  have M := M'
  clear M' pa pb
  rcases ends_of ha hb en with ⟨e1, e2⟩ | ⟨e1, e2⟩
  · have t1 := is_inf (show (a : Int) = 9218868437227405312 by omega)
    have t2 := is_inf (show (b : Int) = 18442240474082181120 by omega)
    clear ra rb na nb en e1 e2
    go_enter Try.func7, Try.ntmps7
    go_wp2_with fail
    (with_reducible refine (awake_any _).mono ?_)
    rintro e w1 ⟨rfl, hb1⟩
    have H1 := Lib.hid hb1
    clear hb1
    go_wp2_with fail
    (with_reducible refine (M.out _).mono ?_)
    rintro e w2 ⟨rfl, hb2⟩
    have H2 := Lib.hid (H1.out.trans (hb2.mono H1.out.size))
    clear hb2 H1
    go_wp2_with fail
    (with_reducible refine (IA.out _).mono ?_)
    rintro e w' ⟨rfl, rfl⟩
    go_wp2_with fail
    (with_reducible refine (IB.out _).mono ?_)
    rintro e w' ⟨rfl, rfl⟩
    go_wp2_with fail
    go_ret
    exact ⟨by simp, H2.out⟩
  · have t0 := not_inf (show (a : Int) ≠ 9218868437227405312 by omega)
    have t1 := is_inf (show (b : Int) = 9218868437227405312 by omega)
    have t2 := is_inf (show (a : Int) = 18442240474082181120 by omega)
    clear ra rb na nb en e1 e2
    go_enter Try.func7, Try.ntmps7
    go_wp2_with fail
    (with_reducible refine (awake_any _).mono ?_)
    rintro e w1 ⟨rfl, hb1⟩
    have H1 := Lib.hid hb1
    clear hb1
    go_wp2_with fail
    (with_reducible refine (M.out _).mono ?_)
    rintro e w2 ⟨rfl, hb2⟩
    have H2 := Lib.hid (H1.out.trans (hb2.mono H1.out.size))
    clear hb2 H1
    go_wp2_with fail
    (with_reducible refine (IA.out _).mono ?_)
    rintro e w' ⟨rfl, rfl⟩
    go_wp2_with fail
    (with_reducible refine (IB.out _).mono ?_)
    rintro e w' ⟨rfl, rfl⟩
    go_wp2_with fail
    go_ret
    exact ⟨by simp, H2.out⟩

set_option maxHeartbeats 1000000 in
theorem mid_nn (a b : Nat) (ha : a < 18446744073709551616) (hb : b < 18446744073709551616) (ra : 9007199254740992 ≤ rung a) (rb : 9007199254740992 ≤ rung b) (na : nan a = false) (nb : nan b = false) (ne : ¬ ends a b) (w : World) :
    Calls Try.prog 7 #[.int .u64 a, .int .u64 b] w fun e w' => e = .returned (.bool true) ∧ Below w.heap.size w w' := by
  have O := or_sign
  have za := wrap_more (a := a) (by omega)
  have ya := wrap_bool (a := a) (by omega)
  have xa := expo_high ra
  have pa : plainly a := Or.inr ra
  have zb := wrap_more (a := b) (by omega)
  have yb := wrap_bool (a := b) (by omega)
  have xb := expo_high rb
  have pb : plainly b := Or.inr rb
  obtain ⟨T1, T2⟩ := tests_of ne
  have IA := isNaN_ref a ha
  rw [na] at IA
  have IA := Lib.hid IA
  have IB := isNaN_ref b hb
  rw [nb] at IB
  have IB := Lib.hid IB
  clear ra rb
  rcases T1 with T1 | ⟨T1, T3⟩ <;> rcases T2 with T2 | ⟨T2, T4⟩
  all_goals
    skip
    obtain ⟨nm, m1, m2⟩ := middle ha hb pa pb na nb ne
    have IM := isNaN_ref (mean a b) (mean_lt a b)
    rw [nm] at IM
    have IM := Lib.hid IM
    have M := Lib.hid (mean_any a b)
    by_cases c : key b < key a
    · have CAB := Lib.hid (same_lit (cmp_any a b) (side_pos c))
      have o := m2 (by omega)
      have C1 := cmp_any b (mean a b)
      have C2 := cmp_any (mean a b) a
      have s1 := side_le o.1
      have s2 := side_le o.2
      generalize Fl.side (key b) (key (mean a b)) = u1 at *
      generalize Fl.side (key (mean a b)) (key a) = u2 at *
      generalize mean a b = m at *
      have t1 : decide (u1 ≤ 0) = true := by rw [decide_eq_true_eq]; omega
      have t2 : decide (u2 ≤ 0) = true := by rw [decide_eq_true_eq]; omega
      have C1' := Lib.hid C1
      have C2' := Lib.hid C2
      clear C1 C2 s1 s2 o m1 m2 nm c ne na nb pa pb
      have C1 := C1'
      have C2 := C2'
      clear C1' C2'
      go_enter Try.func7, Try.ntmps7
      go_wp2_with fail
      (with_reducible refine (awake_any _).mono ?_)
      rintro e w1 ⟨rfl, hb1⟩
      have H1 := Lib.hid hb1
      clear hb1
      go_wp2_with fail
      (with_reducible refine (M.out _).mono ?_)
      rintro e w2 ⟨rfl, hb2⟩
      have H2 := Lib.hid (H1.out.trans (hb2.mono H1.out.size))
      clear hb2 H1
      go_wp2_with fail
      (with_reducible refine (IA.out _).mono ?_)
      rintro e w' ⟨rfl, rfl⟩
      go_wp2_with fail
      (with_reducible refine (IB.out _).mono ?_)
      rintro e w' ⟨rfl, rfl⟩
      go_wp2_with fail
      (with_reducible refine (IM.out _).mono ?_)
      rintro e w' ⟨rfl, rfl⟩
      go_wp2_with fail
      (with_reducible refine (CAB.out _).mono ?_)
      rintro e w' ⟨rfl, rfl⟩
      go_wp2_with fail
      (with_reducible refine (C1.out _).mono ?_)
      rintro e w' ⟨rfl, rfl⟩
      go_wp2_with fail
      (with_reducible refine (C2.out _).mono ?_)
      rintro e w' ⟨rfl, rfl⟩
      go_wp2_with fail
      go_ret
      exact ⟨by simp, H2.out⟩
    · have CAB := cmp_any a b
      have s0 := side_le (show key a ≤ key b by omega)
      generalize Fl.side (key a) (key b) = s at *
      have CAB' := Lib.hid CAB
      clear CAB
      have CAB := CAB'
      clear CAB'
      have t0 : decide ((0 : Int) < s) = false := by rw [decide_eq_false_iff_not]; omega
      have o := m1 (by omega)
      have C1 := cmp_any a (mean a b)
      have C2 := cmp_any (mean a b) b
      have s1 := side_le o.1
      have s2 := side_le o.2
      generalize Fl.side (key a) (key (mean a b)) = u1 at *
      generalize Fl.side (key (mean a b)) (key b) = u2 at *
      generalize mean a b = m at *
      have t1 : decide (u1 ≤ 0) = true := by rw [decide_eq_true_eq]; omega
      have t2 : decide (u2 ≤ 0) = true := by rw [decide_eq_true_eq]; omega
      have C1' := Lib.hid C1
      have C2' := Lib.hid C2
      clear C1 C2 s1 s2 o m1 m2 nm c ne na nb pa pb
      have C1 := C1'
      have C2 := C2'
      clear C1' C2'
      go_enter Try.func7, Try.ntmps7
      go_wp2_with fail
      (with_reducible refine (awake_any _).mono ?_)
      rintro e w1 ⟨rfl, hb1⟩
      have H1 := Lib.hid hb1
      clear hb1
      go_wp2_with fail
      (with_reducible refine (M.out _).mono ?_)
      rintro e w2 ⟨rfl, hb2⟩
      have H2 := Lib.hid (H1.out.trans (hb2.mono H1.out.size))
      clear hb2 H1
      go_wp2_with fail
      (with_reducible refine (IA.out _).mono ?_)
      rintro e w' ⟨rfl, rfl⟩
      go_wp2_with fail
      (with_reducible refine (IB.out _).mono ?_)
      rintro e w' ⟨rfl, rfl⟩
      go_wp2_with fail
      (with_reducible refine (IM.out _).mono ?_)
      rintro e w' ⟨rfl, rfl⟩
      go_wp2_with fail
      (with_reducible refine (CAB.out _).mono ?_)
      rintro e w' ⟨rfl, rfl⟩
      go_wp2_with fail
      (with_reducible refine (C1.out _).mono ?_)
      rintro e w' ⟨rfl, rfl⟩
      go_wp2_with fail
      (with_reducible refine (C2.out _).mono ?_)
      rintro e w' ⟨rfl, rfl⟩
      go_wp2_with fail
      go_ret
      exact ⟨by simp, H2.out⟩

theorem plain (a b : Nat) (ha : a < 18446744073709551616) (hb : b < 18446744073709551616) (w : World) :
    Calls Try.prog 7 #[.int .u64 a, .int .u64 b] w fun e w' => e = .returned (.bool true) ∧ Below w.heap.size w w' := by
  have n0 : ∀ {x : Nat}, rung x = 0 → nan x = false := fun h => by unfold nan; rw [h]; decide
  have e0 : ∀ {x y : Nat}, rung x = 0 ∨ rung y = 0 → ¬ ends x y := fun h k => by obtain ⟨k1, k2, _⟩ := k; omega
  by_cases za : rung a = 0
  · by_cases zb : rung b = 0
    · exact mid_zz a b ha hb za zb (n0 za) (n0 zb) (e0 (Or.inl za)) w
    · by_cases tb : rung b < 9007199254740992
      · exact tiny_bz a b ha hb za zb tb w
      · by_cases nb : nan b = true
        · exact mid_nb_zn a b ha hb za (by omega) (n0 za) nb w
        · exact mid_zn a b ha hb za (by omega) (n0 za) (by simpa using nb) (e0 (Or.inl za)) w
  · by_cases ta : rung a < 9007199254740992
    · exact tiny_a a b ha hb za ta w
    · by_cases zb : rung b = 0
      · by_cases na : nan a = true
        · exact mid_na_nz a b ha hb (by omega) zb na w
        · exact mid_nz a b ha hb (by omega) zb (by simpa using na) (n0 zb) (e0 (Or.inr zb)) w
      · by_cases tb : rung b < 9007199254740992
        · exact tiny_bn a b ha hb (by omega) zb tb w
        · by_cases na : nan a = true
          · exact mid_na_nn a b ha hb (by omega) (by omega) na w
          · by_cases nb : nan b = true
            · exact mid_nb_nn a b ha hb (by omega) (by omega) (by simpa using na) nb w
            · by_cases en : ends a b
              · exact mid_ends a b ha hb (by omega) (by omega) (by simpa using na) (by simpa using nb) en w
              · exact mid_nn a b ha hb (by omega) (by omega) (by simpa using na) (by simpa using nb) en w


theorem walk (a0 : Int) (a1 : Int) (w0 : (Lit.int .u64 a0).wf = true) (w1 : (Lit.int .u64 a1).wf = true) (w : World) :
    Calls Try.prog 7 #[.int .u64 a0, .int .u64 a1] w fun e w' => e = .returned (.bool true) ∧ Below w.heap.size w w' := by
  obtain ⟨l0, u0⟩ := bounds_u64 w0
  obtain ⟨a, rfl⟩ := Int.eq_ofNat_of_zero_le l0
  obtain ⟨l1, u1⟩ := bounds_u64 w1
  obtain ⟨b, rfl⟩ := Int.eq_ofNat_of_zero_le l1
  exact plain a b (by omega) (by omega) w

set_option maxRecDepth 100000 in
theorem lifted (os : Os) (started : os.Started) (H : Type) (enc : TypeId × Value → H) :
    ReturnsInHanded {} Try.checked os 7 .any (Rows.gaugeMiddleSpec.pre6 enc Try.prog Try.f7 Rows.gaugeMiddleRow.domain false) (Rows.gaugeMiddleSpec.post enc Try.prog Try.f7 false true false false) := by
  refine returnsInHanded_of_change (C := Try.checked) own started (by kernel_rfl) Try.func7
    (ChangeSpec.witness6 (enc := enc) (C := Try.checked) false ⟨#[], #[.int .u64 0, .int .u64 0], []⟩ 8 (by kernel_rfl) (by kernel_rfl) (by kernel_rfl) (by kernel_rfl)) ?_
  intro W base args ds gs before hval0 hW hcnd _
  have hval : ∀ (j : Nat) t v, Try.f7.params[j]? = some t → args[j]? = some v → Value.okWide Try.prog W .any base t v := hval0
  have hW' := hW
  obtain ⟨p, q, hA0, hV, rfl, hfz, hnd⟩ := hW
  have hA : DataW.TrodAll enc Try.prog W 0 (fun _ => true) true Try.f7.params.toList args.toList ds p := hA0
  rw [Try.params7] at hA hval
  obtain ⟨v0, vs0, d0, ds0, p0, q0, hargs, rfl, rfl, h0, r0⟩ := trodAll_cons hA
  obtain ⟨v1, vs1, d1, ds1, p1, q1, rfl, rfl, rfl, h1, r1⟩ := trodAll_cons r0
  obtain ⟨rfl, rfl, rfl⟩ := trodAll_nil r1
  obtain rfl : args = #[v0, v1] := by cases args; simp_all
  obtain ⟨rfl, rfl⟩ := trodVars_none hV
  obtain ⟨a0, rfl, rfl, rfl, w0⟩ := open_int Try.underlying22 (hval 0 22 v0 rfl rfl) h0
  obtain ⟨a1, rfl, rfl, rfl, w1⟩ := open_int Try.underlying22 (hval 1 22 v1 rfl rfl) h1
  clear hA0 hval0
  simp only [List.append_nil] at hW'
  refine (walk a0 a1 w0 w1 W).mono fun e W' ⟨he, bel⟩ => ?_
  subst he
  exact ⟨_, rfl, _, _, _, [], [], [], hW', trodAll_mk1 (shut_bool Try.underlying4 _), (trodAll_cons_mk (shut_int Try.underlying22 w0) (trodAll_cons_mk (shut_int Try.underlying22 w1) trodAll_mk0)), rfl, bel.frame _, fun h => by cases h⟩

theorem over : Rows.gaugeMiddleRow.holds Try.pinned (OpenSpec.ofChange Rows.gaugeMiddleSpec) :=
  OpenClaim.holds_of_wide 7 Try.f7 rfl rfl rfl rfl rfl rfl rfl ⟨rfl, rfl, rfl, rfl, rfl⟩ rfl rfl rfl rfl rfl (by kernel_rfl) Try.func7 (by kernel_rfl)
    (of_decide_eq_true (by kernel_rfl)) (by unfold Func.isWrapper; first | (rw [if_pos (by decide +kernel)]; kernel_rfl) | (rw [if_neg (by decide +kernel)]; exact ⟨rfl, rfl⟩))
    (fun os started H enc _ => lifted os started H enc)

theorem gaugeMiddle_holds : Rows.GaugeMiddleSaid := over
#print axioms gaugeMiddle_holds
end Go.Proofs.Ythknbmjobllonaa.gaugeMiddle

/- Plain facts of means behind layer 2: the mean of two gauges that aren't tiny lies between them. No run of the model. -/
import Derived.Test.YthknbmjobllonaaGauge
namespace Go.Proofs.Ythknbmjobllonaa.Fl
open Ieee

theorem half_exact {x : Nat} (f : rung x < 9218868437227405312) (nt : rung x = 0 ∨ 9007199254740992 ≤ rung x) :
    ∃ q, double.div x 4611686018427387904 = some (double.word (sgn x) q) ∧ 2 * val q = val (rung x) ∧ q < 9218868437227405312 := by
  obtain ⟨b, r, e, hr, hq, _⟩ := half_finite f
  rcases nt with z | z
  · have h0 : 2 * val 0 = val (rung x) := by rw [z, val_zero]
    have := hq 0 h0 (by decide)
    subst this
    exact ⟨0, e, h0, by decide⟩
  · obtain ⟨q, hx⟩ : ∃ q, rung x = q + 4503599627370496 := ⟨rung x - 4503599627370496, by omega⟩
    have h0 : 2 * val q = val (rung x) := by
      rw [hx]; unfold val
      rw [mant_next (by omega), ex_next (by omega), Nat.pow_succ, Nat.mul_comm (2 ^ ex q) 2, Nat.mul_left_comm]
    have := hq q h0 (by omega)
    subst this
    exact ⟨r, e, h0, by omega⟩

/-- what a word is worth -/
def worth (x : Nat) : Int := sg (sgn x) (val (rung x))

theorem natAbs_sg (t : Int) (z : Bool) (h : t ≠ 0 → z = decide (t < 0)) (c : Nat) : sg z (t.natAbs * c) = t * (c : Int) := by
  by_cases e : t = 0
  · subst e; unfold sg; cases z <;> simp
  · rw [h e]
    unfold sg
    by_cases n : t < 0
    · rw [decide_eq_true n]
      have : t = -(t.natAbs : Int) := by omega
      rw [if_pos rfl]
      conv => rhs; rw [this]
      rw [Int.neg_mul, Int.natCast_mul]
    · rw [decide_eq_false n]
      have : t = (t.natAbs : Int) := by omega
      rw [if_neg (by decide)]
      conv => rhs; rw [this]
      rw [Int.natCast_mul]

theorem add_finite {u v : Nat} (fu : rung u < 9218868437227405312) (fv : rung v < 9218868437227405312) :
    ∃ z m e, double.add u v = some (double.word z (rnd m (least + (e : Nat) - (0 : Nat)))) ∧ sg z (m * 2 ^ e) = worth u + worth v := by
  unfold Format.add worth
  rw [read_finite fu, read_finite fv]
  simp only [Datum.sum, Option.map_some, Format.write, nearest_eq]
  by_cases h : ex (rung u) ≤ ex (rung v)
  · have h1 : min (least + (ex (rung u) : Int)) (least + ex (rung v)) = least + ex (rung u) := by omega
    have h2 : (least + (ex (rung u) : Int) - (least + ex (rung u))).toNat = 0 := by omega
    have h3 : (least + (ex (rung v) : Int) - (least + ex (rung u))).toNat = ex (rung v) - ex (rung u) := by omega
    rw [h1, h2, h3]
    refine ⟨_, _, ex (rung u), by rw [show least + (ex (rung u) : Int) - ((0 : Nat) : Int) = least + (ex (rung u) : Int) by omega], ?_⟩
    rw [natAbs_sg _ _ (fun k => by rw [if_neg k]), Int.add_mul, signed_eq, signed_eq, Nat.zero_add, Nat.sub_add_cancel h]; rfl
  · have h' : ex (rung v) ≤ ex (rung u) := by omega
    have h1 : min (least + (ex (rung u) : Int)) (least + ex (rung v)) = least + ex (rung v) := by omega
    have h2 : (least + (ex (rung v) : Int) - (least + ex (rung v))).toNat = 0 := by omega
    have h3 : (least + (ex (rung u) : Int) - (least + ex (rung v))).toNat = ex (rung u) - ex (rung v) := by omega
    rw [h1, h2, h3]
    refine ⟨_, _, ex (rung v), by rw [show least + (ex (rung v) : Int) - ((0 : Nat) : Int) = least + (ex (rung v) : Int) by omega], ?_⟩
    rw [natAbs_sg _ _ (fun k => by rw [if_neg k]), Int.add_mul, signed_eq, signed_eq, Nat.zero_add, Nat.sub_add_cancel h']; rfl

theorem sg_up {z t : Bool} {m e r : Nat} (hi : r ≤ 9218868437227405312) (h : sg z (m * 2 ^ e) ≤ sg t (val r)) : sg z (rnd m (least + (e : Nat) - (0 : Nat))) ≤ sg t r := by
  have a : m * 2 ^ e ≤ val r → rnd m (least + (e : Nat) - (0 : Nat)) ≤ r := fun k => rnd_le (b := 0) (by rw [Nat.pow_zero, Nat.mul_one]; exact k)
  have b : val r ≤ m * 2 ^ e → r ≤ rnd m (least + (e : Nat) - (0 : Nat)) := fun k => le_rnd (b := 0) hi (by rw [Nat.pow_zero, Nat.mul_one]; exact k)
  have c : m * 2 ^ e ≤ 0 → rnd m (least + (e : Nat) - (0 : Nat)) ≤ 0 := fun k => rnd_le (b := 0) (by rw [Nat.pow_zero, Nat.mul_one, val_zero]; exact k)
  have d : val r ≤ 0 → r = 0 := by
    intro k
    apply Nat.eq_zero_of_not_pos
    intro l
    have := val_lt l
    rw [val_zero] at this
    omega
  unfold sg at *
  generalize m * 2 ^ e = q at *
  generalize rnd m (least + (e : Nat) - (0 : Nat)) = p at *
  cases z <;> cases t <;> simp at * <;> omega

theorem sg_down {z t : Bool} {m e r : Nat} (hi : r ≤ 9218868437227405312) (h : sg t (val r) ≤ sg z (m * 2 ^ e)) : sg t r ≤ sg z (rnd m (least + (e : Nat) - (0 : Nat))) := by
  have neg : ∀ b n, sg (!b) n = - sg b n := by intro b n; unfold sg; cases b <;> simp
  have := sg_up (z := !z) (t := !t) (m := m) (e := e) hi (by rw [neg, neg]; omega)
  rw [neg, neg] at this
  omega

theorem key_sg {x : Nat} (h : nan x = false) : key x = sg (sgn x) (rung x) := by unfold key sg; rw [h]; rfl

theorem worth_le {x y : Nat} (hx : nan x = false) (hy : nan y = false) (h : key x ≤ key y) : worth x ≤ worth y := by
  rw [key_sg hx, key_sg hy] at h
  unfold worth
  apply Int.not_lt.1
  intro k
  have := sg_lt.1 k
  omega

/-- neither tiny -/
def plainly (x : Nat) : Prop := rung x = 0 ∨ 9007199254740992 ≤ rung x

/-- the mean of two finite ones that aren't tiny -/
theorem mean_finite {a b : Nat} (fa : rung a < 9218868437227405312) (fb : rung b < 9218868437227405312) (ta : plainly a) (tb : plainly b) :
    nan (mean a b) = false ∧ (key a ≤ key b → key a ≤ key (mean a b) ∧ key (mean a b) ≤ key b) := by
  obtain ⟨p, ep, vp, ip⟩ := half_exact fa ta
  obtain ⟨q, eq, vq, iq⟩ := half_exact fb tb
  have na : nan a = false := by unfold nan; rw [decide_eq_false_iff_not]; omega
  have nb : nan b = false := by unfold nan; rw [decide_eq_false_iff_not]; omega
  obtain ⟨z, m, e, es, v⟩ := add_finite (u := double.word (sgn a) p) (v := double.word (sgn b) q) (by rw [rung_word (by omega)]; exact ip) (by rw [rung_word (by omega)]; exact iq)
  have hm : mean a b = double.word z (rnd m (least + (e : Nat) - (0 : Nat))) := by
    unfold mean
    rw [ep, eq]
    dsimp only
    rw [es]
    dsimp only
    rw [canon_num (nan_word (rnd_inf _ _))]
  rw [hm, key_word (rnd_inf _ _)]
  refine ⟨nan_word (rnd_inf _ _), fun h => ?_⟩
  have hw := worth_le na nb h
  have w1 : 2 * worth (double.word (sgn a) p) = worth a := by
    unfold worth
    rw [rung_word (by omega), sgn_word (by omega), ← vp]
    unfold sg; split <;> omega
  have w2 : 2 * worth (double.word (sgn b) q) = worth b := by
    unfold worth
    rw [rung_word (by omega), sgn_word (by omega), ← vq]
    unfold sg; split <;> omega
  rw [key_sg na, key_sg nb]
  constructor
  · refine sg_down (by omega) ?_
    rw [v]; show worth a ≤ _; omega
  · refine sg_up (by omega) ?_
    rw [v]; show _ ≤ worth b; omega

theorem add_inf_left {x y : Nat} (h : rung x = 9218868437227405312) (f : rung y < 9218868437227405312) : double.add x y = some (double.word (sgn x) 9218868437227405312) := by
  unfold Format.add
  rw [read_inf h, read_finite f]
  simp [Datum.sum, Format.write, f_inf]

theorem add_inf_both {x y : Nat} (h : rung x = 9218868437227405312) (k : rung y = 9218868437227405312) : double.add x y = if sgn x = sgn y then some (double.word (sgn x) 9218868437227405312) else none := by
  unfold Format.add
  rw [read_inf h, read_inf k]
  simp only [Datum.sum]
  split <;> simp [Format.write, f_inf]

/-- the mean of one without an end and of a finite one is the former -/
theorem mean_inf_left {a b : Nat} (ha : a < 18446744073709551616) (h : rung a = 9218868437227405312) (f : rung b < 9218868437227405312) : mean a b = a := by
  obtain ⟨_, r, er, hr, _, _⟩ := half_finite f
  unfold mean
  rw [half_inf h, er]
  dsimp only
  rw [add_inf_left (rung_word (by omega)) (by rw [rung_word (by omega)]; omega), sgn_word (by omega)]
  dsimp only
  rw [canon_num (nan_word (by omega)), ← h, word_self ha]

theorem mean_inf_both {a b : Nat} (ha : a < 18446744073709551616) (h : rung a = 9218868437227405312) (k : rung b = 9218868437227405312) : mean a b = if sgn a = sgn b then a else 9221120237041090561 := by
  unfold mean
  rw [half_inf h, half_inf k]
  dsimp only
  rw [add_inf_both (rung_word (by omega)) (rung_word (by omega)), sgn_word (by omega), sgn_word (by omega)]
  by_cases e : sgn a = sgn b
  · rw [if_pos e, if_pos e]
    dsimp only
    rw [canon_num (nan_word (by omega)), ← h, word_self ha]
  · rw [if_neg e, if_neg e]

theorem mean_none_left {a b : Nat} (h : nan a = true) : mean a b = 9221120237041090561 := by
  unfold mean; rw [div_nan_left h]
theorem mean_none_right {a b : Nat} (h : nan b = true) : mean a b = 9221120237041090561 := by
  rw [mean_comm, mean_none_left h]

/-- both ends -/
def ends (a b : Nat) : Prop := rung a = 9218868437227405312 ∧ rung b = 9218868437227405312 ∧ sgn a ≠ sgn b

theorem middle_none {a b : Nat} (ha : a < 18446744073709551616) (h : nan a = true ∨ nan b = true ∨ ends a b) : mean a b = 9221120237041090561 := by
  rcases h with h | h | ⟨h1, h2, h3⟩
  · exact mean_none_left h
  · exact mean_none_right h
  · rw [mean_inf_both ha h1 h2, if_neg h3]

theorem middle {a b : Nat} (ha : a < 18446744073709551616) (hb : b < 18446744073709551616) (ta : plainly a) (tb : plainly b) (na : nan a = false) (nb : nan b = false) (ne : ¬ ends a b) :
    nan (mean a b) = false ∧ (key a ≤ key b → key a ≤ key (mean a b) ∧ key (mean a b) ≤ key b) ∧ (key b ≤ key a → key b ≤ key (mean a b) ∧ key (mean a b) ≤ key a) := by
  rcases num_or na with fa | ia
  · rcases num_or nb with fb | ib
    · obtain ⟨n, m1⟩ := mean_finite fa fb ta tb
      have m2 := (mean_finite fb fa tb ta).2
      rw [mean_comm b a] at m2
      exact ⟨n, m1, m2⟩
    · have e : mean a b = b := by rw [mean_comm]; exact mean_inf_left hb ib fa
      rw [e]
      exact ⟨nb, fun h => ⟨h, Int.le_refl _⟩, fun h => ⟨Int.le_refl _, h⟩⟩
  · rcases num_or nb with fb | ib
    · have e : mean a b = a := mean_inf_left ha ia fb
      rw [e]
      exact ⟨na, fun h => ⟨Int.le_refl _, h⟩, fun h => ⟨h, Int.le_refl _⟩⟩
    · have s : sgn a = sgn b := by
        apply Classical.byContradiction
        intro k; exact ne ⟨ia, ib, k⟩
      have e : mean a b = a := by rw [mean_inf_both ha ia ib, if_pos s]
      rw [e]
      exact ⟨na, fun h => ⟨Int.le_refl _, h⟩, fun h => ⟨h, Int.le_refl _⟩⟩
end Go.Proofs.Ythknbmjobllonaa.Fl

/- The document's own shelf: Front, Drop, Hold. -/
import Derived.Test.YtpmhpamajkhhiaaRfOut
namespace Go.Proofs.Ytpmhpamajkhhiaa
open Go.RowKit
set_option linter.unusedVariables false

theorem has_split (n : Nat) (i : Int) : hasN n i = (!decide (i < 0) && !decide ((n : Int) ≤ i)) := by
  unfold hasN
  by_cases a : i < 0
  · have : ¬ (0 ≤ i ∧ i < (n : Int)) := by omega
    simp [a, this]
  · by_cases b : (n : Int) ≤ i
    · have : ¬ (0 ≤ i ∧ i < (n : Int)) := by omega
      simp [a, b, this]
    · have : 0 ≤ i ∧ i < (n : Int) := by omega
      simp [a, b, this]
theorem ints_cons (j : Nat) (l : List Nat) : ints (j :: l) = (j : Int) :: ints l := rfl

theorem hs_get {s : Sh} (f : s.Fine) {j : Nat} (hj : j < s.n) : s.hs[j]? = some (s.h j) := by
  unfold Sh.h
  rw [List.getD_eq_getElem?_getD, List.getElem?_eq_getElem (by rw [f.hlen]; exact hj)]
  rfl
theorem RSh.marked {w : World} {p hb : Nat} {ok : Nat → Prop} {s : Sh} (h : RSh w p hb ok s) {j : Nat} (hj : j < s.n) : w.cell? ⟨hb, j, none⟩ = some (.bool (s.h j)) := by
  have := flat_get bool1 (hs_get h.fine hj) (j := 0) (by decide)
  rw [Nat.mul_one, Nat.add_zero] at this
  rw [h.hrow.cell, this]
  rfl
/-- a mark is set -/
theorem RSh.mark {w : World} {p hb : Nat} {ok : Nat → Prop} {s : Sh} (h : RSh w p hb ok s) {j : Nat} (hj : j < s.n) (b : Bool) : RSh (w.setCell ⟨hb, j, none⟩ (.bool b)) p hb ok (s.hold j b) := by
  obtain ⟨f, ⟨v0, v1, r, o0, o1⟩, hr, ne, l1, l2, l3⟩ := h
  have OP := (Only.refl (fun k => k = hb) w).into rfl j (.bool b)
  have hg := hs_get f hj
  have h1 := hr.put (j * 1 + 0) (.bool b)
  rw [flat_put bool1 (a' := b) hg (by decide) rfl] at h1
  rw [Nat.mul_one, Nat.add_zero] at h1
  exact ⟨f.hold j b, ⟨v0, v1, r.far ne _, o0.keep OP (fun g hg q => l2 (q ▸ hg)), o1.keep OP (fun g hg q => l2 (q ▸ hg))⟩, h1, ne, l1, l2, fun g hg => l3 g (by simpa [World.setCell] using hg)⟩

set_option maxHeartbeats 1000000 in
theorem hold_ref (p hb : Nat) (ok : Nat → Prop) (s : Sh) (i : Int) (v : Bool) (w : World) (h : RSh w p hb ok s) :
    Calls Try.prog 52 #[.pointer (some ⟨p, 0, none⟩), .int .i64 i, .bool v] w fun e w' => e = .returned (.int .i64 (s.liesC i)) ∧ RSh w' p hb ok (s.holdS i v) ∧ Only (fun k => k = p ∨ k = hb) w w' := by
  have L := lies_ref p hb ok s i w h
  by_cases e : s.liesC i = 0
  · have e2 : s.holdS i v = s.hold i.toNat v := by unfold Sh.holdS; rw [if_pos e]
    rw [e2]
    obtain ⟨j, rfl, hj, _⟩ := liesC_nat e
    rw [e] at L ⊢
    rw [Int.toNat_natCast]
    have LC := Lib.hid L
    have M := Lib.hid (h.mark hj v)
    have c1 := h.marked hj
    obtain ⟨f, ⟨v0, v1, r, o0, o1⟩, hr, ne, l1, l2, l3⟩ := h
    have c : w.cell? ⟨p, 4, none⟩ = some (.slice (some ⟨hb, 0, none⟩) s.n s.n) := by rw [r.cell]; rfl
    have z := hr.frozen
    have lth := hr.lt
    have bj : (j : Int) < (s.n : Int) := by omega
    generalize s.h j = b0 at *
    clear f r o0 o1 hr e e2 L
    go_enter Try.func52, Try.ntmps52
    go_wp2_with fail
    (with_reducible refine (LC.out).mono ?_)
    rintro e w' ⟨rfl, rfl⟩
    go_wp2
    go_ret
    exact ⟨rfl, M.out, (Only.refl (fun k => k = p ∨ k = hb) w).into (.inr rfl) _ _⟩
  · have e2 : s.holdS i v = s := by unfold Sh.holdS; rw [if_neg e]
    rw [e2]
    have e3 : s.liesC i = 1 ∨ s.liesC i = 3 := by
      unfold Sh.liesC at e ⊢
      split
      · split
        · exact .inr rfl
        · rename_i h1 h2; rw [if_pos h1, if_neg h2] at e; exact absurd rfl e
      · exact .inl rfl
    have F1 := Lib.hid h
    clear h e2 e
    rcases e3 with e | e <;> rw [e] at L ⊢ <;> clear e
    · go_enter Try.func52, Try.ntmps52
      go_wp2_with fail
      (with_reducible refine (L).mono ?_)
      rintro e w' ⟨rfl, rfl⟩
      go_wp2
      go_ret
      exact ⟨rfl, F1.out, Only.refl _ _⟩
    · go_enter Try.func52, Try.ntmps52
      go_wp2_with fail
      (with_reducible refine (L).mono ?_)
      rintro e w' ⟨rfl, rfl⟩
      go_wp2
      go_ret
      exact ⟨rfl, F1.out, Only.refl _ _⟩

set_option maxHeartbeats 1000000 in
theorem drop_ref (p hb : Nat) (ok : Nat → Prop) (s : Sh) (i : Int) (w : World) (h : RSh w p hb ok s) :
    Calls Try.prog 55 #[.pointer (some ⟨p, 0, none⟩), .int .i64 i] w fun e w' => e = .returned (.int .i64 (s.liesC i)) ∧ RSh w' p hb ok (s.dropS i) ∧ Only (fun k => k = p ∨ k = hb) w w' := by
  have L := lies_ref p hb ok s i w h
  by_cases e : s.liesC i = 0
  · have e2 : s.dropS i = s.drop i.toNat := by unfold Sh.dropS; rw [if_pos e]
    rw [e2]
    obtain ⟨j, rfl, hj, _⟩ := liesC_nat e
    rw [e] at L ⊢
    rw [Int.toNat_natCast]
    have LC := Lib.hid L
    have OU := Lib.hid (out_ref p hb ok s j w h)
    clear h e e2 L
    go_enter Try.func55, Try.ntmps55
    go_wp2_with fail
    (with_reducible refine (LC.out).mono ?_)
    rintro e w' ⟨rfl, rfl⟩
    go_wp2_with fail
    (with_reducible refine (OU.out).mono ?_)
    rintro e w1 ⟨rfl, h1, o1⟩
    have M := Lib.hid (h1.mark hj false)
    have c1 := h1.marked hj
    have O1 := Lib.hid o1
    obtain ⟨f, ⟨v0, v1, r, q0, q1⟩, hr, ne, l1, l2, l3⟩ := h1
    have c : w1.cell? ⟨p, 4, none⟩ = some (.slice (some ⟨hb, 0, none⟩) s.n s.n) := by rw [r.cell]; rfl
    have z := hr.frozen
    have lth := hr.lt
    have bj : (j : Int) < (s.n : Int) := by omega
    generalize (s.out j).h j = b0 at *
    clear f r q0 q1 hr o1
    go_wp2
    go_ret
    exact ⟨rfl, M.out, (O1.out.more (fun _ _ q => .inl q)).into (.inr rfl) _ _⟩
  · have e2 : s.dropS i = s := by unfold Sh.dropS; rw [if_neg e]
    rw [e2]
    have e3 : s.liesC i = 1 ∨ s.liesC i = 3 := by
      unfold Sh.liesC at e ⊢
      split
      · split
        · exact .inr rfl
        · rename_i h1 h2; rw [if_pos h1, if_neg h2] at e; exact absurd rfl e
      · exact .inl rfl
    have F1 := Lib.hid h
    clear h e2 e
    rcases e3 with e | e <;> rw [e] at L ⊢ <;> clear e
    · go_enter Try.func55, Try.ntmps55
      go_wp2_with fail
      (with_reducible refine (L).mono ?_)
      rintro e w' ⟨rfl, rfl⟩
      go_wp2
      go_ret
      exact ⟨rfl, F1.out, Only.refl _ _⟩
    · go_enter Try.func55, Try.ntmps55
      go_wp2_with fail
      (with_reducible refine (L).mono ?_)
      rintro e w' ⟨rfl, rfl⟩
      go_wp2
      go_ret
      exact ⟨rfl, F1.out, Only.refl _ _⟩
end Go.Proofs.Ytpmhpamajkhhiaa

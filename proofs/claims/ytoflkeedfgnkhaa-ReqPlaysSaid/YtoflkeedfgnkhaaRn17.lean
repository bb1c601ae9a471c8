/- The document's own table: a request that isn't opened. -/
import Derived.Test.YtoflkeedfgnkhaaMk17
namespace Go.Proofs.Ytoflkeedfgnkhaa
open Go.RowKit Go.Maps
set_option linter.unusedVariables false
set_option maxRecDepth 100000
section
variable {w w' : World} {q : Nat} {c : Nat → Nat} {X : Loc18} {room L : Nat} {t : Tq}
set_option maxHeartbeats 2000000 in
theorem ropen_old (x k n : Int) (w : World) (h : RW w q c X room L t) (ne : openI room t.rs x k n ≠ 0) :
    Calls Try.prog 26 #[.pointer (some ⟨q, 0, none⟩), .int .i64 x, .int .i64 k, .int .i64 n] w fun e w' => e = .returned (.int .i64 (openI room t.rs x k n)) ∧ Only none_ w w' := by
  have OI := Lib.hid (show openI room t.rs x k n = if mayO x k n then (if hasQ t.rs x then 4 else if room ≤ t.rs.length then 2 else 0) else 1 from rfl)
  by_cases hm : mayO x k n
  · obtain ⟨m1, m2, m3, m4⟩ := id hm
    have t1 : decide (x < 1) = false := decide_eq_false (by omega)
    have t2 : decide (k < 1) = false := decide_eq_false (by omega)
    have t3 : decide (2 < k) = false := decide_eq_false (by omega)
    have t4 : decide (n < 1) = false := decide_eq_false (by omega)
    have t5 : decide (8 < n) = false := decide_eq_false (by omega)
    have AT := Lib.hid (rat_any x w h)
    have AI := Lib.hid (show atI t.rs x = match atQ t.rs x with | some k => (k : Int) | none => -1 from rfl)
    rw [OI.out, if_pos hm] at ne
    rcases at_find h.good.once x with ⟨h1, h2⟩ | ⟨i, r, h1, h2, h3, h4, h5, h6, h7⟩
    · rw [h2] at AI
      rw [find_none h1] at ne
      have hl : room ≤ t.rs.length := Classical.byContradiction fun k => ne (by rw [if_neg (by decide), if_neg k])
      have C2 := Lib.hid (show openI room t.rs x k n = 2 from by rw [OI.out, if_pos hm, find_none h1, if_neg (by decide), if_pos hl])
      have AT := AT.out
      rw [AI.out] at AT
      have AT := Lib.hid (show Calls Try.prog 33 #[.pointer (some ⟨q, 0, none⟩), .int .i64 x] w (fun e w' => e = .returned (.int .i64 (-1)) ∧ w' = w) from AT)
      obtain ⟨A, cap, hX, _⟩ := h.form
      have len : t.rs.length ≤ 16 := Nat.le_trans h.good.len h.good.high
      have t6 : decide (room ≤ t.rs.length) = true := decide_eq_true hl
      have e1 : w.cell? ⟨q, 1, none⟩ = some (.slice A t.rs.length cap) := by rw [h.row.cell, ← hX]; rfl
      have e0 : w.cell? ⟨q, 0, none⟩ = some (.int .i64 room) := h.row.cell 0
      have e2 : w.drew.cell? ⟨q, 1, none⟩ = some (.slice A t.rs.length cap) := e1
      have e3 : w.drew.cell? ⟨q, 0, none⟩ = some (.int .i64 room) := e0
      clear h h1 h2 hX ne OI AI hm m1 m2 m3 m4 hl
      go_enter Try.func26, Try.ntmps26
      go_wp2_with fail
      (with_reducible refine AT.out.mono ?_)
      rintro e w1 ⟨rfl, rfl⟩
      go_upto_region 5 with fail
      go_region
      go_wp2_with fail
      go_ret
      exact ⟨by rw [C2.out]; rfl, (Only.refl _ _).drew⟩
    · rw [h2] at AI
      have C4 := Lib.hid (show openI room t.rs x k n = 4 from by rw [OI.out, if_pos hm, h7, if_pos rfl])
      have AT := AT.out
      rw [AI.out] at AT
      have AT := Lib.hid (show Calls Try.prog 33 #[.pointer (some ⟨q, 0, none⟩), .int .i64 x] w (fun e w' => e = .returned (.int .i64 (i : Int)) ∧ w' = w) from AT)
      clear h h1 h2 h3 h4 h5 h6 h7 ne OI AI hm m1 m2 m3 m4
      go_enter Try.func26, Try.ntmps26
      go_wp2_with fail
      (with_reducible refine AT.out.mono ?_)
      rintro e w1 ⟨rfl, rfl⟩
      go_wp2_with fail
      go_ret
      exact ⟨by rw [C4.out]; rfl, Only.refl _ _⟩
  · have C1 := Lib.hid (show openI room t.rs x k n = 1 from by rw [OI.out, if_neg hm])
    have ways : decide (x < 1) = true ∨ (decide (x < 1) = false ∧ (decide (k < 1) = true ∨ (decide (k < 1) = false ∧ (decide (2 < k) = true ∨ (decide (2 < k) = false ∧ (decide (n < 1) = true ∨ (decide (n < 1) = false ∧ decide (8 < n) = true))))))) := by
      unfold mayO at hm
      simp only [decide_eq_true_eq, decide_eq_false_iff_not]
      omega
    clear h hm ne OI
    rcases ways with a | ⟨a, b | ⟨b, c | ⟨c, d | ⟨d, e⟩⟩⟩⟩
    all_goals
      go_enter Try.func26, Try.ntmps26
      go_wp2_with fail
      go_ret
      exact ⟨by rw [C1.out]; rfl, Only.refl _ _⟩
end
end Go.Proofs.Ytoflkeedfgnkhaa

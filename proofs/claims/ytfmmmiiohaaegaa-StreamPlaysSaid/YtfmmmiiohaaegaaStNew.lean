/- Package stream: New, Streams, Expected, and the table's look. -/
import Derived.Test.YtfmmmiiohaaegaaClos
import Derived.Test.YtfmmmiiohaaegaaDel10
namespace Go.Proofs.Ytfmmmiiohaaegaa
open Go.RowKit Go.Maps
set_option linter.unusedVariables false

theorem start_may_iff (d b : Int) : (Fl.start 0).May d b ↔ 1 ≤ d ∧ d ≤ 16 ∧ 1 ≤ b ∧ b ≤ 256 := by
  constructor
  · rintro ⟨h1, h2, h3, h4, _⟩
    exact ⟨h1, h2, h3, h4⟩
  · rintro ⟨h1, h2, h3, h4⟩
    unfold Fl.start
    constructor <;> (try dsimp only) <;> omega

set_option maxHeartbeats 1000000 in
theorem new10_yes (c : Cf) (w : World) (h : c.Ok) :
    Calls Try.prog 9 #[.int .i64 c.most, .int .i64 c.size, .int .i64 c.life, .int .i64 c.deg, .int .i64 c.blk] w fun e w' => ∃ q, e = .returned (.tuple #[.pointer (some ⟨q, 0, none⟩), .int .i64 0]) ∧ (∃ M : Nat → Prop, ST w' q M c ⟨[], [], 0, 0⟩ ∧ ∀ g, M g → w.heap.size ≤ g) ∧ Only none_ w w' := by
  have h1 := h.m1
  have h2 := h.m16
  have d1 : decide ((c.most : Int) < 1) = false := by simp; omega
  have d2 : decide ((16 : Int) < (c.most : Int)) = false := by simp; omega
  have S := Lib.hid (fun w => start_any 0 w)
  have M := Lib.hid (fun w => may_any (Fl.start 0) c.deg c.blk w)
  have hm := decide_eq_true ((start_may_iff c.deg c.blk).2 ⟨by have := h.d1; omega, by have := h.d16; omega, by have := h.b1; omega, by have := h.b256; omega⟩)
  rw [hm] at M
  have T := Lib.hid (fun w => new8_yes c.size c.life w h.s1 h.s32 h.l1 h.l64)
  clear hm h h1 h2
  go_enter Try.func9, Try.ntmps9
  go_wp2_with fail
  (with_reducible refine (S.out _).mono ?_)
  rintro e w1 ⟨rfl, o1⟩
  go_wp2_with fail
  (with_reducible refine (M.out _).mono ?_)
  rintro e w2 ⟨rfl, o2⟩
  go_wp2_with fail
  (with_reducible refine (T.out _).mono ?_)
  rintro e w3 ⟨p, b, rfl, ht, lp, lb, o3⟩
  have O3 := Lib.hid ((o1.same o2).same o3)
  have HT := Lib.hid ht
  have lp3 := ht.lt.1
  have lb3 := ht.lt.2
  have LPB := Lib.hid (show w.heap.size ≤ p ∧ w.heap.size ≤ b from ⟨by have := (o1.same o2).size; omega, by have := (o1.same o2).size; omega⟩)
  clear o1 o2 o3 ht lp lb S M T
  go_wp2_with fail
  go_ret2
  have oa := (Only.refl none_ w3).alloc (.cells #[.int .i64 c.most, .int .i64 c.deg, .int .i64 c.blk, .pointer (some ⟨p, 0, none⟩), .slice none 0 0, .int .i64 0, .int .i64 0] 70)
  have r1 := Row.fresh w3 70 #[.int .i64 c.most, .int .i64 c.deg, .int .i64 c.blk, .pointer (some ⟨p, 0, none⟩), .slice none 0 0, .int .i64 0, .int .i64 0]
  refine ⟨w3.heap.size, rfl, ⟨fun g => g = w3.heap.size ∨ g = p ∨ g = b, ⟨p, b, 0, _, r1, ⟨Owns.start _ _ _ _ _, fun g hg => by cases hg⟩, HT.out.still oa, Nat.le_refl _, .inl rfl, .inr (.inl rfl), .inr (.inr rfl), fun g hg => ?_⟩, fun g hg => ?_⟩, O3.out.same oa⟩
  · simp only [World.size_alloc]; omega
  · have := LPB.out
    have := O3.out.size
    omega

set_option maxHeartbeats 1000000 in
theorem new10_no (m s l d b : Int) (w : World) (h : mayCf m s l d b = false) :
    Calls Try.prog 9 #[.int .i64 m, .int .i64 s, .int .i64 l, .int .i64 d, .int .i64 b] w fun e w' => e = .returned (.tuple #[.pointer none, .int .i64 1]) ∧ Only none_ w w' := by
  have hn : ¬ (1 ≤ m ∧ m ≤ 16 ∧ (1 ≤ s ∧ s ≤ 32 ∧ 1 ≤ l ∧ l ≤ 64) ∧ 1 ≤ d ∧ d ≤ 16 ∧ 1 ≤ b ∧ b ≤ 256) := of_decide_eq_false h
  clear h
  by_cases h1 : m < 1
  · have d1 : decide (m < 1) = true := by simpa using h1
    clear hn h1
    go_enter Try.func9, Try.ntmps9
    go_wp2_with fail
    go_ret2
    exact ⟨rfl, Only.refl none_ w⟩
  · have d1 : decide (m < 1) = false := by simpa using h1
    by_cases h2 : 16 < m
    · have d2 : decide (16 < m) = true := by simpa using h2
      clear hn h1 h2
      go_enter Try.func9, Try.ntmps9
      go_wp2_with fail
      go_ret2
      exact ⟨rfl, Only.refl none_ w⟩
    · have d2 : decide (16 < m) = false := by simpa using h2
      have S := Lib.hid (fun w => start_any 0 w)
      have M := Lib.hid (fun w => may_any (Fl.start 0) d b w)
      by_cases h3 : 1 ≤ d ∧ d ≤ 16 ∧ 1 ≤ b ∧ b ≤ 256
      · rw [decide_eq_true ((start_may_iff d b).2 h3)] at M
        have T := Lib.hid (fun w => new8_no s l w (fun q => hn ⟨by omega, by omega, q, h3⟩))
        clear hn h1 h2 h3
        go_enter Try.func9, Try.ntmps9
        go_wp2_with fail
        (with_reducible refine (S.out _).mono ?_)
        rintro e w1 ⟨rfl, o1⟩
        go_wp2_with fail
        (with_reducible refine (M.out _).mono ?_)
        rintro e w2 ⟨rfl, o2⟩
        go_wp2_with fail
        (with_reducible refine (T.out _).mono ?_)
        rintro e w3 ⟨rfl, rfl⟩
        have O2 := Lib.hid (o1.same o2)
        clear o1 o2
        go_wp2_with fail
        go_ret2
        exact ⟨rfl, O2.out⟩
      · rw [decide_eq_false (fun q => h3 ((start_may_iff d b).1 q))] at M
        clear hn h1 h2 h3
        go_enter Try.func9, Try.ntmps9
        go_wp2_with fail
        (with_reducible refine (S.out _).mono ?_)
        rintro e w1 ⟨rfl, o1⟩
        go_wp2_with fail
        (with_reducible refine (M.out _).mono ?_)
        rintro e w2 ⟨rfl, o2⟩
        have O2 := Lib.hid (o1.same o2)
        clear o1 o2
        go_wp2_with fail
        go_ret2
        exact ⟨rfl, O2.out⟩

theorem streams_any {q : Nat} {M : Nat → Prop} {c : Cf} {t : Tr} (w : World) (h : ST w q M c t) (hl : t.ss.length ≤ 1000) :
    Calls Try.prog 18 #[.pointer (some ⟨q, 0, none⟩)] w (Told10 t.ss w) := by
  obtain ⟨p, b, L, v, h⟩ := h
  have C := Lib.hid (clone10_any v t.ss w h.own.1 hl)
  have c4 : w.cell? ⟨q, 4, none⟩ = some v := by rw [h.row.cell]; rfl
  obtain ⟨A, n, cap, rfl⟩ := own_form10 h.own.1
  clear h
  go_enter Try.func18, Try.ntmps18
  go_wp2_with fail
  (with_reducible refine C.out.mono ?_)
  rintro e w1 ⟨B, c1, rfl, hh, hA, o⟩
  have HH := Lib.hid hh
  have HA := Lib.hid hA
  have O := Lib.hid o
  clear hh hA o
  go_wp2_with fail
  go_ret
  exact ⟨B, c1, rfl, HH.out, HA.out, O.out⟩

theorem expected_any {q : Nat} {M : Nat → Prop} {c : Cf} {t : Tr} (w : World) (h : ST w q M c t) (hu : t.uses ≤ 1000) :
    Calls Try.prog 20 #[.pointer (some ⟨q, 0, none⟩)] w (Told8 t.es w) := by
  obtain ⟨p, b, L, v, h⟩ := h
  have C := Lib.hid (list_any p b L c.size c.life t.es w h.tab (by have := h.le; omega))
  have c4 : w.cell? ⟨q, 3, none⟩ = some (.pointer (some ⟨p, 0, none⟩)) := by rw [h.row.cell]; rfl
  clear h
  go_enter Try.func20, Try.ntmps20
  go_wp2_with fail
  (with_reducible refine C.out.mono ?_)
  rintro e w1 ⟨B, c1, rfl, hh, hA, o⟩
  have HH := Lib.hid hh
  have HA := Lib.hid hA
  have O := Lib.hid o
  clear hh hA o
  go_wp2_with fail
  go_ret
  exact ⟨B, c1, rfl, HH.out, HA.out, O.out⟩

/-- the table's look, of an access that may be -/
theorem expects_any {q p b L : Nat} {v : Value} {M : Nat → Prop} {c : Cf} {t : Tr} (f n : Int) (w : World) (h : StAt w q p b L v M c t) (hu : t.uses ≤ 1000) (hL : L + 1 ≤ t.uses) :
    Calls Try.prog 28 #[.pointer (some ⟨q, 0, none⟩), .int .i64 f, .int .i64 n] w fun e w' => e = .returned (.bool (lookB c.size c.life t.es f n)) ∧ (∃ L', StAt w' q p b L' v M c ⟨t.ss, lookT c.size c.life t.es f n, t.uses, t.begun⟩) ∧ Only M w w' := by
  have C := Lib.hid (look_any p b L c.size c.life t.es f n w h.tab (by omega))
  have c4 : w.cell? ⟨q, 3, none⟩ = some (.pointer (some ⟨p, 0, none⟩)) := by rw [h.row.cell]; rfl
  have H := Lib.hid h
  clear h
  go_enter Try.func28, Try.ntmps28
  go_wp2_with fail
  (with_reducible refine C.out.mono ?_)
  rintro e w1 ⟨rfl, ⟨L', l1, l2, ht⟩, o⟩
  have HT := Lib.hid ht
  have O := Lib.hid o
  have LL := Lib.hid (show L' ≤ t.uses by omega)
  clear ht o l1 l2 C c4
  go_wp2_with fail
  go_ret
  have K := H.out
  have nq : ¬ two8 p b q := fun k => by have h1 := K.qp; have h2 := K.qb; unfold two8 at k; omega
  have ng : ∀ g, v.ownBlock = some g → ¬ two8 p b g := fun g hg k => by have h1 := K.gp hg; have h2 := K.gb hg; unfold two8 at k; omega
  exact ⟨rfl, ⟨L', O.out.row K.row nq, K.own.keep' O.out ng, HT.out, LL.out, K.mq, K.mp, K.mb, fun g hg => Nat.lt_of_lt_of_le (K.lt g hg) O.out.size⟩, O.out.more (fun i _ k => by unfold two8 at k; rcases k with rfl | rfl; exact K.mp; exact K.mb)⟩
end Go.Proofs.Ytfmmmiiohaaegaa

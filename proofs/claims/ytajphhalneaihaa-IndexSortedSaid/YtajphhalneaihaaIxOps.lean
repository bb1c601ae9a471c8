/- What package index's calls answer: lay, lift. -/
import Derived.Test.YtajphhalneaihaaIxFind
import Derived.StillTailTactics
import Derived.Deep.RegionHeld3
namespace Go.Proofs.Ytajphhalneaihaa
open Go.RowKit
set_option linter.unusedVariables false

/-- what may turn in a table -/
abbrev two (p b : Nat) : Nat → Prop := fun k => k = p ∨ k = b

theorem Ix.write {w : World} {p b : Nat} {ps : List Pl} (h : Ix w p b ps) {i : Nat} (hi : i < ps.length) (q : Pl) (hc : cnt (ps.set i q) = cnt ps) :
    Ix (((w.setCell ⟨b, i * 3, none⟩ (.bool q.taken)).setCell ⟨b, i * 3 + 1, none⟩ (.int .i64 q.key)).setCell ⟨b, i * 3 + 2, none⟩ (.int .i64 q.n)) p b (ps.set i q) := by
  refine ⟨?_, Ix.row_set h.row (at_get hi) q, by rw [List.length_set]; exact h.pow, h.ne⟩
  rw [List.length_set, hc]
  exact ((h.head.far h.ne _).far h.ne _).far h.ne _
theorem Ix.write2 {w : World} {p b : Nat} {ps : List Pl} (h : Ix w p b ps) {i : Nat} (hi : i < ps.length) (q : Pl) {k : Int} (hc : (cnt (ps.set i q) : Int) = k) :
    Ix ((((w.setCell ⟨b, i * 3, none⟩ (.bool q.taken)).setCell ⟨b, i * 3 + 1, none⟩ (.int .i64 q.key)).setCell ⟨b, i * 3 + 2, none⟩ (.int .i64 q.n)).setCell ⟨p, 1, none⟩ (.int .i64 k)) p b (ps.set i q) := by
  refine ⟨?_, (Ix.row_set h.row (at_get hi) q).far (fun e => h.ne e.symm) _, by rw [List.length_set]; exact h.pow, h.ne⟩
  rw [List.length_set, hc]
  have := (((h.head.far h.ne (p := ⟨b, i * 3, none⟩) (.bool q.taken)).far h.ne (p := ⟨b, i * 3 + 1, none⟩) (.int .i64 q.key)).far h.ne (p := ⟨b, i * 3 + 2, none⟩) (.int .i64 q.n)).put 1 (.int .i64 k)
  exact this
theorem Ix.write3 {w : World} {p b : Nat} {ps : List Pl} (h : Ix w p b ps) {i : Nat} (hi : i < ps.length) (q : Pl) {k : Int} (hc : (cnt (ps.set i q) : Int) = k) :
    Ix ((((w.setCell ⟨p, 1, none⟩ (.int .i64 k)).setCell ⟨b, i * 3, none⟩ (.bool q.taken)).setCell ⟨b, i * 3 + 1, none⟩ (.int .i64 q.key)).setCell ⟨b, i * 3 + 2, none⟩ (.int .i64 q.n)) p b (ps.set i q) := by
  refine ⟨?_, Ix.row_set (h.row.far (fun e => h.ne e.symm) _) (at_get hi) q, by rw [List.length_set]; exact h.pow, h.ne⟩
  rw [List.length_set, hc]
  exact (((h.head.put 1 (.int .i64 k)).far h.ne _).far h.ne _).far h.ne _
theorem Ix.alloc {w : World} {p b : Nat} {ps : List Pl} (h : Ix w p b ps) (o : Obj) : Ix (w.alloc o) p b ps := h.still ((Only.refl _ _).alloc o)
theorem only_3 {S : Nat → Prop} {a w : World} (h : Only S a w) {b : Nat} (hb : S b) (i j k : Nat) (x y z : Value) : Only S a (((w.setCell ⟨b, i, none⟩ x).setCell ⟨b, j, none⟩ y).setCell ⟨b, k, none⟩ z) :=
  ((h.into hb i x).into hb j y).into hb k z

set_option maxHeartbeats 1000000 in
theorem lay_over (p b : Nat) (ps : List Pl) (i : Nat) (key n : Int) (w : World) (h : Ix w p b ps) (hi : i < ps.length) (ht : (Go.Proofs.Ytajphhalneaihaa.at_ ps i).taken = true) :
    Calls Try.prog 28 #[.pointer (some ⟨p, 0, none⟩), .int .i64 i, .agg #[.bool true, .int .i64 key, .int .i64 n]] w fun e w' => e = .returned (.tuple #[]) ∧ Ix w' p b (ps.set i ⟨true, key, n⟩) ∧ Only (two p b) w w' := by
  have h1 := h.still ((Only.refl none_ w).alloc (.cells #[.bool true, .int .i64 key, .int .i64 n] 55))
  have E1 := Lib.hid (empty_no p b ps i _ h1 hi ht)
  have c := h.hd
  have z := h.fz
  obtain ⟨c0, c1, c2⟩ := h.at_ (at_get hi)
  have n256 := h.pow.le.2
  have H := Lib.hid h
  have CN := Lib.hid (cnt_over hi ht (p := ⟨true, key, n⟩) rfl)
  have lt := h.head.lt
  have lb := h.row.lt
  clear h1 h ht
  go_enter Try.func28, Try.ntmps28
  go_wp2_with fail
  (with_reducible refine (E1.out).mono ?_)
  rintro e w1 ⟨rfl, rfl⟩
  go_wp2_with fail
  go_region
  go_wp2
  go_end0
  exact ⟨rfl, ((H.out.write hi ⟨true, key, n⟩ CN.out).alloc _).drew, ((only_3 (Only.refl _ _) (.inr rfl) _ _ _ _ _ _).alloc _).drew⟩

set_option maxHeartbeats 1000000 in
theorem lay_new (p b : Nat) (ps : List Pl) (i : Nat) (key n : Int) (w : World) (h : Ix w p b ps) (hi : i < ps.length) (ht : Go.Proofs.Ytajphhalneaihaa.at_ ps i = Pl.none_) :
    Calls Try.prog 28 #[.pointer (some ⟨p, 0, none⟩), .int .i64 i, .agg #[.bool true, .int .i64 key, .int .i64 n]] w fun e w' => e = .returned (.tuple #[]) ∧ Ix w' p b (ps.set i ⟨true, key, n⟩) ∧ Only (two p b) w w' := by
  have h1 := h.still ((Only.refl none_ w).alloc (.cells #[.bool true, .int .i64 key, .int .i64 n] 55))
  have E1 := Lib.hid (empty_yes p b ps i _ h1 hi ht)
  have c := h.hd
  have ck := h.kd
  have z := h.fz
  have zp := h.fp
  obtain ⟨c0, c1, c2⟩ := h.at_ (at_get hi)
  have n256 := h.pow.le.2
  have H := Lib.hid h
  have CN := Lib.hid (show (cnt (ps.set i ⟨true, key, n⟩) : Int) = (cnt ps : Int) + 1 by rw [cnt_new hi (by rw [ht]; rfl) (p := ⟨true, key, n⟩) rfl]; simp)
  have lt := h.head.lt
  have lb := h.row.lt
  have ne := h.ne
  have ne' : b ≠ p := fun e => ne e.symm
  have cb := cnt_le ps
  clear h1 h ht
  generalize Go.Proofs.Ytajphhalneaihaa.at_ ps i = f at *
  generalize cnt ps = m at *
  go_enter Try.func28, Try.ntmps28
  go_wp2_with fail
  (with_reducible refine (E1.out).mono ?_)
  rintro e w1 ⟨rfl, rfl⟩
  go_wp2_with fail
  go_region
  go_wp2
  go_end0
  exact ⟨rfl, ((H.out.write3 hi ⟨true, key, n⟩ CN.out).alloc _).drew, ((only_3 ((Only.refl _ _).into (.inl rfl) _ _) (.inr rfl) _ _ _ _ _ _).alloc _).drew⟩

set_option maxHeartbeats 1000000 in
theorem lift_any (p b : Nat) (ps : List Pl) (i : Nat) (q : Pl) (w : World) (h : Ix w p b ps) (hi : i < ps.length) (hq : Go.Proofs.Ytajphhalneaihaa.at_ ps i = q) (ht : q.taken = true) :
    Calls Try.prog 32 #[.pointer (some ⟨p, 0, none⟩), .int .i64 i] w fun e w' => e = .returned (.agg #[.bool true, .int .i64 q.key, .int .i64 q.n]) ∧ Ix w' p b (ps.set i Pl.none_) ∧ Only (two p b) w w' := by
  have c := h.hd
  have ck := h.kd
  have z := h.fz
  have zp := h.fp
  obtain ⟨c0, c1, c2⟩ := h.at_ (at_get hi)
  rw [hq] at c0 c1 c2
  rw [ht] at c0
  have n256 := h.pow.le.2
  have cp : 1 ≤ cnt ps := cnt_pos hi (by rw [hq]; exact ht)
  have cb := cnt_le ps
  have H := Lib.hid h
  have CN := Lib.hid (show (cnt (ps.set i Pl.none_) : Int) = (cnt ps : Int) - 1 by have := cnt_clear hi (by rw [hq]; exact ht); omega)
  have lt := h.head.lt
  have lb := h.row.lt
  have ne := h.ne
  have ne' : b ≠ p := fun e => ne e.symm
  clear h hq ht
  generalize cnt ps = m at *
  generalize q.key = key at *
  generalize q.n = n at *
  go_enter Try.func32, Try.ntmps32
  go_wp2
  exact bodyPost_ret (v := .agg #[.bool true, .int .i64 key, .int .i64 n]) (by simp [results, Try.results32, go_sem]) rfl
    ⟨rfl, ((H.out.write2 hi Pl.none_ CN.out).alloc _).alloc _, (((only_3 (Only.refl _ _) (.inr rfl) _ _ _ _ _ _).into (.inl rfl) _ _).alloc _).alloc _⟩
end Go.Proofs.Ytajphhalneaihaa

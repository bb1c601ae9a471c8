/- The document's own: is a number in a list, has a run a block, what two runs have in common, a run's blocks. -/
import Derived.Test.YtobeoknaanbakaaSo
namespace Go.Proofs.Ytobeoknaanbakaa
open Go.RowKit
set_option linter.unusedVariables false

set_option maxHeartbeats 2000000 in
theorem in_q (v : Value) (xs : List Int) (x : Int) (w : World) (h : Reads w v xs) (hm : xs.length ≤ 1000000) :
    Calls Try.prog 18 #[v, .int .i64 x] w fun e w' => e = .returned (.bool (decide (x ∈ xs))) ∧ w' = w := by
  obtain ⟨A, cap, rfl, hc⟩ := h
  have H := Lib.hid hc
  clear hc
  go_enter Try.func18, Try.ntmps18
  go_wp2_with fail
  go_loopw [5] (fun i wr => ∃ k : Nat, k ≤ xs.length ∧ i = .int .i64 k ∧ (¬ x ∈ xs.take k) ∧ wr = w) (fun i _ => xs.length - (intOf i).toNat)
  case atStart => exact ⟨0, Nat.zero_le _, rfl, by simp, rfl⟩
  case round =>
    obtain ⟨k, hk, rfl, n, o⟩ := hrel
    subst o
    have NI := Lib.hid n
    clear n
    by_cases hlt : k < xs.length
    · obtain ⟨y, hy⟩ : ∃ y, xs[k]? = some y := ⟨_, List.getElem?_eq_getElem hlt⟩
      obtain ⟨g1, o1, rfl, c1⟩ := H.out k y hy
      have HX := Lib.hid (take_more hy)
      have HM := Lib.hid (List.mem_of_getElem? hy)
      clear hy H
      by_cases e : y = x
      · have t : (y == x) = true := by simp [e]
        have E2 := Lib.hid e
        clear e
        go_wp2_with fail
        go_ret
        refine ⟨?_, rfl⟩
        rw [decide_eq_true (by rw [← E2.out]; exact HM.out)]
        rfl
      · have t : (y == x) = false := by simp [e]
        have E2 := Lib.hid e
        clear e
        go_wp2_with fail
        go_roundw
        case rel =>
          refine ⟨k + 1, by omega, by go_num, ?_, by trivial⟩
          rw [HX.out, List.mem_append, List.mem_singleton]
          rintro (q | q)
          · exact NI.out q
          · exact E2.out q.symm
        case measure => simp [intOf]; omega
    · have hge : xs.length ≤ k := by omega
      have TK := Lib.hid (List.take_of_length_le hge)
      rw [TK.out] at NI
      clear hm
      go_wp2_with fail
      go_ret
      refine ⟨?_, rfl⟩
      rw [decide_eq_false NI.out]
      rfl
theorem in_any (v : Value) (xs : List Int) (x : Int) (w : World) (h : Reads w v xs) (hm : xs.length ≤ 1000000) :
    Calls Try.prog 18 #[v, .int .i64 x] w fun e w' => e = .returned (.bool (decide (x ∈ xs))) ∧ Only none_ w w' :=
  (in_q v xs x w h hm).mono (fun e w' h => ⟨h.1, by rw [h.2]; exact Only.refl _ _⟩)
theorem rhas_any (r : Rn) (x : Int) (w : World) (hx : x ≤ 9223372036854775807) :
    Calls Try.prog 19 #[r.val, .int .i64 x] w fun e w' => e = .returned (.bool (decide (r.Has x))) ∧ Only none_ w w' := by
  have RM := Lib.hid (fun w => rmay_any r w)
  by_cases h : r.Ok
  · rw [decide_eq_true h] at RM
    have h' := h
    unfold Rn.Ok at h'
    by_cases k : r.f ≤ x
    · have v : IntKind.i64.wrap (x - r.f) = x - r.f := by rw [IntKind.wrap_i64]; omega
      have t1 : decide (r.f ≤ x) = true := decide_eq_true k
      by_cases j : x - r.f < r.c
      · have t2 : decide (x - r.f < r.c) = true := decide_eq_true j
        rw [show decide (r.Has x) = true from decide_eq_true ⟨h, k, j⟩]
        clear h h' k j hx
        unfold Rn.val at *
        go_enter Try.func19, Try.ntmps19
        go_wp2_with fail
        (with_reducible refine (RM.out _).mono ?_)
        rintro e w2 ⟨rfl, o⟩
        have R := Lib.hid (o.still (Row.fresh w 27 #[.int .i64 r.f, .int .i64 r.c]))
        have O := Lib.hid (((Only.refl none_ w).alloc (.cells #[.int .i64 r.f, .int .i64 r.c] 27)).same o)
        obtain ⟨c0, c1⟩ := R.out.two
        clear o
        go_wp2_with fail
        go_ret
        exact ⟨rfl, O.out⟩
      · have t2 : decide (x - r.f < r.c) = false := decide_eq_false j
        rw [show decide (r.Has x) = false from decide_eq_false (fun q => j q.2.2)]
        clear h h' k j hx
        unfold Rn.val at *
        go_enter Try.func19, Try.ntmps19
        go_wp2_with fail
        (with_reducible refine (RM.out _).mono ?_)
        rintro e w2 ⟨rfl, o⟩
        have R := Lib.hid (o.still (Row.fresh w 27 #[.int .i64 r.f, .int .i64 r.c]))
        have O := Lib.hid (((Only.refl none_ w).alloc (.cells #[.int .i64 r.f, .int .i64 r.c] 27)).same o)
        obtain ⟨c0, c1⟩ := R.out.two
        clear o
        go_wp2_with fail
        go_ret
        exact ⟨rfl, O.out⟩
    · have t1 : decide (r.f ≤ x) = false := decide_eq_false k
      rw [show decide (r.Has x) = false from decide_eq_false (fun q => k q.2.1)]
      clear h h' k hx
      unfold Rn.val at *
      go_enter Try.func19, Try.ntmps19
      go_wp2_with fail
      (with_reducible refine (RM.out _).mono ?_)
      rintro e w2 ⟨rfl, o⟩
      have R := Lib.hid (o.still (Row.fresh w 27 #[.int .i64 r.f, .int .i64 r.c]))
      have O := Lib.hid (((Only.refl none_ w).alloc (.cells #[.int .i64 r.f, .int .i64 r.c] 27)).same o)
      obtain ⟨c0, c1⟩ := R.out.two
      clear o
      go_wp2_with fail
      go_ret
      exact ⟨rfl, O.out⟩
  · rw [decide_eq_false h] at RM
    rw [show decide (r.Has x) = false from decide_eq_false (fun q => h q.1)]
    clear h hx
    unfold Rn.val at *
    go_enter Try.func19, Try.ntmps19
    go_wp2_with fail
    (with_reducible refine (RM.out _).mono ?_)
    rintro e w2 ⟨rfl, o⟩
    have O := Lib.hid (((Only.refl none_ w).alloc (.cells #[.int .i64 r.f, .int .i64 r.c] 27)).same o)
    clear o
    go_wp2_with fail
    go_ret
    exact ⟨rfl, O.out⟩
end Go.Proofs.Ytobeoknaanbakaa

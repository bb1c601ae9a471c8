/- The set of blocks that a list names, and whether one of them is one, and what it costs: the code's own sets. -/
import Derived.Test.YtobeoknaanbakaaBm
import Derived.Test.YtobeoknaanbakaaInt11
import Derived.Test.YtobeoknaanbakaaArgs
namespace Go.Proofs.Ytobeoknaanbakaa
open Go.RowKit
set_option linter.unusedVariables false

theorem Reads.of_holds {w : World} {A : Option Addr} {cap : Nat} {xs : List Int} (h : Holds w A 1 one xs) : Reads w (.slice A xs.length cap) xs := by
  refine ⟨A, cap, rfl, fun i x hx => ?_⟩
  obtain ⟨b, o, e, _, hc⟩ := h i x hx
  refine ⟨b, o, e, ?_⟩
  have := hc 0 _ rfl
  rwa [Nat.mul_one, Nat.add_zero] at this
theorem take_more {xs : List Int} {k : Nat} {x : Int} (h : xs[k]? = some x) : xs.take (k + 1) = xs.take k ++ [x] := by
  rw [List.take_add_one, h]; rfl
theorem allB_more (l : List Int) (x : Int) : decide (allB (l ++ [x])) = (decide (allB l) && decide (0 ≤ x ∧ x < 256)) := by
  rw [Bool.eq_iff_iff, Bool.and_eq_true]
  simp only [decide_eq_true_eq]
  unfold allB
  constructor
  · intro h
    exact ⟨fun y hy => h y (by simp [hy]), h x (by simp)⟩
  · intro h y hy
    rw [List.mem_append, List.mem_singleton] at hy
    rcases hy with hy | rfl
    · exact h.1 y hy
    · exact h.2
theorem hasB_more (l : List Int) (x y : Int) (h0 : 0 ≤ y) (h1 : y < 256) : hasB (l ++ [x]) y = (hasB l y || decide (y = x)) := by
  rw [hasB_in h0 h1, hasB_in h0 h1, Bool.eq_iff_iff, Bool.or_eq_true]
  simp only [decide_eq_true_eq, List.mem_append, List.mem_singleton]
theorem hasB_out (l : List Int) (x y : Int) (hx : ¬ (0 ≤ x ∧ x < 256)) (h0 : 0 ≤ y) (h1 : y < 256) : hasB (l ++ [x]) y = hasB l y := by
  rw [hasB_more l x y h0 h1, decide_eq_false (show ¬ y = x by omega), Bool.or_false]
theorem SetAt.same {w : World} {g : Nat} {p q : Int → Bool} (h : SetAt w g p) (e : ∀ x : Int, 0 ≤ x → x < 256 → p x = q x) : SetAt w g q := by
  unfold SetAt
  rw [← bits_same e]
  exact h

set_option maxHeartbeats 2000000 in
theorem setOf_any (v : Value) (xs : List Int) (w : World) (h : Reads w v xs) (hm : xs.length ≤ 1000000) :
    Calls Try.prog 21 #[v] w fun e w' => e = .returned (.tuple #[.agg (bits (hasB xs)), .bool (decide (allB xs))]) ∧ Only none_ w w' := by
  obtain ⟨A, cap, rfl, hc⟩ := h
  have H := Lib.hid hc
  clear hc
  have ZS := zero_set
  go_enter Try.func21, Try.ntmps21
  go_wp2_with fail
  clear ZS
  have O0 := Lib.hid ((Only.refl none_ w).alloc (.cells (bits fun x => false) 46))
  have S0 := Lib.hid (show SetAt (w.alloc (.cells (bits fun x => false) 46)) w.heap.size (fun _ => false) from Row.fresh w 46 (bits fun x => false))
  have GE := Lib.hid (Nat.le_refl w.heap.size)
  revert GE S0 O0
  generalize w.alloc (.cells (bits fun x => false) 46) = W1
  generalize hg : w.heap.size = g
  intro O0 S0 GE
  have GW := Lib.hid (show w.heap.size ≤ g from Nat.le_of_eq hg)
  clear GE hg
  go_loopw [8, 3] (fun i a wr => ∃ k : Nat, k ≤ xs.length ∧ i = .int .i64 k ∧ a = .bool (decide (allB (xs.take k))) ∧ SetAt wr g (hasB (xs.take k)) ∧ Only none_ w wr) (fun i _ _ => xs.length - (intOf i).toNat)
  case atStart =>
    refine ⟨0, Nat.zero_le _, rfl, ?_, S0.out.same (fun x h0 h1 => ?_), O0.out⟩
    · rw [decide_eq_true]
      intro x hx
      simp at hx
    · rw [hasB_in h0 h1]
      simp
  case round =>
    obtain ⟨k, hk, rfl, rfl, s, o⟩ := hrel
    have O := Lib.hid o
    have S := Lib.hid s
    clear o s
    by_cases hlt : k < xs.length
    · obtain ⟨x, hx⟩ : ∃ x, xs[k]? = some x := ⟨_, List.getElem?_eq_getElem hlt⟩
      obtain ⟨g1, o1, rfl, c1⟩ := H.out k x hx
      have d1 := O.out.cell c1 (fun s => s)
      have HX := Lib.hid (take_more hx)
      clear hx c1 H
      have IB := Lib.hid (fun w => isBlock_any x w)
      by_cases hb : 0 ≤ x ∧ x < 256
      · rw [decide_eq_true hb] at IB
        obtain ⟨n, rfl⟩ := Int.eq_ofNat_of_zero_le hb.1
        have hn : n < 256 := by omega
        clear hb
        go_wp2_with fail
        (with_reducible refine (IB.out _).mono ?_)
        rintro e w2 ⟨rfl, o2⟩
        have O2 := Lib.hid (O.out.same o2)
        have S2 := Lib.hid (S.out.still o2)
        have f2 : w2.frozen? ⟨g, n, none⟩ = false := Row.frozen S2.out n
        have c2 := SetAt.cell S2.out hn
        clear d1 o2 O S
        go_wp2_with fail
        go_roundw
        case rel =>
          refine ⟨k + 1, by omega, by go_num, ?_, ?_, O2.out.new GW.out _ _⟩
          · rw [HX.out, allB_more, decide_eq_true (show (0 : Int) ≤ (n : Int) ∧ (n : Int) < 256 by omega), Bool.and_true]
          · have r := Row.put S2.out n (.bool true)
            rw [bits_put] at r
            rw [HX.out]
            exact SetAt.same r (fun y h0 h1 => (hasB_more _ _ y h0 h1).symm)
        case measure => simp [intOf]; omega
      · rw [decide_eq_false hb] at IB
        have HB := Lib.hid hb
        clear hb
        go_wp2_with fail
        (with_reducible refine (IB.out _).mono ?_)
        rintro e w2 ⟨rfl, o2⟩
        have O2 := Lib.hid (O.out.same o2)
        have S2 := Lib.hid (S.out.still o2)
        clear d1 o2 O S
        go_wp2_with fail
        go_roundw
        case rel =>
          refine ⟨k + 1, by omega, by go_num, ?_, ?_, O2.out⟩
          · rw [HX.out, allB_more, decide_eq_false HB.out, Bool.and_false]
          · rw [HX.out]
            exact SetAt.same S2.out (fun y h0 h1 => (hasB_out _ _ y HB.out h0 h1).symm)
        case measure => simp [intOf]; omega
    · have hge : xs.length ≤ k := by omega
      have TK := Lib.hid (List.take_of_length_le hge)
      rw [TK.out] at S
      rw [TK.out]
      generalize hq : decide (allB xs) = q
      have HQ := Lib.hid hq
      clear hq hm
      go_wp2_with (first | (refine wpList_load_row rfl 46 _ rfl g rfl 46 (bits (hasB xs)) (0, 0) _ S.out Try.underlying46 rfl (size_set _) ?_) | (refine wpList_store_row rfl 46 _ _ rfl g (bits (hasB xs)) rfl rfl 46 (bits (hasB xs)) S.out (size_set _) rfl (bits_one _) ?_))
      refine bodyPost_ret (results_set2 rfl _ _ g (hasB xs) rfl (S.out.store _)) rfl ⟨?_, O.out.whole (fun h => by have := GW.out; omega) _⟩
      rw [HQ.out]
      rfl

theorem has_q (g : Nat) (p : Int → Bool) (x : Int) (w : World) (h : SetAt w g p) :
    Calls Try.prog 23 #[.pointer (some ⟨g, 0, none⟩), .int .i64 x] w fun e w' => e = .returned (.bool (decide (0 ≤ x ∧ x < 256) && p x)) ∧ w' = w := by
  have IB := Lib.hid (isBlock_q x w)
  have S := Lib.hid h
  clear h
  by_cases hb : 0 ≤ x ∧ x < 256
  · rw [decide_eq_true hb] at IB
    rw [decide_eq_true hb, Bool.true_and]
    obtain ⟨n, rfl⟩ := Int.eq_ofNat_of_zero_le hb.1
    have hn : n < 256 := by omega
    clear hb
    have c := SetAt.cell S.out hn
    go_enter Try.func23, Try.ntmps23
    go_wp2_with fail
    (with_reducible refine IB.out.mono ?_)
    rintro e w2 ⟨rfl, rfl⟩
    go_wp2_with fail
    go_ret
    exact ⟨rfl, rfl⟩
  · rw [decide_eq_false hb] at IB
    rw [decide_eq_false hb, Bool.false_and]
    clear hb
    go_enter Try.func23, Try.ntmps23
    go_wp2_with fail
    (with_reducible refine IB.out.mono ?_)
    rintro e w2 ⟨rfl, rfl⟩
    go_wp2_with fail
    go_ret
    exact ⟨rfl, rfl⟩
theorem hasB_and (xs : List Int) (x : Int) : (decide (0 ≤ x ∧ x < 256) && hasB xs x) = hasB xs x := by
  cases h : hasB xs x
  · rw [Bool.and_false]
  · have := hasB_yes h
    rw [decide_eq_true (show 0 ≤ x ∧ x < 256 from ⟨this.1, this.2.1⟩)]
    rfl
theorem hasq_set (g : Nat) (xs : List Int) (x : Int) (w : World) (h : SetAt w g (hasB xs)) :
    Calls Try.prog 23 #[.pointer (some ⟨g, 0, none⟩), .int .i64 x] w fun e w' => e = .returned (.bool (hasB xs x)) ∧ w' = w := by
  have := has_q g (hasB xs) x w h
  rw [hasB_and] at this
  exact this
theorem has_set (g : Nat) (xs : List Int) (x : Int) (w : World) (h : SetAt w g (hasB xs)) :
    Calls Try.prog 23 #[.pointer (some ⟨g, 0, none⟩), .int .i64 x] w fun e w' => e = .returned (.bool (hasB xs x)) ∧ Only none_ w w' :=
  (hasq_set g xs x w h).mono (fun e w' h => ⟨h.1, by rw [h.2]; exact Only.refl _ _⟩)
theorem costq_set (g : Nat) (xs : List Int) (x : Int) (w : World) (h : SetAt w g (hasB xs)) :
    Calls Try.prog 24 #[.pointer (some ⟨g, 0, none⟩), .int .i64 x] w fun e w' => e = .returned (.int .i64 (costB (hasB xs) x)) ∧ w' = w := by
  have HS := Lib.hid (hasq_set g xs x w h)
  clear h
  rcases costB_cases (hasB xs) x with ⟨h1, h2⟩ | ⟨h1, h2⟩
  all_goals
    rw [h1] at HS
    rw [h2]
    clear h1 h2
    go_enter Try.func24, Try.ntmps24
    go_wp2_with fail
    (with_reducible refine HS.out.mono ?_)
    rintro e w2 ⟨rfl, rfl⟩
    go_wp2_with fail
    go_ret
    exact ⟨rfl, rfl⟩
theorem cost_set (g : Nat) (xs : List Int) (x : Int) (w : World) (h : SetAt w g (hasB xs)) :
    Calls Try.prog 24 #[.pointer (some ⟨g, 0, none⟩), .int .i64 x] w fun e w' => e = .returned (.int .i64 (costB (hasB xs) x)) ∧ Only none_ w w' :=
  (costq_set g xs x w h).mono (fun e w' h => ⟨h.1, by rw [h.2]; exact Only.refl _ _⟩)
end Go.Proofs.Ytobeoknaanbakaa

/- A slice of integers of the call's own: sorted, cut of neighbours alike. -/
import Derived.Test.YtgngaimbpnlkjaaSo30
import Derived.Test.YtgngaimbpnlkjaaInt11
import Derived.Test.YtgngaimbpnlkjaaShelf
import Derived.Sort.OwnSortedInts
import Derived.Lib.RowBridge
namespace Go.Proofs.Ytgngaimbpnlkjaa
open Go.RowKit Go.Sort
set_option linter.unusedVariables false

theorem sort_own14 (w : World) (base g cap : Nat) (xs : List Int) (h : OwnsInts w base (.slice (some ⟨g, 0, none⟩) xs.length cap) xs) (hs : xs.length < 4611686018427387904) :
    Calls Try.prog 27 #[.slice (some ⟨g, 0, none⟩) xs.length cap] w fun e w' => e = .returned (.tuple #[]) ∧ OwnsInts w' base (.slice (some ⟨g, 0, none⟩) xs.length cap) (xs.mergeSort fun x y => decide (x ≤ y)) ∧ Only (fun k => k = g) w w' := by
  rcases h.2 with ⟨h0, _⟩ | ⟨g', cap', cur, hv, hg, hh, h3, h4, h5, h6⟩
  · cases h0
  cases hv
  rw [one_map, Nat.mul_one] at h6
  have lt : g < w.heap.size := (Array.getElem?_eq_some_iff.1 hh).1
  refine (Try.slices_Sort_int g 0 cap xs w (holds_of_blockI hh h6) lt hs).mono ?_
  rintro e w' ⟨rfl, n, os, rfl⟩
  have gb := grownBy_sortedI (w := w) (g := g) (n := n) (os := os) (xs.mergeSort fun x y => decide (x ≤ y)).toArray
  refine ⟨rfl, ?_, (Only.of_grown gb).more (fun j _ q => by injection q)⟩
  have hl : (xs.mergeSort fun x y => decide (x ≤ y)).length = xs.length := List.length_mergeSort _
  have := ownsRow_sortedI (n := n) (os := os) hl hg hh h3 h4 h5
  show World.ownsRow _ _ _ _ _ (List.length _) _
  rw [one_map, hl]
  exact this
theorem compact_own14 (w : World) (base g cap : Nat) (xs : List Int) (h : OwnsInts w base (.slice (some ⟨g, 0, none⟩) xs.length cap) xs) (hs : xs.length ≤ 1000) :
    Calls Try.prog 28 #[.slice (some ⟨g, 0, none⟩) xs.length cap] w fun e w' => e = .returned (.slice (some ⟨g, 0, none⟩) (Lib.compact xs).length cap) ∧ OwnsInts w' base (.slice (some ⟨g, 0, none⟩) (Lib.compact xs).length cap) (Lib.compact xs) ∧ Only (fun k => k = g) w w' := by
  rcases h.2 with ⟨h0, _⟩ | ⟨g', cap', cur, hv, hg, hh, h3, h4, h5, h6⟩
  · cases h0
  cases hv
  rw [one_map, Nat.mul_one] at h6
  have cl := Lib.compact_length_le xs
  refine (Try.slices_Compact_int g 0 cap xs w (holds_of_blockI hh h6) (by omega) h3).mono ?_
  rintro e w' ⟨rfl, q, hw⟩
  have e0 : w' = grow (putRow (Value.int .i64) (Sort.ahead w q) g 0 (Lib.compact xs ++ List.replicate (xs.length - (Lib.compact xs).length) 0).toArray) #[] := by rw [hw]; simp [grow]; rfl
  rw [e0]
  have gb := grownBy_sortedI (w := w) (g := g) (n := q) (os := #[]) (Lib.compact xs ++ List.replicate (xs.length - (Lib.compact xs).length) 0).toArray
  refine ⟨rfl, ?_, (Only.of_grown gb).more (fun j _ q => by injection q)⟩
  refine ⟨by simp [one_map], .inr ⟨g, cap, _, rfl, hg, heap_sortedI _ hh, Nat.le_trans cl h3, h4, by simp [putCells, h5], ?_⟩⟩
  rw [Nat.mul_one, one_map]
  have hl : (Lib.compact xs ++ List.replicate (xs.length - (Lib.compact xs).length) 0).length = xs.length := by simp; omega
  have tk := take_putCellsI cur (Lib.compact xs ++ List.replicate (xs.length - (Lib.compact xs).length) 0) (by rw [hl]; omega)
  have := congrArg (List.take (Lib.compact xs).length) tk
  rw [List.take_take, hl, Nat.min_eq_left cl, List.map_append, List.take_append_of_le_length (by simp), List.take_of_length_le (l := (Lib.compact xs).map (Value.int .i64)) (by simp)] at this
  exact this
theorem insI_none (p : Option Addr) (cap : Nat) (w : World) :
    Calls Try.prog 37 #[.slice p 0 cap, .int .i64 0, .int .i64 0] w fun e w' => e = .returned (.tuple #[]) ∧ w' = w := by
  go_enter Try.func37, Try.ntmps37
  go_wp2_with fail
  go_loopw [6] (fun x wr => x = .int .i64 1 ∧ wr = w) (fun _ _ => 0)
  case atStart => exact ⟨rfl, rfl⟩
  case round =>
    obtain ⟨rfl, rfl⟩ := hrel
    go_wp2_with fail
    go_end0
    exact ⟨rfl, rfl⟩
theorem pdqI_none (p : Option Addr) (cap : Nat) (lim : Int) (w : World) :
    Calls Try.prog 33 #[.slice p 0 cap, .int .i64 0, .int .i64 0, .int .i64 lim] w fun e w' => e = .returned (.tuple #[]) ∧ w' = w := by
  have C := Lib.hid (fun W => insI_none p cap W)
  go_enter Try.func33, Try.ntmps33
  go_wp2_with fail
  go_loopw [1, 2] (fun x y wr => x = .int .i64 0 ∧ y = .int .i64 0 ∧ wr = w) (fun _ _ _ => 0)
  case atStart => exact ⟨rfl, rfl, rfl⟩
  case round =>
    obtain ⟨rfl, rfl, rfl⟩ := hrel
    go_wp2_with fail
    (with_reducible refine (C.out _).mono ?_)
    rintro e W1 ⟨rfl, rfl⟩
    go_wp2_with fail
    refine bodyPost_ret (results_none rfl _ _ _) rfl ?_
    exact ⟨rfl, rfl⟩
theorem sort_none14 (p : Option Addr) (cap : Nat) (w : World) :
    Calls Try.prog 27 #[.slice p 0 cap] w fun e w' => e = .returned (.tuple #[]) ∧ w' = w := by
  have BL := Lib.hid (fun W => Try.bits_Len 0 W (by omega) (by omega))
  have C := Lib.hid (fun W => pdqI_none p cap 0 W)
  have z : Lib.bitLen (Int.toNat 0) = 0 := by decide
  rw [z] at BL
  clear z
  go_enter Try.func27, Try.ntmps27
  go_wp2_with fail
  (with_reducible refine (BL.out _).mono ?_)
  rintro e w' ⟨rfl, rfl⟩
  go_wp2_with fail
  (with_reducible refine (C.out _).mono ?_)
  rintro e w' ⟨rfl, rfl⟩
  go_wp2_with fail
  go_end0
  exact ⟨rfl, rfl⟩
/-- a slice of the call's own, nil too -/
theorem sortI14 (w : World) (base : Nat) (v : Value) (xs : List Int) (h : OwnsInts w base v xs) (hs : xs.length ≤ 1000) :
    Calls Try.prog 27 #[v] w fun e w' => e = .returned (.tuple #[]) ∧ OwnsInts w' base v (xs.mergeSort fun x y => decide (x ≤ y)) ∧ Only (fun k => v.ownBlock = some k) w w' := by
  have h0 := h
  rcases h.2 with ⟨hv, h2⟩ | ⟨g, cap, cur, hv, _⟩
  · have : xs = [] := List.eq_nil_of_length_eq_zero h2
    subst this
    subst hv
    refine (sort_none14 none 0 w).mono ?_
    rintro e w' ⟨rfl, rfl⟩
    exact ⟨rfl, by rw [List.mergeSort_nil]; exact h0, Only.refl _ _⟩
  · subst hv
    refine (sort_own14 w base g cap xs h0 (by omega)).mono ?_
    rintro e w' ⟨rfl, h1, h2⟩
    exact ⟨rfl, h1, h2.more (fun i _ e => by subst e; rfl)⟩
theorem compactI14 (w : World) (base : Nat) (v : Value) (xs : List Int) (h : OwnsInts w base v xs) (hs : xs.length ≤ 1000) :
    Calls Try.prog 28 #[v] w fun e w' => ∃ a n cap, e = .returned (.slice a n cap) ∧ OwnsInts w' base (.slice a n cap) (Lib.compact xs) ∧ Only (fun k => v.ownBlock = some k) w w' := by
  have h0 := h
  rcases h.2 with ⟨hv, h2⟩ | ⟨g, cap, cur, hv, _⟩
  · have : xs = [] := List.eq_nil_of_length_eq_zero h2
    subst this
    subst hv
    refine (Try.slices_Compact_int_empty none 0 w).mono ?_
    rintro e w' ⟨rfl, rfl⟩
    exact ⟨none, 0, 0, rfl, h0, Only.refl _ _⟩
  · subst hv
    refine (compact_own14 w base g cap xs h0 hs).mono ?_
    rintro e w' ⟨rfl, h1, h2⟩
    exact ⟨_, _, _, rfl, h1, h2.more (fun i _ e => by subst e; rfl)⟩
end Go.Proofs.Ytgngaimbpnlkjaa

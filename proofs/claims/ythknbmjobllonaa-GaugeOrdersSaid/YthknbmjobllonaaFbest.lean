/- What Best answers, of any gauges that lie in memory. No condition but that the numbers fit their kinds. -/
import Derived.Test.YthknbmjobllonaaFref
import Derived.Below
namespace Go.Proofs.Ythknbmjobllonaa
open Go.RowKit Fl

/-- the place of the first greatest of the first n -/
def bst (K : Nat → Int) : Nat → Nat
  | 0 => 0
  | n + 1 => if K (bst K n) < K n then n else bst K n

theorem bst_lt (K : Nat → Int) : ∀ n, bst K n < n + 1 := by
  intro n
  induction n with
  | zero => show 0 < 1; decide
  | succ n ih => unfold bst; split <;> omega
theorem bst_lt' (K : Nat → Int) (n : Nat) (h : 0 < n) : bst K n < n := by
  cases n with
  | zero => omega
  | succ n => have := bst_lt K n; unfold bst; split <;> omega
theorem bst_most (K : Nat → Int) : ∀ n j, j < n → K j ≤ K (bst K n) := by
  intro n
  induction n with
  | zero => intro j h; omega
  | succ n ih =>
    intro j h
    unfold bst
    by_cases e : j = n
    · subst e; split <;> omega
    · have := ih j (by omega)
      split <;> omega
theorem bst_first (K : Nat → Int) : ∀ n j, j < bst K n → K j < K (bst K n) := by
  intro n
  induction n with
  | zero => intro j h; simp [bst] at h
  | succ n ih =>
    intro j
    unfold bst
    split
    · intro h
      have := bst_most K n j h
      omega
    · exact ih j
theorem bst_yes {K : Nat → Int} {n : Nat} (h : K (bst K n) < K n) : bst K (n + 1) = n := by
  show (if K (bst K n) < K n then n else bst K n) = n
  rw [if_pos h]
theorem bst_no {K : Nat → Int} {n : Nat} (h : ¬ K (bst K n) < K n) : bst K (n + 1) = bst K n := by
  show (if K (bst K n) < K n then n else bst K n) = bst K n
  rw [if_neg h]

theorem side_pos {x y : Int} (h : y < x) : Fl.side x y = 1 := by unfold Fl.side; rw [if_neg (by omega), if_pos h]
theorem side_neg {x y : Int} (h : x < y) : Fl.side x y = -1 := by unfold Fl.side; rw [if_pos h]
theorem side_zero {x y : Int} (h : x = y) : Fl.side x y = 0 := by unfold Fl.side; rw [if_neg (by omega), if_neg (by omega)]
theorem side_not {x y : Int} (h : ¬ y < x) : Fl.side x y = 0 ∨ Fl.side x y = -1 := by unfold Fl.side; split <;> (try split) <;> omega

/-- gauges that lie in memory -/
def Lies (w : World) (b off : Nat) (ns : List Nat) : Prop := ∀ j, j < ns.length → w.cell? ⟨b, off + j, none⟩ = some (.int .u64 ((ns.getD j 0 : Nat) : Int))

/-- the keys of a list of gauges -/
def keys (ns : List Nat) (j : Nat) : Int := key (ns.getD j 0)

set_option maxHeartbeats 1000000 in
theorem best_any (b off len cap : Nat) (ns : List Nat) (w : World) (hz : len ≤ ns.length) (hbig : len ≤ 9223372036854775807) (h0 : 0 < len) (hc : Lies w b off ns) :
    Calls Try.prog 9 #[.slice (some ⟨b, off, none⟩) len cap] w fun e w' => e = .returned (.tuple #[.int .i64 (bst (keys ns) len), .bool true]) ∧ w = w' := by
  have HC := Lib.hid hc
  clear hc
  go_enter Try.func9, Try.ntmps9
  go_wp2
  go_loop [4, 9] (fun v i => ∃ k : Nat, k ≤ len ∧ i = .int .i64 k ∧ v = .int .i64 (bst (keys ns) k)) (fun _ i => len - (intOf i).toNat)
  case atStart => exact ⟨0, Nat.zero_le _, rfl, rfl⟩
  case round =>
    obtain ⟨k, hk, rfl, rfl⟩ := hrel
    by_cases hlt : k < len
    · have hbl := bst_lt (keys ns) k
      have c1 := HC.out k (by omega)
      have c2 := HC.out (bst (keys ns) k) (by omega)
      by_cases hs : keys ns (bst (keys ns) k) < keys ns k
      · have E1 := Lib.hid (bst_yes hs)
        have C := cmp_any (ns.getD k 0) (ns.getD (bst (keys ns) k) 0)
        rw [show Fl.side (key (ns.getD k 0)) (key (ns.getD (bst (keys ns) k) 0)) = 1 from side_pos hs] at C
        have C' := Lib.hid C
        clear hs C
        generalize bst (keys ns) k = m at *
        generalize ns.getD k 0 = x at *
        generalize ns.getD m 0 = y at *
        go_wp2_with (go_at_call 11; (with_reducible refine (C'.out _).mono ?_); rintro e w' ⟨rfl, rfl⟩)
        exact ⟨⟨k + 1, by omega, by go_num, by rw [E1.out]⟩, by simp [intOf]; omega⟩
      · have E1 := Lib.hid (bst_no hs)
        have C := cmp_any (ns.getD k 0) (ns.getD (bst (keys ns) k) 0)
        rcases side_not hs with e | e
        all_goals
          change Fl.side (key (ns.getD k 0)) (key (ns.getD (bst (keys ns) k) 0)) = _ at e
        · rw [e] at C
          have C' := Lib.hid C
          clear C e hs
          generalize bst (keys ns) k = m at *
          generalize ns.getD k 0 = x at *
          generalize ns.getD m 0 = y at *
          go_wp2_with (go_at_call 11; (with_reducible refine (C'.out _).mono ?_); rintro e w' ⟨rfl, rfl⟩)
          exact ⟨⟨k + 1, by omega, by go_num, by rw [E1.out]⟩, by simp [intOf]; omega⟩
        · rw [e] at C
          have C' := Lib.hid C
          clear C e hs
          generalize bst (keys ns) k = m at *
          generalize ns.getD k 0 = x at *
          generalize ns.getD m 0 = y at *
          go_wp2_with (go_at_call 11; (with_reducible refine (C'.out _).mono ?_); rintro e w' ⟨rfl, rfl⟩)
          exact ⟨⟨k + 1, by omega, by go_num, by rw [E1.out]⟩, by simp [intOf]; omega⟩
    · have : k = len := by omega
      subst this
      go_wp2
      go_ret2
      exact ⟨rfl, rfl⟩

theorem best_empty (a : Option Addr) (cap : Nat) (w : World) :
    Calls Try.prog 9 #[.slice a 0 cap] w fun e w' => e = .returned (.tuple #[.int .i64 0, .bool false]) ∧ w = w' := by
  go_enter Try.func9, Try.ntmps9
  go_wp2
  go_loop [4, 9] (fun v i => i = .int .i64 0 ∧ v = .int .i64 0) (fun _ _ => 0)
  case atStart => exact ⟨rfl, rfl⟩
  case round =>
    obtain ⟨rfl, rfl⟩ := hrel
    go_wp2
    go_ret2
    exact ⟨rfl, rfl⟩
end Go.Proofs.Ythknbmjobllonaa

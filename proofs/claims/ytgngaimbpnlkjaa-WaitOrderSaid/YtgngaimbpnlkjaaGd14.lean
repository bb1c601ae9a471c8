/- Plain facts of a register's seats: what holds of all of them, and what the laws of layer 14 ask. -/
import Derived.Test.YtgngaimbpnlkjaaPl14
namespace Go.Proofs.Ytgngaimbpnlkjaa

/-- what holds of every register's seats -/
structure GoodR (room : Nat) (ss : List Sx) : Prop where
  low : 1 ≤ room
  high : room ≤ 64
  len : ss.length ≤ room
  once : (ss.map Sx.w).Nodup
  may : ∀ s ∈ ss, mayW s.t s.w
theorem good_add {room : Nat} {ss : List Sx} (h : GoodR room ss) (t : Int) (x : Wt) : GoodR room (addS room ss t x) := by
  unfold addS
  by_cases k : addI room ss t x = 0
  · rw [if_pos k]
    unfold addI at k
    by_cases m : mayW t x
    · rw [if_pos m] at k
      by_cases a : waitsB ss x = true
      · rw [if_pos a] at k; cases k
      · rw [if_neg a] at k
        by_cases b : room ≤ ss.length
        · rw [if_pos b] at k; cases k
        · refine ⟨h.low, h.high, by rw [List.length_append, List.length_singleton]; omega, ?_, ?_⟩
          · rw [List.map_append, List.map_singleton, List.nodup_append]
            refine ⟨h.once, by simp, ?_⟩
            intro y hy z hz e
            rw [List.mem_singleton] at hz
            subst hz e
            obtain ⟨s, hs, e2⟩ := List.mem_map.1 hy
            apply a
            unfold waitsB
            rw [List.any_eq_true]
            exact ⟨s, hs, decide_eq_true e2⟩
          · intro s hs
            rw [List.mem_append, List.mem_singleton] at hs
            rcases hs with hs | rfl
            · exact h.may s hs
            · exact m
    · rw [if_neg m] at k; cases k
  · rw [if_neg k]; exact h
theorem good_filter {room : Nat} {ss : List Sx} (h : GoodR room ss) (f : Sx → Bool) : GoodR room (ss.filter f) :=
  ⟨h.low, h.high, Nat.le_trans (List.length_filter_le _ _) h.len, (List.Sublist.map _ List.filter_sublist).nodup h.once, fun s hs => h.may s (List.mem_filter.1 hs).1⟩
theorem good_nil {room : Nat} (h1 : 1 ≤ room) (h2 : room ≤ 64) : GoodR room [] := ⟨h1, h2, Nat.zero_le _, by simp, fun s hs => by cases hs⟩
end Go.Proofs.Ytgngaimbpnlkjaa

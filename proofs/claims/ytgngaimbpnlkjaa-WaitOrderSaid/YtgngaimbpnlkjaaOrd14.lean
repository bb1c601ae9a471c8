/- Plain facts of a register's order: who came, one behind the other. -/
import Derived.Test.YtgngaimbpnlkjaaOth14
namespace Go.Proofs.Ytgngaimbpnlkjaa

theorem sub_same {l c : List Wt} {x : Wt} (h : (l ++ [x]).Sublist (c ++ [x])) : l.Sublist c := by
  have h1 : ((l ++ [x]).reverse).Sublist ((c ++ [x]).reverse) := h.reverse
  simp only [List.reverse_append, List.reverse_singleton, List.singleton_append] at h1
  have h2 := h1.of_cons_cons
  have := h2.reverse
  simpa using this
theorem sub_other {l c : List Wt} {x y : Wt} (hn : y ≠ x) (h : (l ++ [x]).Sublist (c ++ [y])) : (l ++ [x]).Sublist c := by
  have h1 : ((l ++ [x]).reverse).Sublist ((c ++ [y]).reverse) := h.reverse
  simp only [List.reverse_append, List.reverse_singleton, List.singleton_append] at h1
  cases h1 with
  | cons _ h2 =>
    have := h2.reverse
    simpa using this
  | cons_cons _ h2 => exact absurd rfl hn
theorem take_last {α : Type} {l : List α} {j : Nat} {x : α} (h : l[j]? = some x) : l.take (j + 1) = l.take j ++ [x] := sxtake h
/-- all tickets together -/
def sumL (ss : List Sx) : Nat → Nat
  | 0 => 0
  | n + 1 => sumL ss n + (ofL ss ((n : Int) + 1)).length
theorem sum_nil : ∀ n, sumL [] n = 0 := by
  intro n
  induction n with
  | zero => rfl
  | succ n ih => show sumL [] n + _ = 0; rw [ih]; rfl
theorem sum_cons (s : Sx) (ss : List Sx) : ∀ n : Nat, sumL (s :: ss) n = sumL ss n + (if 1 ≤ s.t ∧ s.t ≤ (n : Int) then 1 else 0) := by
  intro n
  induction n with
  | zero =>
    show 0 = 0 + _
    rw [if_neg (by omega)]
  | succ n ih =>
    show sumL (s :: ss) n + (ofL (s :: ss) ((n : Int) + 1)).length = sumL ss n + (ofL ss ((n : Int) + 1)).length + _
    rw [ih]
    by_cases e : s.t = (n : Int) + 1
    · have : (ofL (s :: ss) ((n : Int) + 1)).length = (ofL ss ((n : Int) + 1)).length + 1 := by unfold ofL; simp [e]
      rw [this, if_neg (by omega), if_pos (by omega)]
      omega
    · have : (ofL (s :: ss) ((n : Int) + 1)).length = (ofL ss ((n : Int) + 1)).length := by unfold ofL; simp [e]
      rw [this]
      by_cases q : 1 ≤ s.t ∧ s.t ≤ (n : Int)
      · rw [if_pos q, if_pos (by omega)]; omega
      · rw [if_neg q, if_neg (by omega)]; omega
theorem sum_all {ss : List Sx} (h : ∀ s ∈ ss, 1 ≤ s.t ∧ s.t ≤ 9) : sumL ss 9 = ss.length := by
  induction ss with
  | nil => exact sum_nil 9
  | cons s l ih =>
    rw [sum_cons, ih (fun x hx => h x (by simp [hx])), if_pos (show 1 ≤ s.t ∧ s.t ≤ ((9 : Nat) : Int) from h s (by simp))]
    rfl
theorem sum_le (ss : List Sx) : ∀ n, sumL ss n ≤ n * ss.length := by
  intro n
  induction n with
  | zero => simp [sumL]
  | succ n ih =>
    show sumL ss n + _ ≤ _
    have := of_le ss ((n : Int) + 1)
    rw [Nat.succ_mul]
    omega
/-- what is kept of who came -/
structure Came (came : List Wt) (ss : List Sx) : Prop where
  sub : (ss.map Sx.w).Sublist came
  low : ∀ s ∈ ss, 1 ≤ s.t ∧ s.t ≤ 9
theorem came_nil : Came [] [] := ⟨by simp, fun s h => by cases h⟩
theorem Came.of {came : List Wt} {ss : List Sx} (h : Came came ss) (t : Int) : (ofL ss t).Sublist came := (List.Sublist.map _ List.filter_sublist).trans h.sub
theorem Came.add {came : List Wt} {ss : List Sx} (h : Came came ss) {t : Int} (x : Wt) (ht : 1 ≤ t ∧ t ≤ 9) : Came (came ++ [x]) (ss ++ [⟨t, x⟩]) := by
  refine ⟨?_, ?_⟩
  · rw [List.map_append]
    exact h.sub.append (List.Sublist.refl _)
  · intro s hs
    rw [List.mem_append, List.mem_singleton] at hs
    rcases hs with hs | rfl
    · exact h.low s hs
    · exact ht
theorem Came.take {came : List Wt} {ss : List Sx} (h : Came came ss) (t : Int) : Came came (leftT ss t) :=
  ⟨(List.Sublist.map _ List.filter_sublist).trans h.sub, fun s hs => h.low s (List.mem_filter.1 hs).1⟩
theorem of_waits {ss : List Sx} {t : Int} {x : Wt} (h : x ∈ ofL ss t) : waitsB ss x = true := by
  unfold ofL at h
  obtain ⟨s, h1, h2⟩ := List.mem_map.1 h
  unfold waitsB
  rw [List.any_eq_true]
  exact ⟨s, (List.mem_filter.1 h1).1, decide_eq_true h2⟩
end Go.Proofs.Ytgngaimbpnlkjaa

/- A lane held against a row of the law's own: plain facts. -/
import Derived.Test.YtjeiaialnanemaaLnAwake
namespace Go.Proofs.Ytjeiaialnanemaa
open Go.RowKit
set_option linter.unusedVariables false

/-- a slice that was made behind a world, beside what lay there -/
theorem Sg.told {w0 w w' : World} {A : Asr} {u : Value} {xs : List Int} (h : Sg w0 w A) (o : Only none_ w w') (ho : OwnsInts w' w.heap.size u xs) : Sg w0 w' (A.and (AI u xs)) := by
  have ho0 : OwnsInts w' 0 u xs := Owns.lower11 ho (Nat.zero_le _)
  obtain ⟨⟨M, a, l⟩, k⟩ := h
  have kk := k.size
  refine ⟨⟨fun g => M g ∨ u.ownBlock = some g, ⟨M, fun g => u.ownBlock = some g, A.keep a o (fun _ _ s => s), ⟨ho0, fun g => Iff.rfl⟩, fun g hg e => ?_, fun g => Iff.rfl⟩, fun g hg => ?_⟩, k.idle o⟩
  · have h1 := A.lt a g hg
    have h2 := (Owns.base_le ho e).1
    omega
  · rcases hg with hg | hg
    · exact l g hg
    · have h2 := (Owns.base_le ho hg).1
      omega
theorem Sg.ints {w0 w : World} {v : Value} {l : List Int} (h : Sg w0 w (AI v l)) : OwnsInts w 0 v l := by
  obtain ⟨⟨M, ⟨a, _⟩, _⟩, _⟩ := h
  exact a
theorem int_formb {w : World} {base : Nat} {v : Value} {l : List Int} (h : OwnsInts w base v l) : ∃ a n c, v = .slice a n c := by
  rcases h.2 with ⟨h0, _⟩ | ⟨g, cap, cur, hv, _⟩
  · exact ⟨none, 0, 0, h0⟩
  · exact ⟨_, _, _, hv⟩
theorem out_yes {l : List Int} {x : Int} {k : Nat} {y : Int} (h : l[k]? = some y) (e : y ≠ x) : outI (l.take (k + 1)) x = outI (l.take k) x ++ [y] := by
  unfold outI
  rw [List.take_add_one, h, List.filter_append]
  simp [e]
theorem out_skip {l : List Int} {x : Int} {k : Nat} {y : Int} (h : l[k]? = some y) (e : y = x) : outI (l.take (k + 1)) x = outI (l.take k) x := by
  unfold outI
  rw [List.take_add_one, h, List.filter_append]
  simp [e]
theorem out_le (l : List Int) (x : Int) : (outI l x).length ≤ l.length := List.length_filter_le _ _
theorem out_all {l : List Int} {x : Int} {k : Nat} (h : l.length ≤ k) : outI (l.take k) x = outI l x := by rw [List.take_of_length_le h]
theorem lane_push_yes {n room : Nat} {ss : List Sd} {b x : Int} (h : pushC n room ss b x = 0) : laneL (pushS n room ss b x) b = laneL ss b ++ [x] := by
  unfold pushS
  rw [if_pos h, lane_more, if_pos rfl]
theorem lane_push_no {n room : Nat} {ss : List Sd} {b x o : Int} (h : pushC n room ss b x ≠ 0 ∨ b ≠ o) : laneL (pushS n room ss b x) o = laneL ss o := by
  unfold pushS
  split
  · rename_i e
    rw [lane_more, if_neg (h.resolve_left (fun k => k e))]
  · rfl
theorem lane_pull {ss : List Sd} (h : Once ss) (x b : Int) : laneL (pullS ss x) b = outI (laneL ss b) x := by rw [pull_cut h, lane_cut]
/-- the ends of a row that isn't empty -/
theorem ends_at {w : World} {v : Value} {l : List Int} (h : Reads w v l) (hl : l ≠ []) : ∃ m cap g o, v = .slice (some ⟨g, o, none⟩) (m + 1) cap ∧ l.length = m + 1 ∧ w.cell? ⟨g, o, none⟩ = some (.int .i64 (headI l)) ∧ w.cell? ⟨g, o + m, none⟩ = some (.int .i64 (lastI l)) ∧ someB l = true := by
  obtain ⟨a, cap, rfl, hc⟩ := h
  obtain ⟨x, r, rfl⟩ : ∃ x r, l = x :: r := by cases l with | nil => exact absurd rfl hl | cons x r => exact ⟨x, r, rfl⟩
  obtain ⟨g, o, rfl, c0⟩ := hc 0 x rfl
  have hm : (x :: r).length = r.length + 1 := rfl
  obtain ⟨y, hy⟩ : ∃ y, (x :: r)[r.length]? = some y := ⟨_, List.getElem?_eq_getElem (by simp)⟩
  obtain ⟨g', o', e, c1⟩ := hc r.length y hy
  injection e with e
  injection e with e1 e2
  subst e1 e2
  refine ⟨r.length, cap, g, o, by rw [hm], hm, c0, ?_, rfl⟩
  have : lastI (x :: r) = y := by unfold lastI; rw [List.getLast?_eq_getElem?, hm, Nat.add_sub_cancel, hy]; rfl
  rw [this]
  exact c1
end Go.Proofs.Ytjeiaialnanemaa

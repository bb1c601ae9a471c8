/- What stands in one lane, apart from all others: plain facts. -/
import Derived.Test.YtjeiaialnanemaaLnAwake
namespace Go.Proofs.Ytjeiaialnanemaa
open Go.RowKit
set_option linter.unusedVariables false

/-- what stands in one lane -/
def ownS (ss : List Sd) (o : Int) : List Sd := ss.filter (fun s => s.b == o)
theorem lane_own (ss : List Sd) (o : Int) : laneL (ownS ss o) o = laneL ss o := by
  unfold laneL ownS
  rw [List.filter_filter]
  simp
theorem own_len11 (ss : List Sd) (o : Int) : (ownS ss o).length = (laneL ss o).length := by
  unfold laneL ownS
  rw [List.length_map]
theorem own_le (ss : List Sd) (o : Int) : (ownS ss o).length ≤ ss.length := List.length_filter_le _ _
theorem own_more (ss : List Sd) (o x : Int) : ownS (ss ++ [⟨o, x⟩]) o = ownS ss o ++ [⟨o, x⟩] := by
  unfold ownS
  rw [List.filter_append, List.filter_cons_of_pos (by simp)]; rfl
theorem own_other (ss : List Sd) {o b : Int} (x : Int) (h : b ≠ o) : ownS (ss ++ [⟨b, x⟩]) o = ownS ss o := by
  unfold ownS
  rw [List.filter_append, List.filter_cons_of_neg (by simpa using h)]; simp
theorem own_cut (ss : List Sd) (o x : Int) : ownS (cutK ss x) o = cutK (ownS ss o) x := by
  unfold ownS cutK
  rw [List.filter_filter, List.filter_filter]
  apply List.filter_congr
  intro s _
  simp [Bool.and_comm]
theorem own_has {ss : List Sd} (h : Once ss) (o x : Int) : hasK (ownS ss o) x = (hasK ss x && blockI ss x == o) := by
  rw [Bool.eq_iff_iff, Bool.and_eq_true, hasK_iff]
  constructor
  · rintro ⟨s, hs, rfl⟩
    obtain ⟨h1, h2⟩ := List.mem_filter.1 hs
    exact ⟨hasK_iff.2 ⟨s, h1, rfl⟩, by rw [blockI_of h h1]; exact h2⟩
  · rintro ⟨hk, hb⟩
    obtain ⟨s, hs, rfl⟩ := hasK_iff.1 hk
    rw [blockI_of h hs] at hb
    exact ⟨s, List.mem_filter.2 ⟨hs, hb⟩, rfl⟩
theorem cut_not {ss : List Sd} {x : Int} (h : hasK ss x = false) : cutK ss x = ss := by
  unfold cutK
  rw [List.filter_eq_self]
  intro s hs
  have : s.k ≠ x := fun e => by
    have : hasK ss x = true := hasK_iff.2 ⟨s, hs, e⟩
    rw [h] at this; cases this
  simpa using this
theorem push_has (n room : Nat) (ss : List Sd) (b x : Int) : pushC n room ss b x = if 0 ≤ b ∧ b < n ∧ 1 ≤ x then (if hasK ss x then 4 else if room ≤ ss.length then 2 else 0) else 1 := by
  unfold pushC
  rw [tk_has]
/-- a ticket that stands nowhere is pushed into the lane: alone it is just so -/
theorem own_push {ss : List Sd} (h : Once ss) (o x : Int) (hk : hasK ss x = false) (hl : ss.length < 128) : pushC 256 128 (ownS ss o) o x = pushC 256 128 ss o x ∧ pushS 256 128 (ownS ss o) o x = ownS (pushS 256 128 ss o x) o := by
  have h1 := own_le ss o
  have e : pushC 256 128 (ownS ss o) o x = pushC 256 128 ss o x := by
    rw [push_has, push_has, own_has h, hk, Bool.false_and, if_neg (show ¬ 128 ≤ (ownS ss o).length by omega), if_neg (show ¬ 128 ≤ ss.length by omega)]
  refine ⟨e, ?_⟩
  unfold pushS
  rw [e]
  split
  · rw [own_more]
  · rfl
theorem own_push_mine {ss : List Sd} (h : Once ss) {o b : Int} (x : Int) (hb : b = o) (hk : hasK ss x = false) (hl : ss.length < 128) : pushC 256 128 (ownS ss o) b x = pushC 256 128 ss b x ∧ pushS 256 128 (ownS ss o) b x = ownS (pushS 256 128 ss b x) o := by
  subst hb
  exact own_push h b x hk hl
theorem own_push_no {ss : List Sd} {o b : Int} (x : Int) (hb : b ≠ o) : ownS (pushS 256 128 ss b x) o = ownS ss o := by
  unfold pushS
  split
  · rw [own_other _ _ hb]
  · rfl
/-- a ticket that stands in the lane is pulled -/
theorem own_pull {ss : List Sd} (h : Once ss) (o x : Int) (hk : hasK ss x = true) (hb : blockI ss x = o) : pullC (ownS ss o) x = pullC ss x ∧ pullS (ownS ss o) x = ownS (pullS ss x) o := by
  have h2 : Once (ownS ss o) := h.filter _
  refine ⟨?_, ?_⟩
  · unfold pullC
    rw [tk_has, tk_has, own_has h, hk, hb]; simp
  · rw [pull_cut h, pull_cut h2, own_cut]
theorem own_pull_no {ss : List Sd} (h : Once ss) (o x : Int) (hb : hasK ss x = false ∨ blockI ss x ≠ o) : ownS (pullS ss x) o = ownS ss o := by
  rw [pull_cut h, own_cut, cut_not]
  rw [own_has h]
  rcases hb with hb | hb
  · rw [hb, Bool.false_and]
  · rw [Bool.and_eq_false_iff]
    exact .inr (by simpa using hb)
theorem pushS_one {n room : Nat} {ss : List Sd} {b x : Int} : (pushS n room ss b x).length ≤ ss.length + 1 := by
  unfold pushS
  split
  · simp
  · omega
theorem sg_new256 (w0 w : World) {B : Asr} (h : Sg w0 w B) :
    Calls Try.prog 9 #[.int .i64 256, .int .i64 128] w fun e w' => ∃ p, e = .returned (.tuple #[.pointer (some ⟨p, 0, none⟩), .int .i64 0]) ∧ Sg w0 w' ((AL p 256 128 []).and B) ∧ Only none_ w w' := sg_new 256 128 w0 w h (by decide) (by decide) (by decide) (by decide)
end Go.Proofs.Ytjeiaialnanemaa

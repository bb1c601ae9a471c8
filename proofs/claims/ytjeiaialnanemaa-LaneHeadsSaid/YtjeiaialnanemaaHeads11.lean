/- All lanes together: plain facts. -/
import Derived.Test.YtjeiaialnanemaaLnAwake
import Derived.Test.YtjeiaialnanemaaOrder11
namespace Go.Proofs.Ytjeiaialnanemaa
open Go.RowKit
set_option linter.unusedVariables false

/-- how many stand in the first lanes -/
def cntL (ss : List Sd) (k : Nat) : Nat := (ss.filter (fun s => decide (s.b < (k : Int)))).length
theorem cnt_zero {ss : List Sd} (h : ∀ s ∈ ss, 0 ≤ s.b) : cntL ss 0 = 0 := by
  unfold cntL
  rw [List.length_eq_zero_iff, List.filter_eq_nil_iff]
  intro s hs
  have := h s hs
  simp
  omega
theorem cnt_more : ∀ (ss : List Sd) (k : Nat), cntL ss (k + 1) = cntL ss k + (laneL ss (k : Int)).length
  | [], k => rfl
  | s :: r, k => by
    have ih := cnt_more r k
    unfold cntL laneL at ih ⊢
    rw [List.length_map] at ih ⊢
    simp only [List.filter_cons]
    by_cases h1 : s.b < (k : Int)
    · have h2 : s.b < ((k + 1 : Nat) : Int) := by omega
      have h3 : (s.b == (k : Int)) = false := by simp; omega
      rw [if_pos (by simpa using h2), if_pos (by simpa using h1), h3]
      simp only [List.length_cons, Bool.false_eq_true, if_false]
      omega
    · by_cases h2 : s.b = (k : Int)
      · have h3 : s.b < ((k + 1 : Nat) : Int) := by omega
        have h4 : (s.b == (k : Int)) = true := by simp [h2]
        rw [if_pos (by simpa using h3), if_neg (by simpa using h1), h4]
        simp only [List.length_cons, if_true]
        omega
      · have h3 : ¬ s.b < ((k + 1 : Nat) : Int) := by omega
        have h4 : (s.b == (k : Int)) = false := by simpa using h2
        rw [if_neg (by simpa using h3), if_neg (by simpa using h1), h4]
        simp only [Bool.false_eq_true, if_false]
        omega
theorem cnt_all {ss : List Sd} {n : Nat} (h : ∀ s ∈ ss, 0 ≤ s.b ∧ s.b < (n : Int)) : cntL ss n = ss.length := by
  unfold cntL
  congr 1
  rw [List.filter_eq_self]
  intro s hs
  have := (h s hs).2
  simpa using this
theorem cnt_le (ss : List Sd) (k : Nat) : cntL ss k ≤ ss.length := List.length_filter_le _ _
/-- what stands in a lane stands in its block -/
theorem lane_at {ss : List Sd} (h : Once ss) {b : Int} {k : Nat} {y : Int} (hy : (laneL ss b)[k]? = some y) : blockI ss y = b ∧ (tkAt ss y).isSome = true ∧ ∃ s ∈ ss, s.k = y := by
  have hm := List.mem_of_getElem? hy
  obtain ⟨s, hs, rfl⟩ := List.mem_map.1 hm
  obtain ⟨h1, h2⟩ := List.mem_filter.1 hs
  have h2 : s.b = b := by simpa using h2
  exact ⟨by rw [blockI_of h h1, h2], by rw [tk_has, hasK_iff]; exact ⟨s, h1, rfl⟩, s, h1, rfl⟩
/-- all tickets are numbers as the language has them -/
def WfK (ss : List Sd) : Prop := ∀ s ∈ ss, (Lit.int .i64 s.k).wf = true
theorem WfK.push {ss : List Sd} (h : WfK ss) (n room : Nat) {b x : Int} (hx : (Lit.int .i64 x).wf = true) : WfK (pushS n room ss b x) := by
  unfold pushS
  split
  · intro s hs
    rcases List.mem_append.1 hs with hs | hs
    · exact h s hs
    · rw [List.mem_singleton.1 hs]; exact hx
  · exact h
theorem WfK.pull {ss : List Sd} (h : WfK ss) (o : Once ss) (x : Int) : WfK (pullS ss x) := by
  rw [pull_cut o]
  exact fun s hs => h s (List.mem_filter.1 hs).1
theorem sg_new8 (w0 w : World) {B : Asr} (h : Sg w0 w B) :
    Calls Try.prog 9 #[.int .i64 8, .int .i64 128] w fun e w' => ∃ p, e = .returned (.tuple #[.pointer (some ⟨p, 0, none⟩), .int .i64 0]) ∧ Sg w0 w' ((AL p 8 128 []).and B) ∧ Only none_ w w' := sg_new 8 128 w0 w h (by decide) (by decide) (by decide) (by decide)
end Go.Proofs.Ytjeiaialnanemaa

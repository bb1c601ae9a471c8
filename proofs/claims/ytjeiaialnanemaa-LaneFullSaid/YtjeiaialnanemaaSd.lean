/- Tickets, each with the block in whose lane it stands: plain facts. -/
import Derived.Test.YtjeiaialnanemaaHeap
namespace Go.Proofs.Ytjeiaialnanemaa
set_option linter.unusedVariables false

/-- a ticket k that stands in block b's lane -/
structure Sd where
  b : Int
  k : Int
  deriving DecidableEq
instance : Inhabited Sd := ⟨⟨0, 0⟩⟩
def Sd.cells (s : Sd) : List Value := [.int .i64 s.b, .int .i64 s.k]
theorem sd2 : ∀ s : Sd, s.cells.length = 2 := fun _ => rfl
theorem sd_one : ∀ s : Sd, ∀ u ∈ s.cells, u.oneCell' = true := fun s u hu => by
  simp only [Sd.cells, List.mem_cons, List.not_mem_nil, or_false] at hu
  rcases hu with rfl | rfl <;> rfl
/-- the place of a ticket -/
def tkAt (ss : List Sd) (x : Int) : Option Nat := ss.findIdx? (fun s => s.k == x)
def tkI (ss : List Sd) (x : Int) : Int := match tkAt ss x with | some k => k | none => -1
theorem tk_at {ss : List Sd} {x : Int} {k : Nat} {s : Sd} (h : ss[k]? = some s) (hx : s.k = x) (hb : ∀ (j : Nat) a, j < k → ss[j]? = some a → a.k ≠ x) : tkAt ss x = some k := by
  have hk := lt_of_get h
  unfold tkAt
  rw [List.findIdx?_eq_some_iff_getElem]
  refine ⟨hk, ?_, fun j hj => ?_⟩
  · rw [List.getElem?_eq_getElem hk] at h
    injection h with h
    rw [h]; simp [hx]
  · have := hb j ss[j] hj (List.getElem?_eq_getElem (by omega))
    simp [this]
theorem tk_no {ss : List Sd} {x : Int} (hb : ∀ (j : Nat) a, ss[j]? = some a → a.k ≠ x) : tkAt ss x = none := by
  unfold tkAt
  rw [List.findIdx?_eq_none_iff]
  intro a ha
  obtain ⟨j, hj, rfl⟩ := List.getElem_of_mem ha
  simpa using hb j _ (List.getElem?_eq_getElem hj)
theorem tk_of {ss : List Sd} {x : Int} {k : Nat} (h : tkAt ss x = some k) : ∃ s, ss[k]? = some s ∧ s.k = x ∧ ∀ (j : Nat) a, j < k → ss[j]? = some a → a.k ≠ x := by
  unfold tkAt at h
  rw [List.findIdx?_eq_some_iff_getElem] at h
  obtain ⟨hk, h1, h2⟩ := h
  refine ⟨ss[k], List.getElem?_eq_getElem hk, by simpa using h1, fun j b hj hb => ?_⟩
  have := h2 j hj
  rw [List.getElem?_eq_getElem (by omega)] at hb
  injection hb with hb
  rw [hb] at this
  simpa using this
theorem tk_none {ss : List Sd} {x : Int} (h : tkAt ss x = none) : ∀ (j : Nat) a, ss[j]? = some a → a.k ≠ x := by
  unfold tkAt at h
  rw [List.findIdx?_eq_none_iff] at h
  intro j b hb
  simpa using h b (List.mem_of_getElem? hb)
/-- a lane: its tickets, in order -/
def laneL (ss : List Sd) (b : Int) : List Int := (ss.filter (fun s => s.b == b)).map (·.k)
theorem lane_yes {ss : List Sd} {b : Int} {k : Nat} {y : Sd} (h : ss[k]? = some y) (e : y.b = b) : laneL (ss.take (k + 1)) b = laneL (ss.take k) b ++ [y.k] := by
  unfold laneL
  rw [List.take_add_one, h]
  simp [e]
theorem lane_skip {ss : List Sd} {b : Int} {k : Nat} {y : Sd} (h : ss[k]? = some y) (e : y.b ≠ b) : laneL (ss.take (k + 1)) b = laneL (ss.take k) b := by
  unfold laneL
  rw [List.take_add_one, h]
  simp [e]
theorem lane_le (ss : List Sd) (b : Int) : (laneL ss b).length ≤ ss.length := by
  unfold laneL
  rw [List.length_map]
  exact List.length_filter_le _ _
theorem lane_all {ss : List Sd} {b : Int} {k : Nat} (h : ss.length ≤ k) : laneL (ss.take k) b = laneL ss b := by rw [List.take_of_length_le h]
def headI (l : List Int) : Int := l.head?.getD 0
def lastI (l : List Int) : Int := l.getLast?.getD 0
def someB (l : List Int) : Bool := !l.isEmpty
/-- the heads of the first lanes -/
def headsL (ss : List Sd) (n : Nat) : List Int := (List.range n).filterMap (fun b : Nat => (laneL ss (b : Int)).head?)
theorem heads_yes {ss : List Sd} {n : Nat} {x : Int} {r : List Int} (h : laneL ss (n : Int) = x :: r) : headsL ss (n + 1) = headsL ss n ++ [x] := by
  unfold headsL
  rw [List.range_succ, List.filterMap_append]
  simp [h]
theorem heads_skip {ss : List Sd} {n : Nat} (h : laneL ss (n : Int) = []) : headsL ss (n + 1) = headsL ss n := by
  unfold headsL
  rw [List.range_succ, List.filterMap_append]
  simp [h]
theorem heads_le (ss : List Sd) (n : Nat) : (headsL ss n).length ≤ n := by
  unfold headsL
  exact Nat.le_trans (List.length_filterMap_le _ _) (by simp)
/-- what is pushed and pulled -/
def pushC (n room : Nat) (ss : List Sd) (b x : Int) : Int := if 0 ≤ b ∧ b < n ∧ 1 ≤ x then (if (tkAt ss x).isSome then 4 else if room ≤ ss.length then 2 else 0) else 1
def pushS (n room : Nat) (ss : List Sd) (b x : Int) : List Sd := if pushC n room ss b x = 0 then ss ++ [⟨b, x⟩] else ss
def pullC (ss : List Sd) (x : Int) : Int := if (tkAt ss x).isSome then 0 else 3
def blockI (ss : List Sd) (x : Int) : Int := match tkAt ss x with | some k => (ss[k]?.getD default).b | none => 0
def pullS (ss : List Sd) (x : Int) : List Sd := match tkAt ss x with | some k => ss.take k ++ ss.drop (k + 1) | none => ss
end Go.Proofs.Ytjeiaialnanemaa

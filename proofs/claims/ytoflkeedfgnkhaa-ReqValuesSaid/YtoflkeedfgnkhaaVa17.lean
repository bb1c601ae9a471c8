/- Places that are given one behind the other, each once, in whatever odd steps: plain facts. -/
import Derived.Test.YtoflkeedfgnkhaaPl17
namespace Go.Proofs.Ytoflkeedfgnkhaa
open Go.RowKit
set_option linter.unusedVariables false

/-- the place that is given i-th -/
def kkV (a b i : Nat) : Nat := (a + i * b) % 8
def givV (a b i j : Nat) : Bool := (List.range i).any (fun s => kkV a b s == j)
def leftV (a b n i : Nat) : Nat := ((List.range n).filter (fun j => !givV a b i j)).length
theorem facts17 : ∀ a : Fin 8, ∀ c : Fin 4, ∀ n : Fin 8, ∀ i : Fin 8, (givV a (2 * c + 1) i (kkV a (2 * c + 1) i) = false) ∧ leftV a (2 * c + 1) (n + 1) 8 = 0 ∧
    (if kkV a (2 * c + 1) i < n + 1 then leftV a (2 * c + 1) (n + 1) i = leftV a (2 * c + 1) (n + 1) (i + 1) + 1 else leftV a (2 * c + 1) (n + 1) i = leftV a (2 * c + 1) (n + 1) (i + 1)) := by decide +kernel
theorem kkV_lt (a b i : Nat) : kkV a b i < 8 := Nat.mod_lt _ (by decide)
theorem givV_succ (a b i j : Nat) : givV a b (i + 1) j = (givV a b i j || kkV a b i == j) := by
  unfold givV
  rw [List.range_succ, List.any_append]
  simp
def plV (a b n i : Nat) : List Nat := (List.range n).map (fun j => if givV a b i j then 1 else 0)
def vsV (f : Nat → Int) (a b n i : Nat) : List Int := (List.range n).map (fun j => if givV a b i j then f j else 0)
def rqV (f : Nat → Int) (a b n i : Nat) : Rq := ⟨3, 1, plV a b n i, vsV f a b n i⟩
def stV (f : Nat → Int) (a b n i : Nat) : Tq := if leftV a b n i = 0 then ⟨[], [⟨3, 0, (List.range n).map f⟩]⟩ else ⟨[rqV f a b n i], []⟩
theorem plV_len (a b n i : Nat) : (plV a b n i).length = n := by unfold plV; rw [List.length_map, List.length_range]
theorem plV_get (a b n i : Nat) {j : Nat} (h : j < n) : (plV a b n i)[j]? = some (if givV a b i j then 1 else 0) := by
  unfold plV
  rw [List.getElem?_map, List.getElem?_range h]
  rfl
theorem map_set {α : Type} (n k : Nat) (g g' : Nat → α) (x : α) (hx : g' k = x) (h : ∀ j, j ≠ k → g j = g' j) : ((List.range n).map g).set k x = (List.range n).map g' := by
  apply List.ext_getElem?
  intro j
  rw [List.getElem?_set, List.getElem?_map, List.getElem?_map]
  by_cases e : k = j
  · subst e
    rw [if_pos rfl, List.length_map, List.length_range]
    by_cases l : k < n
    · rw [if_pos l, List.getElem?_range l]
      simp [hx]
    · rw [if_neg l, List.getElem?_eq_none (by rw [List.length_range]; omega)]
      rfl
  · rw [if_neg e]
    by_cases l : j < n
    · rw [List.getElem?_range l]
      simp [h j (fun q => e q.symm)]
    · rw [List.getElem?_eq_none (by rw [List.length_range]; omega)]
      rfl
theorem mark_rqV (f : Nat → Int) (a b n i : Nat) : mark (kkV a b i) 1 (f (kkV a b i)) (rqV f a b n i) = rqV f a b n (i + 1) := by
  unfold mark rqV
  congr 1
  · refine map_set n _ _ _ 1 ?_ (fun j hj => ?_)
    · rw [givV_succ]; simp
    · rw [givV_succ]
      have : (kkV a b i == j) = false := by simp; exact fun q => hj q.symm
      rw [this, Bool.or_false]
  · refine map_set n _ _ _ _ ?_ (fun j hj => ?_)
    · rw [givV_succ]; simp
    · rw [givV_succ]
      have : (kkV a b i == j) = false := by simp; exact fun q => hj q.symm
      rw [this, Bool.or_false]
theorem left_zero (a b n i : Nat) : leftV a b n i = 0 ↔ ∀ j, j < n → givV a b i j = true := by
  unfold leftV
  rw [List.length_eq_zero_iff, List.filter_eq_nil_iff]
  constructor
  · intro h j hj
    have := h j (List.mem_range.2 hj)
    simpa using this
  · intro h j hj
    rw [h j (List.mem_range.1 hj)]
    decide
theorem done_rqV (f : Nat → Int) (a b n i : Nat) : doneQ (rqV f a b n i) = decide (leftV a b n i = 0) := by
  rw [Bool.eq_iff_iff, decide_eq_true_iff, left_zero]
  unfold doneQ rqV plV
  rw [List.all_eq_true]
  constructor
  · intro h j hj
    have := h _ (List.mem_map.2 ⟨j, List.mem_range.2 hj, rfl⟩)
    cases hg : givV a b i j with
    | true => rfl
    | false => rw [hg] at this; simp at this
  · intro h x hx
    obtain ⟨j, hj, rfl⟩ := List.mem_map.1 hx
    rw [h j (List.mem_range.1 hj)]
    decide
theorem lost_rqV (f : Nat → Int) (a b n i : Nat) : lostQ (rqV f a b n i) = false := by
  unfold lostQ rqV plV
  rw [List.any_eq_false]
  intro x hx
  obtain ⟨j, _, rfl⟩ := List.mem_map.1 hx
  split <;> decide
theorem ans_rqV (f : Nat → Int) (a b n i : Nat) (h : leftV a b n i = 0) : ansQ (rqV f a b n i) = ⟨3, 0, (List.range n).map f⟩ := by
  unfold ansQ codeQ valsQ
  rw [lost_rqV]
  have e : (rqV f a b n i).vs = (List.range n).map f := by
    show vsV f a b n i = _
    unfold vsV
    apply List.map_congr_left
    intro j hj
    rw [(left_zero a b n i).1 h j (List.mem_range.1 hj)]
    rfl
  simp only [Bool.false_eq_true, if_false]
  rw [if_pos (show (rqV f a b n i).kind = 1 from rfl), e]
  rfl
theorem find_rqV (f : Nat → Int) (a b n i : Nat) : findQ [rqV f a b n i] 3 = some (rqV f a b n i) := rfl
/-- the next place: there is one, and it is open -/
theorem step_in (f : Nat → Int) {a b n i : Nat} (h0 : givV a b i (kkV a b i) = false) (hk : kkV a b i < n) (hl : leftV a b n i ≠ 0) :
    putI (stV f a b n i).rs 3 (kkV a b i) = 0 ∧ putS (stV f a b n i) 3 (kkV a b i) 1 (f (kkV a b i)) = stV f a b n (i + 1) := by
  have e : stV f a b n i = ⟨[rqV f a b n i], []⟩ := if_neg hl
  have p0 : putI [rqV f a b n i] 3 (kkV a b i) = 0 := by
    unfold putI
    rw [find_rqV]
    dsimp only
    rw [show (rqV f a b n i).pl = plV a b n i from rfl, plV_len, if_pos (by omega), Int.toNat_natCast, plV_get a b n i hk, h0]
    rfl
  rw [e]
  refine ⟨p0, ?_⟩
  unfold putS
  rw [show (⟨[rqV f a b n i], []⟩ : Tq).rs = [rqV f a b n i] from rfl, find_rqV]
  dsimp only
  rw [if_pos p0, Int.toNat_natCast, mark_rqV, done_rqV]
  unfold stV
  by_cases z : leftV a b n (i + 1) = 0
  · rw [if_pos (decide_eq_true z), if_pos z, ans_rqV f a b n (i + 1) z]
    rfl
  · rw [if_neg (by rw [decide_eq_false z]; decide), if_neg z]
    congr 1
    show [if (rqV f a b n i).id = 3 then mark (kkV a b i) 1 (f (kkV a b i)) (rqV f a b n i) else rqV f a b n i] = _
    rw [if_pos (show (rqV f a b n i).id = 3 from rfl), mark_rqV]
/-- .. there is none -/
theorem step_out (f : Nat → Int) {a b n i : Nat} (hk : ¬ kkV a b i < n) (hl : leftV a b n i = leftV a b n (i + 1)) :
    putI (stV f a b n i).rs 3 (kkV a b i) = (if leftV a b n i = 0 then 3 else 1) ∧ putS (stV f a b n i) 3 (kkV a b i) 1 (f (kkV a b i)) = stV f a b n (i + 1) := by
  have same : stV f a b n i = stV f a b n (i + 1) := by
    unfold stV
    rw [← hl]
    split
    · rfl
    · congr 2
      have q : ∀ j, j ∈ List.range n → givV a b i j = givV a b (i + 1) j := fun j hj => by
        rw [givV_succ]
        have : (kkV a b i == j) = false := by simp; have := List.mem_range.1 hj; omega
        rw [this, Bool.or_false]
      unfold rqV plV vsV
      congr 1
      · apply List.map_congr_left
        intro j hj
        rw [q j hj]
      · apply List.map_congr_left
        intro j hj
        rw [q j hj]
  rw [← same]
  by_cases z : leftV a b n i = 0
  · have e : stV f a b n i = ⟨[], [⟨3, 0, (List.range n).map f⟩]⟩ := if_pos z
    rw [e, if_pos z]
    exact ⟨rfl, rfl⟩
  · have e : stV f a b n i = ⟨[rqV f a b n i], []⟩ := if_neg z
    rw [e, if_neg z]
    have p1 : putI [rqV f a b n i] 3 (kkV a b i) = 1 := by
      unfold putI
      rw [find_rqV]
      dsimp only
      rw [show (rqV f a b n i).pl = plV a b n i from rfl, plV_len, if_neg (by omega)]
    refine ⟨p1, ?_⟩
    unfold putS
    rw [show (⟨[rqV f a b n i], []⟩ : Tq).rs = [rqV f a b n i] from rfl, find_rqV]
    dsimp only
    rw [if_neg (by rw [p1]; decide)]
theorem stV_len (f : Nat → Int) (a b n i : Nat) : (stV f a b n i).rs.length = min (leftV a b n i) 1 := by
  unfold stV
  split
  · rename_i z; rw [z]; rfl
  · rename_i z; show 1 = _; omega
theorem stV_touched (f : Nat → Int) {a b n i : Nat} (hk : kkV a b i < n) : touchedB (stV f a b n (i + 1)).rs 3 = decide (0 < leftV a b n (i + 1)) := by
  unfold stV
  by_cases z : leftV a b n (i + 1) = 0
  · rw [if_pos z, decide_eq_false (by omega)]; rfl
  · rw [if_neg z, decide_eq_true (by omega)]
    show (rqV f a b n (i + 1)).pl.any _ = true
    rw [List.any_eq_true]
    refine ⟨1, List.mem_of_getElem? (i := kkV a b i) ?_, rfl⟩
    show (plV a b n (i + 1))[kkV a b i]? = _
    rw [plV_get a b n (i + 1) hk, givV_succ]
    simp
theorem stV_start (f : Nat → Int) (a b n : Nat) (h1 : 1 ≤ n) (h8 : n ≤ 8) : stV f a b n 0 = ⟨[newQ 3 1 n], []⟩ ∧ openI 1 [] 3 1 n = 0 ∧ openS 1 [] 3 1 n = [newQ 3 1 n] ∧ leftV a b n 0 = n := by
  have l : leftV a b n 0 = n := by
    unfold leftV
    rw [show (List.range n).filter (fun j => !givV a b 0 j) = List.range n from List.filter_eq_self.2 (fun j _ => rfl), List.length_range]
  have o : openI 1 [] 3 1 n = 0 := by
    unfold openI
    rw [if_pos (by unfold mayO; omega)]
    rfl
  refine ⟨?_, o, if_pos o, l⟩
  unfold stV
  rw [if_neg (by omega)]
  unfold rqV newQ plV vsV
  congr 3
  · rw [Int.toNat_natCast]
    apply List.ext_getElem?
    intro j
    rw [List.getElem?_map, List.getElem?_replicate]
    by_cases k : j < n
    · rw [List.getElem?_range k, if_pos k]; rfl
    · rw [List.getElem?_eq_none (by rw [List.length_range]; omega), if_neg k]; rfl
  · rw [Int.toNat_natCast]
    apply List.ext_getElem?
    intro j
    rw [List.getElem?_map, List.getElem?_replicate]
    by_cases k : j < n
    · rw [List.getElem?_range k, if_pos k]; rfl
    · rw [List.getElem?_eq_none (by rw [List.length_range]; omega), if_neg k]; rfl
end Go.Proofs.Ytoflkeedfgnkhaa

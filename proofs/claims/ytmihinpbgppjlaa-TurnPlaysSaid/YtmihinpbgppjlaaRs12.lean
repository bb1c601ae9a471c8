/- Rows of places, told plainly: where a ticket stands, what a change makes of each row. -/
import Derived.Test.YtmihinpbgppjlaaSl12
namespace Go.Proofs.Ytmihinpbgppjlaa
open Go.RowKit
set_option linter.unusedVariables false

def Sl.cells (s : Sl) : List Value := [.int .i64 s.k, .bool s.s]
theorem sl2 (s : Sl) : s.cells.length = 2 := rfl
theorem sl_one : ∀ y : Sl, ∀ u ∈ y.cells, u.oneCell' = true := fun y u hu => by
  simp [Sl.cells] at hu
  rcases hu with rfl | rfl <;> rfl
/-- where a ticket stands in a row; -1: nowhere -/
def ixL (l : List Sl) (x : Int) : Int := match l.findIdx? (fun s => s.k == x) with | some i => (i : Int) | none => -1
theorem ix_at {l : List Sl} {x : Int} {k : Nat} {y : Sl} (hy : l[k]? = some y) (e : y.k = x) (hn : ∀ j a, j < k → l[j]? = some a → a.k ≠ x) : ixL l x = k := by
  have : l.findIdx? (fun s => s.k == x) = some k := by
    rw [List.findIdx?_eq_some_iff_getElem]
    have hk := lt_of_get hy
    refine ⟨hk, ?_, fun j hj => ?_⟩
    · rw [List.getElem?_eq_getElem hk] at hy
      rw [Option.some.inj hy]; simp [e]
    · have := hn j l[j] hj (List.getElem?_eq_getElem (by omega))
      simpa using this
  unfold ixL
  rw [this]
theorem ix_no {l : List Sl} {x : Int} (hn : ∀ (j : Nat) (a : Sl), l[j]? = some a → a.k ≠ x) : ixL l x = -1 := by
  have : l.findIdx? (fun s => s.k == x) = none := by
    rw [List.findIdx?_eq_none_iff]
    intro a ha
    obtain ⟨i, hi, e⟩ := List.getElem_of_mem ha
    have := hn i a (by rw [List.getElem?_eq_getElem hi, e])
    simpa using this
  unfold ixL
  rw [this]
/-- it stands somewhere, or nowhere -/
theorem ix_cases (l : List Sl) (x : Int) : (∃ i y, ixL l x = (i : Nat) ∧ l[i]? = some y ∧ y.k = x) ∨ (ixL l x = -1 ∧ ∀ a ∈ l, a.k ≠ x) := by
  cases h : l.findIdx? (fun s => s.k == x) with
  | some i =>
    obtain ⟨hi, h1, _⟩ := List.findIdx?_eq_some_iff_getElem.1 h
    refine .inl ⟨i, l[i], ?_, List.getElem?_eq_getElem hi, by simpa using h1⟩
    unfold ixL
    rw [h]
  | none =>
    refine .inr ⟨?_, fun a ha => ?_⟩
    · unfold ixL; rw [h]
    · have := List.findIdx?_eq_none_iff.1 h a ha
      simpa using this
theorem row_put (a c : Bool) (ss : List Sl) (x : Int) (s : Bool) : rowL a (ss ++ [⟨x, c, s⟩]) = if c = a then rowL a ss ++ [⟨x, c, s⟩] else rowL a ss := by
  unfold rowL
  rw [List.filter_append]
  by_cases e : c = a
  · rw [if_pos e]; simp [e]
  · rw [if_neg e]; simp [e]
theorem row_cut (a : Bool) (ss : List Sl) (x : Int) : rowL a (cutL ss x) = cutL (rowL a ss) x := by
  unfold rowL cutL
  rw [List.filter_filter, List.filter_filter]
  congr 1
  funext s
  rw [Bool.and_comm]
theorem row_wait (a : Bool) (ss : List Sl) (x : Int) (v : Bool) : rowL a (waitS ss x v) = waitS (rowL a ss) x v := by
  unfold rowL waitS
  rw [List.filter_map]
  congr 1
  apply List.filter_congr
  intro s _
  show ((if s.k = x then { s with s := v } else s).a == a) = (s.a == a)
  split <;> rfl
theorem OnceL.row {ss : List Sl} (h : OnceL ss) (a : Bool) : OnceL (rowL a ss) := h.filter _
theorem cut_at {l : List Sl} (o : OnceL l) {i : Nat} {y : Sl} (hy : l[i]? = some y) : cutL l y.k = l.take i ++ l.drop (i + 1) := by
  have hi := lt_of_get hy
  have e : l = l.take i ++ y :: l.drop (i + 1) := by
    have h1 : l.drop i = y :: l.drop (i + 1) := by
      rw [List.getElem?_eq_getElem hi] at hy
      rw [List.drop_eq_getElem_cons hi, Option.some.inj hy]
    rw [← h1, List.take_append_drop]
  have o2 := o
  rw [e] at o2
  have o3 := List.pairwise_append.1 o2
  have c1 : (l.take i).filter (fun s => !(s.k == y.k)) = l.take i := by
    rw [List.filter_eq_self]
    intro s hs
    have := o3.2.2 s hs y (by simp)
    simpa using this
  have c2 : (l.drop (i + 1)).filter (fun s => !(s.k == y.k)) = l.drop (i + 1) := by
    rw [List.filter_eq_self]
    intro s hs
    have := (List.pairwise_cons.1 o3.2.1).1 s hs
    simpa using (fun q => this q.symm)
  unfold cutL
  conv => lhs; rw [e]
  rw [List.filter_append, List.filter_cons, c1, c2]
  simp
theorem cut_nowhere {l : List Sl} {x : Int} (h : ∀ a ∈ l, a.k ≠ x) : cutL l x = l := by
  unfold cutL
  rw [List.filter_eq_self]
  intro s hs
  simpa using h s hs
theorem wait_at {l : List Sl} (o : OnceL l) {i : Nat} {y : Sl} (hy : l[i]? = some y) (v : Bool) : waitS l y.k v = l.set i { y with s := v } := by
  have hi := lt_of_get hy
  have ym := List.mem_of_getElem? hy
  apply List.ext_getElem?
  intro j
  unfold waitS
  rw [List.getElem?_map, List.getElem?_set]
  by_cases e : i = j
  · subst e
    rw [if_pos rfl, if_pos hi, hy]
    simp
  · rw [if_neg e]
    cases hj : l[j]? with
    | none => rfl
    | some z =>
      have : z.k ≠ y.k := fun q => by
        have lj := lt_of_get hj
        have e1 : l[j] = z := by rw [List.getElem?_eq_getElem lj] at hj; exact Option.some.inj hj
        have e2 : l[i] = y := by rw [List.getElem?_eq_getElem hi] at hy; exact Option.some.inj hy
        rcases Nat.lt_or_gt_of_ne e with k | k
        · have := List.pairwise_iff_getElem.1 o i j hi lj k
          rw [e1, e2] at this
          exact this q.symm
        · have := List.pairwise_iff_getElem.1 o j i lj hi k
          rw [e1, e2] at this
          exact this q
      show some (if z.k = y.k then _ else z) = some z
      rw [if_neg this]
theorem wait_nowhere {l : List Sl} {x : Int} (h : ∀ a ∈ l, a.k ≠ x) (v : Bool) : waitS l x v = l := by
  unfold waitS
  rw [List.map_congr_left (g := id)]
  · simp
  · intro s hs
    exact if_neg (h s hs)
theorem row_mem {a : Bool} {ss : List Sl} {s : Sl} : s ∈ rowL a ss ↔ s ∈ ss ∧ s.a = a := by
  unfold rowL
  rw [List.mem_filter]
  simp
/-- where a ticket stands, and what it is -/
theorem stand_in {ss : List Sl} (o : OnceL ss) {a : Bool} {i : Nat} {y : Sl} (hy : (rowL a ss)[i]? = some y) : hasL ss y.k = true ∧ atL ss y.k = y ∧ y.a = a ∧ ∀ z ∈ rowL (!a) ss, z.k ≠ y.k := by
  have m := row_mem.1 (List.mem_of_getElem? hy)
  refine ⟨hasL_iff.2 ⟨y, m.1, rfl⟩, atL_of o m.1, m.2, fun z hz e => ?_⟩
  have mz := row_mem.1 hz
  have := o.inj mz.1 m.1 e
  subst this
  rw [m.2] at mz
  cases a <;> simp at mz
theorem stand_no {ss : List Sl} {x : Int} (h1 : ∀ z ∈ rowL false ss, z.k ≠ x) (h2 : ∀ z ∈ rowL true ss, z.k ≠ x) : hasL ss x = false := by
  cases h : hasL ss x with
  | false => rfl
  | true =>
    obtain ⟨p, hp, e⟩ := hasL_iff.1 h
    cases ha : p.a with
    | false => exact absurd e (h1 p (row_mem.2 ⟨hp, ha⟩))
    | true => exact absurd e (h2 p (row_mem.2 ⟨hp, ha⟩))
theorem row_le (a : Bool) (ss : List Sl) : (rowL a ss).length ≤ ss.length := List.length_filter_le _ _
theorem put_once {nd na : Nat} {ss : List Sl} (o : OnceL ss) (x : Int) (a : Bool) : OnceL (putS nd na ss x a) := by
  unfold putS
  split
  · rename_i h
    unfold OnceL
    rw [List.pairwise_append]
    refine ⟨o, List.pairwise_singleton _ _, fun c hc d hd e => ?_⟩
    rw [List.mem_singleton.1 hd] at e
    unfold putC at h
    split at h
    · cases h
    · rw [if_pos (hasL_iff.2 ⟨c, hc, e⟩)] at h
      cases h
  · exact o
theorem wait_once {ss : List Sl} (o : OnceL ss) (x : Int) (v : Bool) : OnceL (waitS ss x v) := by
  unfold OnceL waitS
  rw [List.pairwise_map]
  have e : ∀ s : Sl, (if s.k = x then { s with s := v } else s).k = s.k := fun s => by split <;> rfl
  exact o.imp (fun {a c} k => by rw [e a, e c]; exact k)
theorem cut_once {ss : List Sl} (o : OnceL ss) (x : Int) : OnceL (cutL ss x) := o.filter _
theorem prom_once {nd : Nat} {ss : List Sl} (o : OnceL ss) (x : Int) : OnceL (promS nd ss x) := by
  unfold promS
  split
  · unfold OnceL
    rw [List.pairwise_append]
    refine ⟨cut_once o x, List.pairwise_singleton _ _, fun c hc d hd e => ?_⟩
    rw [List.mem_singleton.1 hd] at e
    have := (List.mem_filter.1 hc).2
    simp at this
    exact this e
  · exact o
end Go.Proofs.Ytmihinpbgppjlaa

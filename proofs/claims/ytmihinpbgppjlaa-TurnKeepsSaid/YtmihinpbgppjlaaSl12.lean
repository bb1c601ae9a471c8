/- Turns, told plainly: places in the order in which they were taken. No condition but what each says. -/
import Derived.Test.YtmihinpbgppjlaaMd12
namespace Go.Proofs.Ytmihinpbgppjlaa
open Go.RowKit
set_option linter.unusedVariables false

/-- a place, without its turn -/
structure Sl where
  k : Int
  a : Bool
  s : Bool
deriving DecidableEq
def Pl.sl (p : Pl) : Sl := ⟨p.k, p.a, p.s⟩
/-- a row: the places ahead, or the others -/
def rowL (a : Bool) (ss : List Sl) : List Sl := ss.filter (fun s => s.a == a)
def hasL (ss : List Sl) (x : Int) : Bool := ss.any (fun s => s.k == x)
def atL (ss : List Sl) (x : Int) : Sl := (ss.find? (fun s => s.k == x)).getD ⟨0, false, false⟩
def cutL (ss : List Sl) (x : Int) : List Sl := ss.filter (fun s => !(s.k == x))
def mostL (nd na : Nat) (a : Bool) : Nat := if a then na else nd
def putC (nd na : Nat) (ss : List Sl) (x : Int) (a : Bool) : Int := if x < 1 then 1 else if hasL ss x then 4 else if mostL nd na a ≤ (rowL a ss).length then 2 else 0
def putS (nd na : Nat) (ss : List Sl) (x : Int) (a : Bool) : List Sl := if putC nd na ss x a = 0 then ss ++ [⟨x, a, true⟩] else ss
def waitC (ss : List Sl) (x : Int) (v : Bool) : Int := if hasL ss x then (if (atL ss x).s == v then 5 else 0) else 3
def waitS (ss : List Sl) (x : Int) (v : Bool) : List Sl := ss.map (fun s => if s.k = x then { s with s := v } else s)
def promC (nd : Nat) (ss : List Sl) (x : Int) : Int := if hasL ss x then (if (atL ss x).a then (if nd ≤ (rowL false ss).length then 2 else 0) else 5) else 3
def promS (nd : Nat) (ss : List Sl) (x : Int) : List Sl := if promC nd ss x = 0 then cutL ss x ++ [⟨x, false, (atL ss x).s⟩] else ss
def endC (ss : List Sl) (x : Int) : Int := if hasL ss x then 0 else 3
/-- all that wait -/
def waitL (ss : List Sl) : List Int := ((rowL false ss ++ rowL true ss).filter (·.s)).map (·.k)

theorem hasL_iff {ss : List Sl} {x : Int} : hasL ss x = true ↔ ∃ p ∈ ss, p.k = x := by
  unfold hasL
  rw [List.any_eq_true]
  simp
def OnceL (ss : List Sl) : Prop := ss.Pairwise (fun a b => a.k ≠ b.k)
theorem OnceL.inj : ∀ {ss : List Sl}, OnceL ss → ∀ {a b : Sl}, a ∈ ss → b ∈ ss → a.k = b.k → a = b
  | [], _, _, _, ha, _, _ => by cases ha
  | s :: r, h, a, b, ha, hb, e => by
    have h' := List.pairwise_cons.1 h
    rcases List.mem_cons.1 ha with rfl | ha'
    · rcases List.mem_cons.1 hb with rfl | hb'
      · rfl
      · exact absurd e (h'.1 b hb')
    · rcases List.mem_cons.1 hb with rfl | hb'
      · exact absurd e.symm (h'.1 a ha')
      · exact OnceL.inj (show OnceL r from h'.2) ha' hb' e
theorem atL_has {ss : List Sl} {x : Int} (h : hasL ss x = true) : atL ss x ∈ ss ∧ (atL ss x).k = x := by
  obtain ⟨p, hp, e⟩ := hasL_iff.1 h
  unfold atL
  cases hf : ss.find? (fun q => q.k == x) with
  | none => exact absurd (List.find?_eq_none.1 hf p hp) (by simp [e])
  | some q => exact ⟨List.mem_of_find?_eq_some hf, by simpa using List.find?_some hf⟩
theorem atL_no {ss : List Sl} {x : Int} (h : hasL ss x = false) : atL ss x = ⟨0, false, false⟩ := by
  unfold atL
  rw [List.find?_eq_none.2 (fun p hp => by
    intro q
    have : hasL ss x = true := hasL_iff.2 ⟨p, hp, by simpa using q⟩
    rw [h] at this; cases this)]
  rfl
theorem atL_of {ss : List Sl} (o : OnceL ss) {p : Sl} (hp : p ∈ ss) : atL ss p.k = p := by
  have h := atL_has (hasL_iff.2 ⟨p, hp, rfl⟩)
  exact o.inj h.1 hp h.2

/-! ### places with turns, and without -/
theorem has_sl (ps : List Pl) (x : Int) : hasL (ps.map Pl.sl) x = hasP ps x := by
  unfold hasL hasP
  rw [List.any_map]
  rfl
theorem at_sl (ps : List Pl) (x : Int) : atL (ps.map Pl.sl) x = (atP ps x).sl := by
  unfold atL atP
  rw [List.find?_map]
  have : ((fun s : Sl => s.k == x) ∘ Pl.sl) = (fun p : Pl => p.k == x) := rfl
  rw [this]
  cases ps.find? (fun p => p.k == x) <;> rfl
theorem row_sl (a : Bool) (ps : List Pl) : rowL a (ps.map Pl.sl) = (ps.filter (fun p => p.a == a)).map Pl.sl := by
  unfold rowL
  rw [List.filter_map]
  rfl
theorem cut_sl (ps : List Pl) (x : Int) : cutL (ps.map Pl.sl) x = (ps.filter (fun p => !(p.k == x))).map Pl.sl := by
  unfold cutL
  rw [List.filter_map]
  rfl
theorem once_sl {ps : List Pl} (h : Once ps) : OnceL (ps.map Pl.sl) := by
  unfold OnceL
  rw [List.pairwise_map]
  exact h
/-- all that wait, in their order -/
def waitP (ps : List Pl) : List Pl := (ps.filter (fun p => p.a == false) ++ ps.filter (fun p => p.a == true)).filter (·.s)
theorem wait_sl (ps : List Pl) : waitL (ps.map Pl.sl) = (waitP ps).map (·.k) := by
  unfold waitL waitP
  rw [row_sl, row_sl, ← List.map_append, List.filter_map, List.map_map]
  rfl
theorem wait_mem {ps : List Pl} {p : Pl} : p ∈ waitP ps ↔ p ∈ ps ∧ p.s = true := by
  unfold waitP
  simp only [List.mem_filter, List.mem_append]
  constructor
  · rintro ⟨⟨h, _⟩ | ⟨h, _⟩, hs⟩ <;> exact ⟨h, hs⟩
  · rintro ⟨h, hs⟩
    refine ⟨?_, hs⟩
    cases e : p.a
    · exact .inl ⟨h, by simp⟩
    · exact .inr ⟨h, by simp⟩
/-- turns, each of them later than those ahead of it -/
def Rise (ps : List Pl) : Prop := ps.Pairwise (fun a b => a.n < b.n)
theorem wait_rise {ps : List Pl} (h : Rise ps) (hb : ∀ p ∈ ps, 0 ≤ p.n ∧ p.n < 1000000000) : (waitP ps).Pairwise (fun p q => kv p < kv q) := by
  unfold waitP
  apply List.Pairwise.filter
  rw [List.pairwise_append]
  have part : ∀ a : Bool, (ps.filter (fun p => p.a == a)).Pairwise (fun p q => kv p < kv q) := fun a => by
    refine (h.filter (fun p => p.a == a)).imp_of_mem ?_
    intro p q hp hq hlt
    have e1 : p.a = a := by simpa using (List.mem_filter.1 hp).2
    have e2 : q.a = a := by simpa using (List.mem_filter.1 hq).2
    unfold kv
    rw [e1, e2]
    omega
  refine ⟨part false, part true, fun p hp q hq => ?_⟩
  have e1 := List.mem_filter.1 hp
  have e2 := List.mem_filter.1 hq
  have f1 : p.a = false := by simpa using e1.2
  have f2 : q.a = true := by simpa using e2.2
  have b1 := hb p e1.1
  have b2 := hb q e2.1
  unfold kv
  rw [f1, f2]
  simp
  omega
theorem wait_nodup {ps : List Pl} (h : Rise ps) (hb : ∀ p ∈ ps, 0 ≤ p.n ∧ p.n < 1000000000) : (waitP ps).Nodup := (wait_rise h hb).imp (fun k q => by rw [q] at k; omega)
theorem wait_perm {ps xs : List Pl} (h : Rise ps) (hb : ∀ p ∈ ps, 0 ≤ p.n ∧ p.n < 1000000000) (hp : xs.Perm ps) : (xs.filter (·.s)).Perm (waitP ps) := by
  have nd : ps.Nodup := h.imp (fun k q => by rw [q] at k; omega)
  refine same_perm ((hp.nodup_iff.2 nd).filter _) (wait_nodup h hb) (fun p => ?_)
  rw [wait_mem, List.mem_filter, hp.mem_iff]
theorem two_len {α : Type} (f : α → Bool) (l : List α) : (l.filter (fun x => f x == false)).length + (l.filter (fun x => f x == true)).length = l.length := by
  induction l with
  | nil => rfl
  | cons x l ih =>
    rw [List.filter_cons, List.filter_cons]
    cases f x <;> simp at ih ⊢ <;> omega
theorem wait_len (ps : List Pl) : (waitP ps).length ≤ ps.length := by
  unfold waitP
  refine Nat.le_trans (List.length_filter_le _ _) ?_
  rw [List.length_append, two_len]
  exact Nat.le_refl _
theorem rows_len (ss : List Sl) : (rowL false ss).length + (rowL true ss).length = ss.length := two_len Sl.a ss
end Go.Proofs.Ytmihinpbgppjlaa

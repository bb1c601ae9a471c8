/- Plain facts of rings: nodes whose neighbours are told by two functions; two lists as rings. -/
import Derived.Test.YtpmhpamajkhhiaaHeap
namespace Go.Proofs.Ytpmhpamajkhhiaa
open Go.RowKit
set_option linter.unusedVariables false

/-- a node: its list, whether it is held, who is ahead and who behind -/
structure Nd where
  lst : Int
  held : Bool
  ahead : Nat
  behind : Nat
  deriving Repr, DecidableEq, Inhabited

def nd (ns : List Nd) (i : Nat) : Nd := ns.getD i default
def upA (ns : List Nd) (i x : Nat) : List Nd := ns.set i { nd ns i with ahead := x }
def upB (ns : List Nd) (i x : Nat) : List Nd := ns.set i { nd ns i with behind := x }
def upL (ns : List Nd) (i : Nat) (k : Int) : List Nd := ns.set i { nd ns i with lst := k }
def upH (ns : List Nd) (i : Nat) (h : Bool) : List Nd := ns.set i { nd ns i with held := h }

theorem nd_get {ns : List Nd} {i : Nat} (h : i < ns.length) : ns[i]? = some (nd ns i) := by
  unfold nd
  rw [List.getD_eq_getElem?_getD, List.getElem?_eq_getElem h]
  rfl
theorem nd_set {ns : List Nd} {i : Nat} (h : i < ns.length) (x : Nd) (j : Nat) : nd (ns.set i x) j = if j = i then x else nd ns j := by
  unfold nd
  rw [List.getD_eq_getElem?_getD, List.getD_eq_getElem?_getD, List.getElem?_set]
  by_cases c : j = i
  · subst c
    simp [h]
  · rw [if_neg c, if_neg (fun e => c e.symm)]

/-- take a node away from its neighbours -/
def liftN (ns : List Nd) (i : Nat) : List Nd :=
  let a := (nd ns i).ahead
  let b := (nd ns i).behind
  upB (upA (upA (upB ns a b) b a) i i) i i
/-- put a node behind another one -/
def layN (ns : List Nd) (i e : Nat) : List Nd :=
  let b := (nd ns e).behind
  upA (upB (upB (upA ns i e) i b) e i) b i

/-- f leads from a through xs to b -/
def Path (f : Nat → Nat) : Nat → List Nat → Nat → Prop
  | a, [], b => f a = b
  | a, x :: xs, b => f a = x ∧ Path f x xs b

theorem Path.split {f : Nat → Nat} : ∀ {a : Nat} {p : List Nat} {x : Nat} {q : List Nat} {b : Nat}, Path f a (p ++ x :: q) b ↔ Path f a p x ∧ Path f x q b
  | a, [], x, q, b => Iff.rfl
  | a, y :: p, x, q, b => by
    show (f a = y ∧ Path f y (p ++ x :: q) b) ↔ (f a = y ∧ Path f y p x) ∧ Path f x q b
    rw [Path.split (a := y)]
    exact and_assoc.symm
theorem Path.congr {f g : Nat → Nat} : ∀ {a : Nat} {p : List Nat} {b : Nat}, Path f a p b → (∀ y, y = a ∨ y ∈ p → g y = f y) → Path g a p b
  | a, [], b, h, k => (k a (.inl rfl)).trans h
  | a, x :: p, b, h, k => ⟨(k a (.inl rfl)).trans h.1, Path.congr h.2 (fun y hy => k y (by rcases hy with rfl | hy <;> simp [*]))⟩
/-- the one who leads to the end, and the one who comes first -/
def lastOf (a : Nat) : List Nat → Nat
  | [] => a
  | x :: xs => lastOf x xs
def firstOf (b : Nat) : List Nat → Nat
  | [] => b
  | x :: _ => x
theorem Path.first {f : Nat → Nat} {a : Nat} {p : List Nat} {b : Nat} (h : Path f a p b) : f a = firstOf b p := by
  cases p with
  | nil => exact h
  | cons x p => exact h.1
theorem Path.last {f : Nat → Nat} : ∀ {a : Nat} {p : List Nat} {b : Nat}, Path f a p b → f (lastOf a p) = b
  | a, [], b, h => h
  | a, x :: p, b, h => Path.last (a := x) (p := p) h.2
theorem lastOf_in : ∀ (a : Nat) (p : List Nat), lastOf a p = a ∨ lastOf a p ∈ p
  | a, [] => .inl rfl
  | a, x :: p => by rcases lastOf_in x p with h | h <;> simp [lastOf, h]
theorem firstOf_in (b : Nat) (p : List Nat) : firstOf b p = b ∨ firstOf b p ∈ p := by cases p <;> simp [firstOf]
theorem lastOf_append (a : Nat) : ∀ (p : List Nat) (x : Nat) (q : List Nat), lastOf a (p ++ x :: q) = lastOf x q := by
  intro p
  induction p generalizing a with
  | nil => intro x q; rfl
  | cons y p ih => intro x q; exact ih y x q
theorem lastOf_rev (a : Nat) (p : List Nat) : lastOf a p.reverse = firstOf a p := by
  cases p with
  | nil => rfl
  | cons x p => rw [List.reverse_cons, lastOf_append]; rfl
theorem firstOf_rev (a : Nat) (p : List Nat) : firstOf a p.reverse = lastOf a p := by
  rw [← lastOf_rev, List.reverse_reverse]
/-- the end is led elsewhere -/
theorem Path.turn {f g : Nat → Nat} : ∀ {a : Nat} {p : List Nat} {b c : Nat}, Path f a p b → (a :: p).Nodup → (∀ y, y = a ∨ y ∈ p → y ≠ lastOf a p → g y = f y) → g (lastOf a p) = c → Path g a p c
  | a, [], b, c, h, _, _, e => e
  | a, x :: p, b, c, h, hn, k, e => by
    have hne : a ≠ lastOf x p := by
      intro e2
      have := lastOf_in x p
      rw [← e2] at this
      have h3 := (List.nodup_cons.1 hn).1
      rcases this with h4 | h4
      · exact h3 (by rw [h4]; simp)
      · exact h3 (by simp [h4])
    refine ⟨(k a (.inl rfl) hne).trans h.1, Path.turn h.2 (List.nodup_cons.1 hn).2 (fun y hy hl => k y ?_ hl) e⟩
    rcases hy with rfl | hy
    · simp
    · simp [hy]

/-- a node between two others is left out -/
theorem Path.lift {f g : Nat → Nat} {e x : Nat} {p q : List Nat} (h : Path f e (p ++ x :: q) e) (hn : (e :: (p ++ x :: q)).Nodup)
    (hg : ∀ y, y = e ∨ y ∈ p ++ q → y ≠ lastOf e p → g y = f y) (hl : g (lastOf e p) = f x) : Path g e (p ++ q) e := by
  have hs := Path.split.1 h
  obtain ⟨h1, h2⟩ := hs
  have n1 : (e :: p).Nodup := by
    have : (e :: p).Sublist (e :: (p ++ x :: q)) := (List.sublist_append_left p (x :: q)).cons_cons e
    exact hn.sublist this
  have hx := h2.first
  cases q with
  | nil =>
    rw [List.append_nil]
    refine h1.turn n1 (fun y hy hne => hg y ?_ hne) ?_
    · rcases hy with rfl | hy <;> simp [*]
    · rw [hl, hx]; rfl
  | cons z q =>
    rw [Path.split]
    refine ⟨h1.turn n1 (fun y hy hne => hg y ?_ hne) ?_, h2.2.congr (fun y hy => hg y ?_ ?_)⟩
    · rcases hy with rfl | hy <;> simp [*]
    · rw [hl, hx]; rfl
    · rcases hy with rfl | hy <;> simp [*]
    · intro e2
      subst e2
      have h3 := lastOf_in e p
      rw [List.nodup_cons] at hn
      have hd := (List.nodup_append.1 hn.2).2.2
      rcases h3 with h3 | h3
      · rw [h3] at hy
        apply hn.1
        rcases hy with hy | hy
        · rw [hy]; simp
        · simp [hy]
      · refine hd _ h3 (lastOf e p) ?_ rfl
        rcases hy with hy | hy
        · rw [hy]; simp
        · simp [hy]
/-- who leads on from there is another one: a node is put ahead of all, from the end -/
theorem Path.front {f g : Nat → Nat} {e x : Nat} {l : List Nat} (h : Path f e l e) (hx : x ≠ e) (hl : x ∉ l) (h1 : g e = x) (h2 : g x = f e) (hg : ∀ y, y ∈ l → g y = f y) (hne : e ∉ l) : Path g e (x :: l) e := by
  refine ⟨h1, ?_⟩
  cases l with
  | nil => exact h2.trans h
  | cons y l => exact ⟨h2.trans h.1, h.2.congr (fun z hz => hg z (by rcases hz with rfl | hz <;> simp [*]))⟩
/-- .. or behind all -/
theorem Path.back {f g : Nat → Nat} {e x : Nat} {l : List Nat} (h : Path f e l e) (hn : (e :: l).Nodup) (hx : x ≠ e) (hl : x ∉ l) (h1 : g (lastOf e l) = x) (h2 : g x = e) (hg : ∀ y, y = e ∨ y ∈ l → y ≠ lastOf e l → g y = f y) : Path g e (l ++ [x]) e :=
  Path.split.2 ⟨h.turn hn hg h1, h2⟩
end Go.Proofs.Ytpmhpamajkhhiaa

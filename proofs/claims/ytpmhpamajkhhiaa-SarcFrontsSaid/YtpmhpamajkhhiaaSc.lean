/- A policy as the document tells it, plain: its shelf, all uses, Want and the counts; and what each call makes of it. -/
import Derived.Test.YtpmhpamajkhhiaaHold7
namespace Go.Proofs.Ytpmhpamajkhhiaa
open Go.RowKit
set_option linter.unusedVariables false

/-- the how manieth use a node's last one was; 0: it was never used -/
def lastU (us : List Nat) (f : Nat) : Nat := if f ∈ us then us.length - us.reverse.idxOf f else 0
theorem lastU_nil (f : Nat) : lastU [] f = 0 := by simp [lastU]
theorem lastU_no {us : List Nat} {f : Nat} (h : f ∉ us) : lastU us f = 0 := by unfold lastU; rw [if_neg h]
theorem lastU_snoc (us : List Nat) (x f : Nat) : lastU (us ++ [x]) f = if f = x then us.length + 1 else lastU us f := by
  unfold lastU
  rw [List.reverse_append, List.reverse_singleton, List.singleton_append, List.idxOf_cons]
  by_cases c : f = x
  · subst c
    rw [if_pos rfl, if_pos (by simp)]
    simp
  · have c2 : (x == f) = false := by simpa using fun e => c e.symm
    rw [if_neg c, c2]
    by_cases m : f ∈ us
    · have m2 : f ∈ us ++ [x] := by simp [m]
      rw [if_pos m, if_pos m2]
      have := List.idxOf_lt_length_of_mem (List.mem_reverse.2 m)
      rw [List.length_reverse] at this
      simp <;> omega
    · have m2 : f ∉ us ++ [x] := by simp [m, c]
      rw [if_neg m, if_neg m2]
theorem lastU_le (us : List Nat) (f : Nat) : lastU us f ≤ us.length := by
  unfold lastU
  split <;> omega
theorem lastU_at {us : List Nat} {i f : Nat} (h : us[i]? = some f) (hd : f ∉ us.drop (i + 1)) : lastU us f = i + 1 := by
  have hlt := lt_of_get h
  have e : us = us.take i ++ f :: us.drop (i + 1) := by
    have h1 := List.take_append_drop i us
    rw [List.drop_eq_getElem_cons hlt] at h1
    rw [List.getElem?_eq_getElem hlt] at h
    injection h with h
    rw [h] at h1
    exact h1.symm
  have m := List.mem_of_getElem? h
  unfold lastU
  rw [if_pos m]
  have : us.reverse.idxOf f = (us.drop (i + 1)).length := by
    have e2 : us.reverse = (us.drop (i + 1)).reverse ++ (f :: (us.take i).reverse) := by
      conv => lhs; rw [e]
      simp
    have nm : f ∉ (us.drop (i + 1)).reverse := fun q => hd (List.mem_reverse.1 q)
    rw [e2, List.idxOf_append, if_neg nm, List.idxOf_cons_self, List.length_reverse]
    omega
  rw [this, List.length_drop]
  omega

structure Sc where
  s : Sh
  us : List Nat
  want : Nat
  miss : Nat
  hits : Nat
  deriving Repr, DecidableEq, Inhabited

/-- Want, when the counts are weighed -/
def Sc.newWant (c : Sc) : Nat :=
  if c.hits * c.s.l0.length < c.miss * c.s.bot then min (c.want + 1) c.s.n else if c.miss * c.s.bot < c.hits * c.s.l0.length then c.want - 1 else c.want
def Sc.full (c : Sc) : Bool := decide (64 ≤ c.miss ∨ 64 ≤ c.hits)
def Sc.weigh (c : Sc) : Sc :=
  if c.full = true then ⟨c.s, c.us, c.newWant, c.miss / 2, c.hits / 2⟩ else ⟨c.s, c.us, c.newWant, c.miss, c.hits⟩
def Sc.use (c : Sc) (k i : Nat) : Sc := ⟨c.s.front k i, c.us ++ [i], c.want, c.miss, c.hits⟩
def newSc (n bot : Nat) : Sc := ⟨newSh n bot, [], 0, 0, 0⟩

def Sc.enterC (c : Sc) (i k : Int) : Int := if hasN c.s.n i && hasL k then if c.s.lst i.toNat = -1 then 0 else 4 else 1
def Sc.enterS (c : Sc) (i k : Int) : Sc := if c.enterC i k = 0 then ⟨(c.s.front k.toNat i.toNat).hold i.toNat true, c.us ++ [i.toNat], c.want, c.miss, c.hits⟩ else c
def Sc.readyC (c : Sc) (i : Int) : Int := if hasN c.s.n i then if c.s.lst i.toNat = -1 then 3 else if c.s.h i.toNat = true then 0 else 5 else 1
def Sc.readyS (c : Sc) (i : Int) : Sc := if c.readyC i = 0 then ⟨c.s.hold i.toNat false, c.us, c.want, c.miss, c.hits⟩ else c
def Sh.low (s : Sh) (i : Nat) : Bool := decide ((s.revL (s.lst i)).idxOf i < s.bot)
def Sc.hitC (c : Sc) (i k : Int) : Int := if hasN c.s.n i && hasL k then if c.s.lst i.toNat = -1 then 3 else 0 else 1
/-- the hit is counted, where it is one of the bottom of Rand -/
def Sc.hitW (c : Sc) (i : Nat) : Sc := if c.s.lst i = 1 ∧ c.s.low i = true then (Sc.mk c.s c.us c.want c.miss (c.hits + 1)).weigh else c
def Sc.hitS (c : Sc) (i k : Int) : Sc := if c.hitC i k = 0 then (c.hitW i.toNat).use k.toNat i.toNat else c
def missC (k : Int) : Int := if hasL k then 0 else 1
def Sc.missS (c : Sc) (k : Int) : Sc := if k = 0 then (Sc.mk c.s c.us c.want (c.miss + 1) c.hits).weigh else c
def Sc.goneS (c : Sc) (i : Int) : Sc := ⟨c.s.dropS i, c.us, c.want, c.miss, c.hits⟩
/-- which of two goes -/
def Sc.pick (c : Sc) (a b : Nat) : Nat :=
  if c.s.l0.length < c.s.bot ∨ c.s.l1.length < c.s.bot then if lastU c.us a < lastU c.us b then a else b
  else if c.want < c.s.l0.length then a else b
def Sc.victim (c : Sc) : Option Nat :=
  match c.s.lastOk 0, c.s.lastOk 1 with
  | none, none => none
  | some a, none => some a
  | none, some b => some b
  | some a, some b => some (c.pick a b)
def Sc.victimS (c : Sc) : Sc := match c.victim with
  | none => c
  | some x => ⟨c.s.drop x, c.us, c.want, c.miss, c.hits⟩
def Sc.room (c : Sc) : Nat := c.s.l0.length + c.s.l1.length - c.s.heldL.length

structure Sc.Fine (c : Sc) : Prop where
  s : c.s.Fine
  held : ∀ i, c.s.h i = true → c.s.lst i ≠ -1
  want : c.want ≤ c.s.n
  miss : c.miss < 64
  hits : c.hits < 64

theorem lst_ne {s : Sh} {i : Nat} : s.lst i ≠ -1 ↔ i ∈ s.l0 ∨ i ∈ s.l1 := by
  unfold Sh.lst
  by_cases a : i ∈ s.l0
  · simp [a]
  · by_cases b : i ∈ s.l1 <;> simp [a, b]
theorem front_mem {s : Sh} (f : s.Fine) (k i j : Nat) : (s.front k i).lst j ≠ -1 ↔ j = i ∨ s.lst j ≠ -1 := by
  rw [lst_ne, lst_ne]
  unfold Sh.front
  split
  · show j ∈ i :: s.l0.erase i ∨ j ∈ s.l1.erase i ↔ _
    rw [List.mem_cons]
    by_cases c : j = i
    · simp [c]
    · rw [mem_erase' f.nd0 c, mem_erase' f.nd1 c]
      simp [c]
  · show j ∈ s.l0.erase i ∨ j ∈ i :: s.l1.erase i ↔ _
    rw [List.mem_cons]
    by_cases c : j = i
    · simp [c]
    · rw [mem_erase' f.nd0 c, mem_erase' f.nd1 c]
      simp [c]
theorem drop_mem {s : Sh} (f : s.Fine) (i j : Nat) : (s.drop i).lst j ≠ -1 ↔ j ≠ i ∧ s.lst j ≠ -1 := by
  rw [lst_ne, lst_ne]
  show j ∈ s.l0.erase i ∨ j ∈ s.l1.erase i ↔ _
  by_cases c : j = i
  · subst c
    simp [(f.not_erase j).1, (f.not_erase j).2]
  · rw [mem_erase' f.nd0 c, mem_erase' f.nd1 c]
    simp [c]
theorem front_h (s : Sh) (k i j : Nat) : (s.front k i).h j = s.h j := by
  unfold Sh.front
  split <;> rfl
theorem hold_h {s : Sh} (f : s.Fine) {i : Nat} (hi : i < s.n) (b : Bool) (j : Nat) : (s.hold i b).h j = if j = i then b else s.h j :=
  set_h (by rw [f.hlen]; exact hi) b j
theorem drop_h {s : Sh} (f : s.Fine) {i : Nat} (hi : i < s.n) (j : Nat) : (s.drop i).h j = if j = i then false else s.h j :=
  set_h (by rw [f.hlen]; exact hi) false j
theorem front_nb (s : Sh) (k i : Nat) : (s.front k i).n = s.n ∧ (s.front k i).bot = s.bot := by
  unfold Sh.front
  split <;> exact ⟨rfl, rfl⟩

theorem newWant_le {c : Sc} (h : c.want ≤ c.s.n) : c.newWant ≤ c.s.n := by
  unfold Sc.newWant
  split
  · exact Nat.min_le_right _ _
  · split <;> omega
theorem weigh_fine {c : Sc} (hs : c.s.Fine) (hh : ∀ i, c.s.h i = true → c.s.lst i ≠ -1) (hw : c.want ≤ c.s.n) (hm : c.miss ≤ 64) (hi : c.hits ≤ 64) : c.weigh.Fine := by
  unfold Sc.weigh Sc.full
  by_cases q : 64 ≤ c.miss ∨ 64 ≤ c.hits
  · rw [if_pos (by simpa using q)]
    exact ⟨hs, hh, newWant_le hw, by show c.miss / 2 < 64; omega, by show c.hits / 2 < 64; omega⟩
  · rw [if_neg (by simpa using q)]
    exact ⟨hs, hh, newWant_le hw, by show c.miss < 64; omega, by show c.hits < 64; omega⟩
theorem weigh_s (c : Sc) : c.weigh.s = c.s ∧ c.weigh.us = c.us := by
  unfold Sc.weigh
  split <;> exact ⟨rfl, rfl⟩
theorem Sc.Fine.use {c : Sc} (f : c.Fine) (k : Nat) {i : Nat} (hi : i < c.s.n) : (c.use k i).Fine := by
  refine ⟨f.s.front k hi, fun j hj => ?_, ?_, f.miss, f.hits⟩
  · have : c.s.h j = true := by rw [← front_h c.s k i j]; exact hj
    exact (front_mem f.s k i j).2 (.inr (f.held j this))
  · show c.want ≤ (c.s.front k i).n
    rw [(front_nb c.s k i).1]; exact f.want
theorem enterC_nat {c : Sc} {i k : Int} (h : c.enterC i k = 0) : ∃ j : Nat, i = j ∧ j < c.s.n ∧ (k = 0 ∨ k = 1) ∧ c.s.lst j = -1 := by
  unfold Sc.enterC at h
  split at h
  · rename_i e
    rw [Bool.and_eq_true] at e
    obtain ⟨j, rfl, hj⟩ := hasN_nat e.1
    refine ⟨j, rfl, hj, hasL_cases e.2, ?_⟩
    rw [Int.toNat_natCast] at h
    split at h
    · assumption
    · exact absurd h (by decide)
  · exact absurd h (by decide)
theorem readyC_nat {c : Sc} {i : Int} (h : c.readyC i = 0) : ∃ j : Nat, i = j ∧ j < c.s.n ∧ c.s.lst j ≠ -1 ∧ c.s.h j = true := by
  unfold Sc.readyC at h
  split at h
  · rename_i e
    obtain ⟨j, rfl, hj⟩ := hasN_nat e
    refine ⟨j, rfl, hj, ?_⟩
    rw [Int.toNat_natCast] at h
    split at h
    · exact absurd h (by decide)
    · rename_i e1
      split at h
      · rename_i e2; exact ⟨e1, e2⟩
      · exact absurd h (by decide)
  · exact absurd h (by decide)
theorem hitC_nat {c : Sc} {i k : Int} (h : c.hitC i k = 0) : ∃ j : Nat, i = j ∧ j < c.s.n ∧ (k = 0 ∨ k = 1) ∧ c.s.lst j ≠ -1 := by
  unfold Sc.hitC at h
  split at h
  · rename_i e
    rw [Bool.and_eq_true] at e
    obtain ⟨j, rfl, hj⟩ := hasN_nat e.1
    refine ⟨j, rfl, hj, hasL_cases e.2, ?_⟩
    rw [Int.toNat_natCast] at h
    split at h
    · exact absurd h (by decide)
    · assumption
  · exact absurd h (by decide)
theorem Sc.Fine.enterS {c : Sc} (f : c.Fine) (i k : Int) : (c.enterS i k).Fine := by
  unfold Sc.enterS
  split
  · rename_i e
    obtain ⟨j, rfl, hj, _, _⟩ := enterC_nat e
    rw [Int.toNat_natCast]
    have f1 := f.s.front k.toNat hj
    refine ⟨f1.hold _ _, fun x hx => ?_, ?_, f.miss, f.hits⟩
    · show (c.s.front k.toNat j).lst x ≠ -1
      rw [front_mem f.s]
      have hx2 : ((c.s.front k.toNat j).hold j true).h x = true := hx
      rw [hold_h f1 (by rw [(front_nb _ _ _).1]; exact hj), front_h] at hx2
      by_cases q : x = j
      · exact .inl q
      · rw [if_neg q] at hx2
        exact .inr (f.held x hx2)
    · show c.want ≤ (c.s.front k.toNat j).n
      rw [(front_nb _ _ _).1]; exact f.want
  · exact f
theorem Sc.Fine.readyS {c : Sc} (f : c.Fine) (i : Int) : (c.readyS i).Fine := by
  unfold Sc.readyS
  split
  · rename_i e
    obtain ⟨j, rfl, hj, _, _⟩ := readyC_nat e
    rw [Int.toNat_natCast]
    refine ⟨f.s.hold _ _, fun x hx => ?_, f.want, f.miss, f.hits⟩
    show c.s.lst x ≠ -1
    have hx2 : (c.s.hold j false).h x = true := hx
    rw [hold_h f.s hj] at hx2
    by_cases q : x = j
    · rw [if_pos q] at hx2; cases hx2
    · rw [if_neg q] at hx2; exact f.held x hx2
  · exact f
theorem Sc.Fine.hitW {c : Sc} (f : c.Fine) (i : Nat) : (c.hitW i).Fine ∧ (c.hitW i).s = c.s ∧ (c.hitW i).us = c.us := by
  unfold Sc.hitW
  split
  · refine ⟨weigh_fine f.s f.held f.want (Nat.le_of_lt f.miss) ?_, weigh_s _⟩
    have := f.hits
    show c.hits + 1 ≤ 64
    omega
  · exact ⟨f, rfl, rfl⟩
theorem Sc.Fine.hitS {c : Sc} (f : c.Fine) (i k : Int) : (c.hitS i k).Fine := by
  unfold Sc.hitS
  split
  · rename_i e
    obtain ⟨j, rfl, hj, _, _⟩ := hitC_nat e
    rw [Int.toNat_natCast]
    obtain ⟨f1, e1, _⟩ := f.hitW j
    exact f1.use _ (by rw [e1]; exact hj)
  · exact f
theorem Sc.Fine.missS {c : Sc} (f : c.Fine) (k : Int) : (c.missS k).Fine := by
  unfold Sc.missS
  split
  · refine weigh_fine f.s f.held f.want ?_ (Nat.le_of_lt f.hits)
    have := f.miss
    show c.miss + 1 ≤ 64
    omega
  · exact f
theorem Sc.Fine.dropped {c : Sc} (f : c.Fine) {i : Nat} (hi : i < c.s.n) : (Sc.mk (c.s.drop i) c.us c.want c.miss c.hits).Fine := by
  refine ⟨f.s.drop _, fun x hx => ?_, f.want, f.miss, f.hits⟩
  have hx2 : (c.s.drop i).h x = true := hx
  rw [drop_h f.s hi] at hx2
  by_cases q : x = i
  · rw [if_pos q] at hx2; cases hx2
  · rw [if_neg q] at hx2
    exact (drop_mem f.s i x).2 ⟨q, f.held x hx2⟩
theorem Sc.Fine.goneS {c : Sc} (f : c.Fine) (i : Int) : (c.goneS i).Fine := by
  unfold Sc.goneS Sh.dropS
  split
  · rename_i e
    obtain ⟨j, rfl, hj, _⟩ := liesC_nat e
    rw [Int.toNat_natCast]
    exact f.dropped hj
  · exact f
theorem lastOk_in {s : Sh} (f : s.Fine) {k x : Nat} (h : k < 2) (e : s.lastOk (k : Int) = some x) : x ∈ s.lk k ∧ x < s.n ∧ s.lst x = k ∧ s.h x = false := by
  have m := (last_in_list h e).1
  have l := lk_lt f h m
  refine ⟨m, l.1, l.2, ?_⟩
  unfold Sh.lastOk at e
  have := List.find?_some e
  simpa using this
theorem pick_or (c : Sc) (a b : Nat) : c.pick a b = a ∨ c.pick a b = b := by
  unfold Sc.pick
  split
  · split
    · exact .inl rfl
    · exact .inr rfl
  · split
    · exact .inl rfl
    · exact .inr rfl
theorem victim_in {c : Sc} (f : c.Fine) {x : Nat} (e : c.victim = some x) : x < c.s.n ∧ c.s.lst x ≠ -1 ∧ c.s.h x = false := by
  unfold Sc.victim at e
  have A := fun a (h : c.s.lastOk 0 = some a) => lastOk_in f.s (k := 0) (by decide) h
  have B := fun b (h : c.s.lastOk 1 = some b) => lastOk_in f.s (k := 1) (by decide) h
  have A2 : ∀ a, c.s.lastOk 0 = some a → a < c.s.n ∧ c.s.lst a ≠ -1 ∧ c.s.h a = false := fun a h => by
    obtain ⟨_, h1, h2, h3⟩ := A a h
    exact ⟨h1, by rw [h2]; decide, h3⟩
  have B2 : ∀ a, c.s.lastOk 1 = some a → a < c.s.n ∧ c.s.lst a ≠ -1 ∧ c.s.h a = false := fun a h => by
    obtain ⟨_, h1, h2, h3⟩ := B a h
    exact ⟨h1, by rw [h2]; decide, h3⟩
  revert e
  cases ea : c.s.lastOk 0 with
  | none =>
    cases eb : c.s.lastOk 1 with
    | none => intro e; cases e
    | some b => intro e; injection e with e; subst e; exact B2 _ eb
  | some a =>
    cases eb : c.s.lastOk 1 with
    | none => intro e; injection e with e; subst e; exact A2 _ ea
    | some b =>
      intro e
      injection e with e
      rcases pick_or c a b with q | q
      · rw [q] at e; subst e; exact A2 _ ea
      · rw [q] at e; subst e; exact B2 _ eb
theorem Sc.Fine.victimS {c : Sc} (f : c.Fine) : c.victimS.Fine := by
  unfold Sc.victimS
  split
  · exact f
  · rename_i x e
    exact f.dropped (victim_in f e).1
theorem fine_newSc {n bot : Nat} (h1 : 1 ≤ bot) (h2 : bot ≤ n) (h3 : n ≤ 64) : (newSc n bot).Fine :=
  ⟨fine_new h1 h2 h3, fun i hi => by
    have : (newSh n bot).h i = true := hi
    unfold Sh.h newSh at this
    simp [List.getD_eq_getElem?_getD, List.getElem?_replicate] at this
    split at this <;> simp at this, Nat.zero_le _, Nat.zero_lt_of_lt (show 0 < 64 by decide), Nat.zero_lt_of_lt (show 0 < 64 by decide)⟩
end Go.Proofs.Ytpmhpamajkhhiaa

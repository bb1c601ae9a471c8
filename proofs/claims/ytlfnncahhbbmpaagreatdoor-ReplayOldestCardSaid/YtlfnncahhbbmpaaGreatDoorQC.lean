/- Texts of the layers below, one behind the other. -/
import Derived.Test.YtlfnncahhbbmpaaGreatDoorQB
import Derived.Test.YtlfnncahhbbmpaaGreatDoorQA
import Derived.Maps.RangeWalk
import Derived.Maps.OwnSet
import Derived.Maps.OwnOps
import Derived.Test.YtlfnncahhbbmpaaGreatDoorProg
namespace Go.Proofs.YtlfnncahhbbmpaaGreatDoor
open Go.RowKit
set_option linter.unusedVariables false
set_option maxRecDepth 100000

/-- the how manieth use a block's last one was; 0: it was never used -/
def lastX (us : List Int) (x : Int) : Nat := if x ∈ us then us.length - us.reverse.idxOf x else 0
theorem lastX_snoc (us : List Int) (x f : Int) : lastX (us ++ [x]) f = if f = x then us.length + 1 else lastX us f := by
  unfold lastX
  rw [List.reverse_append, List.reverse_singleton, List.singleton_append, List.idxOf_cons]
  by_cases c : f = x
  · subst c
    rw [if_pos rfl, if_pos (by simp)]
    simp
  · have c2 : (x == f) = false := by simpa using fun e => c e.symm
    rw [if_neg c, c2]
    by_cases m : f ∈ us
    · have m2 : f ∈ us ++ [x] := by simp [m]
      rw [if_pos m, if_pos m2]
      have := List.idxOf_lt_length_of_mem (List.mem_reverse.2 m)
      rw [List.length_reverse] at this
      simp <;> omega
    · have m2 : f ∉ us ++ [x] := by simp [m, c]
      rw [if_neg m, if_neg m2]

/-- a policy over blocks: both lists, who is held (rising), Want, the counts, and all uses -/
structure Ca where
  n : Nat
  bot : Nat
  l0 : List Int
  l1 : List Int
  h : List Int
  want : Nat
  miss : Nat
  hits : Nat
  us : List Int
  deriving Repr, DecidableEq, Inhabited
def newCa (n bot : Nat) : Ca := ⟨n, bot, [], [], [], 0, 0, 0, []⟩
def Ca.inL (c : Ca) (x : Int) : Int := if x ∈ c.l0 then 0 else if x ∈ c.l1 then 1 else -1
def Ca.front (c : Ca) (x : Int) (k : Nat) : Ca :=
  if k = 0 then { c with l0 := x :: c.l0.erase x, l1 := c.l1.erase x, us := c.us ++ [x] } else { c with l0 := c.l0.erase x, l1 := x :: c.l1.erase x, us := c.us ++ [x] }
def Ca.newWant (c : Ca) : Nat :=
  if c.hits * c.l0.length < c.miss * c.bot then min (c.want + 1) c.n else if c.miss * c.bot < c.hits * c.l0.length then c.want - 1 else c.want
def Ca.weigh (c : Ca) : Ca :=
  if 64 ≤ c.miss ∨ 64 ≤ c.hits then { c with want := c.newWant, miss := c.miss / 2, hits := c.hits / 2 } else { c with want := c.newWant }
/-- a block among those that rise -/
def putX (x : Int) : List Int → List Int
  | [] => [x]
  | y :: r => if x < y then x :: y :: r else if x = y then y :: r else y :: putX x r
def Ca.enterB (c : Ca) (x k : Int) : Bool := hasL k && decide (c.inL x = -1) && decide (c.l0.length + c.l1.length < c.n)
def Ca.enter (c : Ca) (x k : Int) : Ca := { c.front x k.toNat with h := putX x c.h }
def Ca.readyB (c : Ca) (x : Int) : Bool := decide (x ∈ c.h)
def Ca.ready (c : Ca) (x : Int) : Ca := { c with h := c.h.erase x }
def Ca.hitB (c : Ca) (x k : Int) : Bool := hasL k && decide (c.inL x ≠ -1)
def Ca.hitW (c : Ca) (x : Int) : Ca := if c.inL x = 1 ∧ c.l1.length - c.bot ≤ c.l1.idxOf x then Ca.weigh { c with hits := c.hits + 1 } else c
def Ca.hit (c : Ca) (x k : Int) : Ca := (c.hitW x).front x k.toNat
def Ca.missed (c : Ca) (k : Int) : Ca := if k = 0 then Ca.weigh { c with miss := c.miss + 1 } else c
def Ca.goneB (c : Ca) (x : Int) : Bool := decide (c.inL x ≠ -1)
def Ca.gone (c : Ca) (x : Int) : Ca := { c with l0 := c.l0.erase x, l1 := c.l1.erase x, h := c.h.erase x }
def Ca.last (c : Ca) (l : List Int) : Option Int := l.reverse.find? (fun x => decide (x ∉ c.h))
def Ca.pick (c : Ca) (a b : Int) : Int :=
  if c.l0.length < c.bot ∨ c.l1.length < c.bot then if lastX c.us a < lastX c.us b then a else b
  else if c.want < c.l0.length then a else b
def Ca.victim (c : Ca) : Option Int :=
  match c.last c.l0, c.last c.l1 with
  | none, none => none
  | some a, none => some a
  | none, some b => some b
  | some a, some b => some (c.pick a b)

/-- a frame lies in a list -/
def Sc.inn (c : Sc) (i : Nat) : Prop := i ∈ c.s.l0 ∨ i ∈ c.s.l1
/-- the policy over blocks is that over frames, each frame's block in its place -/
structure Bl (m : Nat → Int) (c : Sc) (b : Ca) : Prop where
  n : b.n = c.s.n
  bot : b.bot = c.s.bot
  l0 : b.l0 = c.s.l0.map m
  l1 : b.l1 = c.s.l1.map m
  inj : ∀ i j, c.inn i → c.inn j → m i = m j → i = j
  up : b.h.Pairwise (· < ·)
  hm : ∀ x, x ∈ b.h ↔ ∃ i, c.s.h i = true ∧ m i = x
  want : b.want = c.want
  miss : b.miss = c.miss
  hits : b.hits = c.hits
  us : ∀ i, c.inn i → lastX b.us (m i) = lastU c.us i
  len : b.us.length = c.us.length

theorem not_in_new (n bot i : Nat) : ¬ (newSc n bot).inn i := fun h => by rcases h with h | h <;> cases h
theorem no_held_new (n bot i : Nat) : (newSc n bot).s.h i = false := by
  show (List.replicate n false).getD i false = false
  rw [List.getD_eq_getElem?_getD, List.getElem?_replicate]
  split <;> rfl
theorem bl_new (m : Nat → Int) (n bot : Nat) : Bl m (newSc n bot) (newCa n bot) where
  n := rfl
  bot := rfl
  l0 := rfl
  l1 := rfl
  inj := fun i j h => absurd h (not_in_new n bot i)
  up := List.Pairwise.nil
  hm := fun x => ⟨fun h => (by cases h), fun ⟨i, h, _⟩ => (by rw [no_held_new] at h; cases h)⟩
  want := rfl
  miss := rfl
  hits := rfl
  us := fun i h => absurd h (not_in_new n bot i)
  len := rfl

theorem map_erase {m : Nat → Int} {i : Nat} : ∀ {l : List Nat}, (∀ j ∈ l, m j = m i → j = i) → (l.map m).erase (m i) = (l.erase i).map m
  | [], _ => rfl
  | j :: l, h => by
    rw [List.map_cons, List.erase_cons, List.erase_cons]
    by_cases e : j = i
    · subst e; simp
    · have e1 : (m j == m i) = false := by simpa using fun q => e (h j (by simp) q)
      have e2 : (j == i) = false := by simpa using e
      rw [e1, e2]
      simp only [Bool.false_eq_true, if_false, List.map_cons]
      rw [map_erase fun k hk => h k (by simp [hk])]
section
variable {m : Nat → Int} {c : Sc} {b : Ca}
theorem Bl.in0 (h : Bl m c b) {i : Nat} (hi : c.inn i) : m i ∈ b.l0 ↔ i ∈ c.s.l0 := by
  rw [h.l0, List.mem_map]
  exact ⟨fun ⟨j, hj, e⟩ => by rw [← h.inj j i (.inl hj) hi e]; exact hj, fun q => ⟨i, q, rfl⟩⟩
theorem Bl.in1 (h : Bl m c b) {i : Nat} (hi : c.inn i) : m i ∈ b.l1 ↔ i ∈ c.s.l1 := by
  rw [h.l1, List.mem_map]
  exact ⟨fun ⟨j, hj, e⟩ => by rw [← h.inj j i (.inr hj) hi e]; exact hj, fun q => ⟨i, q, rfl⟩⟩
theorem Bl.inL (h : Bl m c b) {i : Nat} (hi : c.inn i) : b.inL (m i) = c.s.lst i := by
  unfold Ca.inL Sh.lst
  simp only [h.in0 hi, h.in1 hi]
theorem Bl.inL_iff (h : Bl m c b) (x : Int) : b.inL x ≠ -1 ↔ ∃ i, c.inn i ∧ m i = x := by
  unfold Ca.inL
  rw [h.l0, h.l1]
  constructor
  · intro q
    split at q
    · rename_i e; obtain ⟨i, hi, e⟩ := List.mem_map.1 e; exact ⟨i, .inl hi, e⟩
    · split at q
      · rename_i e; obtain ⟨i, hi, e⟩ := List.mem_map.1 e; exact ⟨i, .inr hi, e⟩
      · exact absurd rfl q
  · rintro ⟨i, hi | hi, rfl⟩
    · rw [if_pos (List.mem_map_of_mem hi)]; decide
    · split
      · decide
      · rw [if_pos (List.mem_map_of_mem hi)]; decide
theorem Bl.no (h : Bl m c b) {x : Int} (q : b.inL x = -1) {i : Nat} (hi : c.inn i) : m i ≠ x := fun e => (h.inL_iff x).2 ⟨i, hi, e⟩ q
theorem Bl.len0 (h : Bl m c b) : b.l0.length = c.s.l0.length := by rw [h.l0, List.length_map]
theorem Bl.len1 (h : Bl m c b) : b.l1.length = c.s.l1.length := by rw [h.l1, List.length_map]
theorem Bl.erase0 (h : Bl m c b) {i : Nat} (hi : c.inn i) : b.l0.erase (m i) = (c.s.l0.erase i).map m := by
  rw [h.l0]
  exact map_erase fun j hj e => h.inj j i (.inl hj) hi e
theorem Bl.erase1 (h : Bl m c b) {i : Nat} (hi : c.inn i) : b.l1.erase (m i) = (c.s.l1.erase i).map m := by
  rw [h.l1]
  exact map_erase fun j hj e => h.inj j i (.inr hj) hi e
theorem Bl.newWant (h : Bl m c b) : b.newWant = c.newWant := by
  unfold Ca.newWant Sc.newWant
  rw [h.hits, h.miss, h.want, h.n, h.bot, h.len0]
theorem Bl.weigh (h : Bl m c b) : Bl m c.weigh b.weigh := by
  unfold Ca.weigh Sc.weigh Sc.full
  rw [h.miss, h.hits]
  by_cases q : 64 ≤ c.miss ∨ 64 ≤ c.hits
  · rw [if_pos q, if_pos (decide_eq_true q)]
    exact ⟨h.n, h.bot, h.l0, h.l1, h.inj, h.up, h.hm, h.newWant, rfl, rfl, h.us, h.len⟩
  · rw [if_neg q, if_neg (by simpa using q)]
    exact ⟨h.n, h.bot, h.l0, h.l1, h.inj, h.up, h.hm, h.newWant, rfl, rfl, h.us, h.len⟩
theorem Bl.missed (h : Bl m c b) (k : Int) : Bl m (c.missS k) (b.missed k) := by
  unfold Sc.missS Ca.missed
  split
  · exact Bl.weigh (c := ⟨c.s, c.us, c.want, c.miss + 1, c.hits⟩) ⟨h.n, h.bot, h.l0, h.l1, h.inj, h.up, h.hm, h.want, by show b.miss + 1 = _; rw [h.miss], h.hits, h.us, h.len⟩
  · exact h
/-- a frame that lies in a list, or whose block is no other's -/
def Bl.Own (m : Nat → Int) (c : Sc) (i : Nat) : Prop := ∀ j, c.inn j → m j = m i → j = i
theorem Bl.own (h : Bl m c b) {i : Nat} (hi : c.inn i) : Bl.Own m c i := fun j hj e => h.inj j i hj hi e
theorem use_inn (f : c.s.Fine) (k i j : Nat) : (c.use k i).inn j ↔ j = i ∨ c.inn j := by
  show (j ∈ (c.s.front k i).l0 ∨ j ∈ (c.s.front k i).l1) ↔ _
  rw [← lst_ne, front_mem f k i j, lst_ne]
  exact Iff.rfl
theorem Bl.front (h : Bl m c b) (f : c.s.Fine) {i : Nat} (hi : Bl.Own m c i) (k : Nat) : Bl m (c.use k i) (b.front (m i) k) := by
  have E0 : b.l0.erase (m i) = (c.s.l0.erase i).map m := by rw [h.l0]; exact map_erase fun j hj e => hi j (.inl hj) e
  have E1 : b.l1.erase (m i) = (c.s.l1.erase i).map m := by rw [h.l1]; exact map_erase fun j hj e => hi j (.inr hj) e
  have inj : ∀ x y, (c.use k i).inn x → (c.use k i).inn y → m x = m y → x = y := fun x y hx hy e => by
    rcases (use_inn f k i x).1 hx with p | p
    · rcases (use_inn f k i y).1 hy with q | q
      · rw [p, q]
      · rw [p] at e ⊢; exact (hi y q e.symm).symm
    · rcases (use_inn f k i y).1 hy with q | q
      · rw [q] at e ⊢; exact hi x p e
      · exact h.inj x y p q e
  have us : ∀ j, (c.use k i).inn j → lastX (b.us ++ [m i]) (m j) = lastU (c.us ++ [i]) j := fun j hj => by
    rw [lastX_snoc, lastU_snoc, h.len]
    rcases (use_inn f k i j).1 hj with e | hj
    · rw [if_pos e, if_pos (by rw [e])]
    · by_cases e : j = i
      · rw [if_pos e, if_pos (by rw [e])]
      · rw [if_neg e, if_neg fun q => e (hi j hj q), h.us j hj]
  have len : (b.us ++ [m i]).length = (c.us ++ [i]).length := by rw [List.length_append, List.length_append, h.len]; rfl
  have hm : ∀ x, x ∈ b.h ↔ ∃ j, (c.s.front k i).h j = true ∧ m j = x := fun x => by
    rw [h.hm x]
    simp only [front_h]
  have nb := front_nb c.s k i
  unfold Ca.front
  by_cases q : k = 0
  · rw [if_pos q]
    refine ⟨by rw [h.n]; exact nb.1.symm, by rw [h.bot]; exact nb.2.symm, ?_, ?_, inj, h.up, hm, h.want, h.miss, h.hits, us, len⟩
    · show m i :: b.l0.erase (m i) = ((c.s.front k i).l0).map m
      unfold Sh.front
      rw [if_pos q, E0]; rfl
    · show b.l1.erase (m i) = ((c.s.front k i).l1).map m
      unfold Sh.front
      rw [if_pos q, E1]
  · rw [if_neg q]
    refine ⟨by rw [h.n]; exact nb.1.symm, by rw [h.bot]; exact nb.2.symm, ?_, ?_, inj, h.up, hm, h.want, h.miss, h.hits, us, len⟩
    · show b.l0.erase (m i) = ((c.s.front k i).l0).map m
      unfold Sh.front
      rw [if_neg q, E0]
    · show m i :: b.l1.erase (m i) = ((c.s.front k i).l1).map m
      unfold Sh.front
      rw [if_neg q, E1]; rfl
theorem Bl.held (h : Bl m c b) (f : c.Fine) {i : Nat} (hi : c.inn i) : m i ∈ b.h ↔ c.s.h i = true := by
  rw [h.hm]
  exact ⟨fun ⟨j, hj, e⟩ => by rw [← h.inj j i (lst_ne.1 (f.held j hj)) hi e]; exact hj, fun q => ⟨i, q, rfl⟩⟩
/-- a frame that lies in no list gets another block -/
def upM (m : Nat → Int) (i : Nat) (x : Int) : Nat → Int := fun j => if j = i then x else m j
theorem Bl.upM (h : Bl m c b) (f : c.Fine) {i : Nat} (hi : ¬ c.inn i) (x : Int) : Bl (upM m i x) c b := by
  have e : ∀ j, c.inn j → Proofs.YtlfnncahhbbmpaaGreatDoor.upM m i x j = m j := fun j hj => if_neg fun (q : j = i) => hi (by rw [← q]; exact hj)
  refine ⟨h.n, h.bot, ?_, ?_, fun a d ha hd q => h.inj a d ha hd (by rw [← e a ha, ← e d hd]; exact q), h.up, fun y => ?_, h.want, h.miss, h.hits, fun j hj => by rw [e j hj]; exact h.us j hj, h.len⟩
  · rw [h.l0]; exact List.map_congr_left fun j hj => (e j (.inl hj)).symm
  · rw [h.l1]; exact List.map_congr_left fun j hj => (e j (.inr hj)).symm
  · rw [h.hm y]
    exact ⟨fun ⟨j, hj, q⟩ => ⟨j, hj, by rw [e j (lst_ne.1 (f.held j hj))]; exact q⟩, fun ⟨j, hj, q⟩ => ⟨j, hj, by rw [← e j (lst_ne.1 (f.held j hj))]; exact q⟩⟩
theorem putX_mem (x y : Int) : ∀ l : List Int, y ∈ putX x l ↔ y = x ∨ y ∈ l
  | [] => by simp [putX]
  | z :: r => by
    unfold putX
    split
    · simp
    · split
      · rename_i e; subst e; simp
      · rw [List.mem_cons, putX_mem x y r, List.mem_cons]
        exact ⟨fun q => by rcases q with q | q | q <;> simp [q], fun q => by rcases q with q | q | q <;> simp [q]⟩
theorem putX_up (x : Int) : ∀ l : List Int, l.Pairwise (· < ·) → (putX x l).Pairwise (· < ·)
  | [], _ => by simp [putX]
  | z :: r, h => by
    have h' := List.pairwise_cons.1 h
    unfold putX
    split
    · rename_i q
      exact List.pairwise_cons.2 ⟨fun y hy => by rcases List.mem_cons.1 hy with rfl | hy; exact q; have := h'.1 y hy; omega, h⟩
    · split
      · exact h
      · refine List.pairwise_cons.2 ⟨fun y hy => ?_, putX_up x r h'.2⟩
        rcases (putX_mem x y r).1 hy with rfl | hy
        · omega
        · exact h'.1 y hy
theorem up_erase {l : List Int} (h : l.Pairwise (· < ·)) (x y : Int) : y ∈ l.erase x ↔ y ≠ x ∧ y ∈ l :=
  List.Nodup.mem_erase_iff (h.imp fun q => by omega)
/-- a frame that lies in a list is held, or no more -/
theorem Bl.hold (h : Bl m c b) (f : c.Fine) {i : Nat} (hi : c.inn i) (hl : i < c.s.n) (y : Bool) : Bl m ⟨c.s.hold i y, c.us, c.want, c.miss, c.hits⟩ { b with h := if y then putX (m i) b.h else b.h.erase (m i) } := by
  refine ⟨h.n, h.bot, h.l0, h.l1, h.inj, ?_, fun x => ?_, h.want, h.miss, h.hits, h.us, h.len⟩
  · show List.Pairwise _ (if y = true then _ else _)
    split
    · exact putX_up _ _ h.up
    · exact h.up.erase _
  · show x ∈ (if y = true then _ else _) ↔ ∃ j, (c.s.hold i y).h j = true ∧ m j = x
    simp only [hold_h f.s hl]
    cases y
    · rw [if_neg (by decide), up_erase h.up, h.hm]
      constructor
      · rintro ⟨q, j, hj, rfl⟩
        exact ⟨j, by rw [if_neg fun e => q (by rw [e])]; exact hj, rfl⟩
      · rintro ⟨j, hj, rfl⟩
        split at hj
        · cases hj
        · rename_i q
          exact ⟨fun e => q (h.inj j i (lst_ne.1 (f.held j hj)) hi e), j, hj, rfl⟩
    · rw [if_pos rfl, putX_mem, h.hm]
      constructor
      · rintro (rfl | ⟨j, hj, rfl⟩)
        · exact ⟨i, by rw [if_pos rfl], rfl⟩
        · exact ⟨j, by split <;> first | rfl | exact hj, rfl⟩
      · rintro ⟨j, hj, rfl⟩
        split at hj
        · rename_i q; exact .inl (by rw [q])
        · exact .inr ⟨j, hj, rfl⟩
/-- a block goes -/
theorem drop_inn (f : c.s.Fine) (i j : Nat) : (j ∈ (c.s.drop i).l0 ∨ j ∈ (c.s.drop i).l1) ↔ j ≠ i ∧ c.inn j := by
  rw [← lst_ne, drop_mem f i j, lst_ne]
  exact Iff.rfl
theorem Bl.gone (h : Bl m c b) (f : c.Fine) {i : Nat} (hi : c.inn i) (hl : i < c.s.n) : Bl m ⟨c.s.drop i, c.us, c.want, c.miss, c.hits⟩ (b.gone (m i)) := by
  refine ⟨h.n, h.bot, h.erase0 hi, h.erase1 hi, fun x y hx hy e => h.inj x y ((drop_inn f.s i x).1 hx).2 ((drop_inn f.s i y).1 hy).2 e, h.up.erase _, fun x => ?_, h.want, h.miss, h.hits, fun j hj => h.us j ((drop_inn f.s i j).1 hj).2, h.len⟩
  show x ∈ b.h.erase (m i) ↔ ∃ j, (c.s.drop i).h j = true ∧ m j = x
  simp only [drop_h f.s hl]
  rw [up_erase h.up, h.hm]
  constructor
  · rintro ⟨q, j, hj, rfl⟩
    exact ⟨j, by rw [if_neg fun e => q (by rw [e])]; exact hj, rfl⟩
  · rintro ⟨j, hj, rfl⟩
    split at hj
    · cases hj
    · rename_i q
      exact ⟨fun e => q (h.inj j i (lst_ne.1 (f.held j hj)) hi e), j, hj, rfl⟩
theorem Bl.find (h : Bl m c b) (f : c.Fine) : ∀ l : List Nat, (∀ i ∈ l, c.inn i) → (l.map m).find? (fun x => decide (x ∉ b.h)) = (l.find? (fun i => !c.s.h i)).map m
  | [], _ => rfl
  | i :: l, q => by
    have e : decide (m i ∉ b.h) = !c.s.h i := by
      have := h.held f (q i (by simp))
      cases e : c.s.h i
      · rw [e] at this; simpa using this
      · rw [e] at this; simpa using this
    rw [List.map_cons, List.find?_cons, List.find?_cons, e]
    cases c.s.h i
    · rfl
    · exact h.find f l fun j hj => q j (by simp [hj])
theorem Bl.last0 (h : Bl m c b) (f : c.Fine) : b.last b.l0 = (c.s.lastOk 0).map m := by
  unfold Ca.last Sh.lastOk Sh.revL
  rw [h.l0, ← List.map_reverse, h.find f _ fun i hi => .inl (List.mem_reverse.1 hi)]
  rfl
theorem Bl.last1 (h : Bl m c b) (f : c.Fine) : b.last b.l1 = (c.s.lastOk 1).map m := by
  unfold Ca.last Sh.lastOk Sh.revL
  rw [h.l1, ← List.map_reverse, h.find f _ fun i hi => .inr (List.mem_reverse.1 hi)]
  rfl
theorem lastOk_inn {c : Sc} {i : Nat} : (c.s.lastOk 0 = some i → i ∈ c.s.l0) ∧ (c.s.lastOk 1 = some i → i ∈ c.s.l1) :=
  ⟨fun e => List.mem_reverse.1 (List.mem_of_find?_eq_some e), fun e => List.mem_reverse.1 (List.mem_of_find?_eq_some e)⟩
theorem Bl.pick (h : Bl m c b) {x y : Nat} (hx : c.inn x) (hy : c.inn y) : b.pick (m x) (m y) = m (c.pick x y) := by
  unfold Ca.pick Sc.pick
  rw [h.len0, h.len1, h.bot, h.want, h.us x hx, h.us y hy]
  split
  · split <;> rfl
  · split <;> rfl
theorem Bl.victim (h : Bl m c b) (f : c.Fine) : b.victim = c.victim.map m := by
  unfold Ca.victim Sc.victim
  rw [h.last0 f, h.last1 f]
  cases e0 : c.s.lastOk 0 with
  | none => cases e1 : c.s.lastOk 1 <;> rfl
  | some x => cases e1 : c.s.lastOk 1 with
    | none => rfl
    | some y =>
      show some (b.pick (m x) (m y)) = some (m (c.pick x y))
      rw [h.pick (.inl (lastOk_inn.1 e0)) (.inr (lastOk_inn.2 e1))]
theorem idx_map {m : Nat → Int} {i : Nat} : ∀ {l : List Nat}, (∀ j ∈ l, m j = m i → j = i) → (l.map m).idxOf (m i) = l.idxOf i
  | [], _ => rfl
  | j :: l, h => by
    rw [List.map_cons, List.idxOf_cons, List.idxOf_cons]
    by_cases e : j = i
    · subst e; simp
    · have e1 : (m j == m i) = false := by simpa using fun q => e (h j (by simp) q)
      have e2 : (j == i) = false := by simpa using e
      rw [e1, e2, idx_map fun k hk => h k (by simp [hk])]
theorem idx_reverse {l : List Nat} (h : l.Nodup) {i : Nat} (hi : i ∈ l) : l.reverse.idxOf i + l.idxOf i + 1 = l.length := by
  obtain ⟨p, q, rfl⟩ := List.append_of_mem hi
  have h2 := List.nodup_append.1 h
  have np : i ∉ p := fun e => h2.2.2 i e i (by simp) rfl
  have nq : i ∉ q := (List.nodup_cons.1 h2.2.1).1
  have e1 : (p ++ i :: q).reverse.idxOf i = q.length := by
    rw [List.reverse_append, List.reverse_cons, List.append_assoc, List.idxOf_append, if_neg (by simpa using nq)]
    simp
  have e2 : (p ++ i :: q).idxOf i = p.length := by
    rw [List.idxOf_append, if_neg np]
    simp
  rw [e1, e2, List.length_append, List.length_cons]
  omega
theorem Bl.hitW (h : Bl m c b) (f : c.Fine) {i : Nat} (hi : c.inn i) : Bl m (c.hitW i) (b.hitW (m i)) := by
  have L := h.inL hi
  unfold Sc.hitW Ca.hitW
  rw [L]
  by_cases l1 : c.s.lst i = 1
  · have i1 : i ∈ c.s.l1 := by
      rcases hi with q | q
      · unfold Sh.lst at l1; rw [if_pos q] at l1; cases l1
      · exact q
    have e : (b.l1.length - b.bot ≤ b.l1.idxOf (m i)) ↔ c.s.low i = true := by
      have r := idx_reverse f.s.nd1 i1
      have lt := List.idxOf_lt_length_of_mem i1
      unfold Sh.low Sh.revL
      rw [l1, h.l1, idx_map (fun j hj e => h.inj j i (.inr hj) hi e), List.length_map, h.bot]
      show _ ↔ decide (c.s.l1.reverse.idxOf i < c.s.bot) = true
      rw [decide_eq_true_iff]
      omega
    by_cases lo : c.s.low i = true
    · rw [if_pos ⟨l1, lo⟩, if_pos ⟨l1, e.2 lo⟩]
      exact Bl.weigh (c := ⟨c.s, c.us, c.want, c.miss, c.hits + 1⟩) ⟨h.n, h.bot, h.l0, h.l1, h.inj, h.up, h.hm, h.want, h.miss, by show b.hits + 1 = _; rw [h.hits], h.us, h.len⟩
    · rw [if_neg fun q => lo q.2, if_neg fun q => lo (e.1 q.2)]
      exact h
  · rw [if_neg fun q => l1 q.1, if_neg fun q => l1 q.1]
    exact h
theorem hitW_s (c : Sc) (i : Nat) : (c.hitW i).s = c.s := by
  unfold Sc.hitW
  split
  · exact (weigh_s _).1
  · rfl
theorem Bl.hit (h : Bl m c b) (f : c.Fine) {i : Nat} (hi : c.inn i) (k : Int) : Bl m ((c.hitW i).use k.toNat i) (b.hit (m i) k) := by
  refine (h.hitW f hi).front (by rw [hitW_s]; exact f.s) ?_ k.toNat
  have own := h.own hi
  intro j hj e
  refine own j ?_ e
  unfold Sc.inn at hj ⊢
  rw [hitW_s] at hj
  exact hj
/-- a block comes in, as the block of a frame that lies in no list -/
theorem Bl.enter (h : Bl m c b) (f : c.Fine) {i : Nat} (hi : ¬ c.inn i) (hl : i < c.s.n) {x : Int} (hx : b.inL x = -1) (k : Nat) (f2 : (c.use k i).Fine) :
    Bl (Proofs.YtlfnncahhbbmpaaGreatDoor.upM m i x) ⟨(c.s.front k i).hold i true, c.us ++ [i], c.want, c.miss, c.hits⟩ (b.enter x k) := by
  have h1 := h.upM f hi x
  have mi : Proofs.YtlfnncahhbbmpaaGreatDoor.upM m i x i = x := if_pos rfl
  have own : Bl.Own (Proofs.YtlfnncahhbbmpaaGreatDoor.upM m i x) c i := fun j hj e => by
    have ej : Proofs.YtlfnncahhbbmpaaGreatDoor.upM m i x j = m j := if_neg fun (q : j = i) => hi (by rw [← q]; exact hj)
    rw [ej, mi] at e
    exact absurd e (h.no hx hj)
  have h2 := h1.front f.s own k
  have i2 : (c.use k i).inn i := (use_inn f.s k i i).2 (.inl rfl)
  have h3 := h2.hold f2 i2 (by show i < (c.s.front k i).n; rw [(front_nb c.s k i).1]; exact hl) true
  rw [mi] at h3
  have e : b.enter x (k : Int) = { b.front x k with h := if true = true then putX x (b.front x k).h else (b.front x k).h.erase x } := by
    unfold Ca.enter Ca.front
    rw [Int.toNat_natCast, if_pos rfl]
    split <;> rfl
  rw [e]
  exact h3
end
end Go.Proofs.YtlfnncahhbbmpaaGreatDoor

namespace Go.Proofs.YtlfnncahhbbmpaaGreatDoor
set_option linter.unusedVariables false
set_option maxRecDepth 100000

/-- a ticket k that stands in block b's lane -/
structure Sd where
  b : Int
  k : Int
  deriving DecidableEq
instance : Inhabited Sd := ⟨⟨0, 0⟩⟩
def Sd.cells (s : Sd) : List Value := [.int .i64 s.b, .int .i64 s.k]
theorem sd2 : ∀ s : Sd, s.cells.length = 2 := fun _ => rfl
theorem sd_one : ∀ s : Sd, ∀ u ∈ s.cells, u.oneCell' = true := fun s u hu => by
  simp only [Sd.cells, List.mem_cons, List.not_mem_nil, or_false] at hu
  rcases hu with rfl | rfl <;> rfl
/-- the place of a ticket -/
def tkAt (ss : List Sd) (x : Int) : Option Nat := ss.findIdx? (fun s => s.k == x)
def tkI (ss : List Sd) (x : Int) : Int := match tkAt ss x with | some k => k | none => -1
theorem tk_at {ss : List Sd} {x : Int} {k : Nat} {s : Sd} (h : ss[k]? = some s) (hx : s.k = x) (hb : ∀ (j : Nat) a, j < k → ss[j]? = some a → a.k ≠ x) : tkAt ss x = some k := by
  have hk := lt_of_get h
  unfold tkAt
  rw [List.findIdx?_eq_some_iff_getElem]
  refine ⟨hk, ?_, fun j hj => ?_⟩
  · rw [List.getElem?_eq_getElem hk] at h
    injection h with h
    rw [h]; simp [hx]
  · have := hb j ss[j] hj (List.getElem?_eq_getElem (by omega))
    simp [this]
theorem tk_no {ss : List Sd} {x : Int} (hb : ∀ (j : Nat) a, ss[j]? = some a → a.k ≠ x) : tkAt ss x = none := by
  unfold tkAt
  rw [List.findIdx?_eq_none_iff]
  intro a ha
  obtain ⟨j, hj, rfl⟩ := List.getElem_of_mem ha
  simpa using hb j _ (List.getElem?_eq_getElem hj)
theorem tk_of {ss : List Sd} {x : Int} {k : Nat} (h : tkAt ss x = some k) : ∃ s, ss[k]? = some s ∧ s.k = x ∧ ∀ (j : Nat) a, j < k → ss[j]? = some a → a.k ≠ x := by
  unfold tkAt at h
  rw [List.findIdx?_eq_some_iff_getElem] at h
  obtain ⟨hk, h1, h2⟩ := h
  refine ⟨ss[k], List.getElem?_eq_getElem hk, by simpa using h1, fun j b hj hb => ?_⟩
  have := h2 j hj
  rw [List.getElem?_eq_getElem (by omega)] at hb
  injection hb with hb
  rw [hb] at this
  simpa using this
theorem tk_none {ss : List Sd} {x : Int} (h : tkAt ss x = none) : ∀ (j : Nat) a, ss[j]? = some a → a.k ≠ x := by
  unfold tkAt at h
  rw [List.findIdx?_eq_none_iff] at h
  intro j b hb
  simpa using h b (List.mem_of_getElem? hb)
/-- a lane: its tickets, in order -/
def laneL (ss : List Sd) (b : Int) : List Int := (ss.filter (fun s => s.b == b)).map (·.k)
theorem lane_yes {ss : List Sd} {b : Int} {k : Nat} {y : Sd} (h : ss[k]? = some y) (e : y.b = b) : laneL (ss.take (k + 1)) b = laneL (ss.take k) b ++ [y.k] := by
  unfold laneL
  rw [List.take_add_one, h]
  simp [e]
theorem lane_skip {ss : List Sd} {b : Int} {k : Nat} {y : Sd} (h : ss[k]? = some y) (e : y.b ≠ b) : laneL (ss.take (k + 1)) b = laneL (ss.take k) b := by
  unfold laneL
  rw [List.take_add_one, h]
  simp [e]
theorem lane_le (ss : List Sd) (b : Int) : (laneL ss b).length ≤ ss.length := by
  unfold laneL
  rw [List.length_map]
  exact List.length_filter_le _ _
theorem lane_all {ss : List Sd} {b : Int} {k : Nat} (h : ss.length ≤ k) : laneL (ss.take k) b = laneL ss b := by rw [List.take_of_length_le h]
def headI (l : List Int) : Int := l.head?.getD 0
def lastI (l : List Int) : Int := l.getLast?.getD 0
def someB (l : List Int) : Bool := !l.isEmpty
/-- the heads of the first lanes -/
def headsL (ss : List Sd) (n : Nat) : List Int := (List.range n).filterMap (fun b : Nat => (laneL ss (b : Int)).head?)
theorem heads_yes {ss : List Sd} {n : Nat} {x : Int} {r : List Int} (h : laneL ss (n : Int) = x :: r) : headsL ss (n + 1) = headsL ss n ++ [x] := by
  unfold headsL
  rw [List.range_succ, List.filterMap_append]
  simp [h]
theorem heads_skip {ss : List Sd} {n : Nat} (h : laneL ss (n : Int) = []) : headsL ss (n + 1) = headsL ss n := by
  unfold headsL
  rw [List.range_succ, List.filterMap_append]
  simp [h]
theorem heads_le (ss : List Sd) (n : Nat) : (headsL ss n).length ≤ n := by
  unfold headsL
  exact Nat.le_trans (List.length_filterMap_le _ _) (by simp)
/-- what is pushed and pulled -/
def pushC (n room : Nat) (ss : List Sd) (b x : Int) : Int := if 0 ≤ b ∧ b < n ∧ 1 ≤ x then (if (tkAt ss x).isSome then 4 else if room ≤ ss.length then 2 else 0) else 1
def pushS (n room : Nat) (ss : List Sd) (b x : Int) : List Sd := if pushC n room ss b x = 0 then ss ++ [⟨b, x⟩] else ss
def pullC (ss : List Sd) (x : Int) : Int := if (tkAt ss x).isSome then 0 else 3
def blockI (ss : List Sd) (x : Int) : Int := match tkAt ss x with | some k => (ss[k]?.getD default).b | none => 0
def pullS (ss : List Sd) (x : Int) : List Sd := match tkAt ss x with | some k => ss.take k ++ ss.drop (k + 1) | none => ss
end Go.Proofs.YtlfnncahhbbmpaaGreatDoor

namespace Go.Proofs.YtlfnncahhbbmpaaGreatDoor
open Go.RowKit Go.Maps
set_option linter.unusedVariables false
set_option maxRecDepth 100000

theorem lawI11 : Keyed Tryz.prog 3 := int_keyed Tryz.underlying3
theorem zeroI11 (w : World) : (zeroValue 3).run Tryz.prog w = .ok (.int .i64 0) w := by kernel_rfl
theorem keyI11 (x : Int) : WideAt.IsKeyLit (.int .i64 x) := trivial
theorem wf_i11 (x : Int) (h : -9223372036854775808 ≤ x ∧ x ≤ 9223372036854775807) : (Lit.int .i64 x).wf = true := WalkArith.wf_i64 h

/-- does a ticket stand anywhere? -/
def hasK (ss : List Sd) (x : Int) : Bool := ss.any (fun s => s.k == x)
theorem hasK_iff {ss : List Sd} {x : Int} : hasK ss x = true ↔ ∃ s ∈ ss, s.k = x := by
  unfold hasK
  rw [List.any_eq_true]
  simp
theorem tk_has (ss : List Sd) (x : Int) : (tkAt ss x).isSome = hasK ss x := by
  unfold tkAt hasK
  rw [List.findIdx?_isSome]
/-- tickets, each of them once -/
def Once11 (ss : List Sd) : Prop := ss.Pairwise (fun a b => a.k ≠ b.k)
/-- all but one ticket -/
def cutK (ss : List Sd) (x : Int) : List Sd := ss.filter (fun s => !(s.k == x))
theorem hasK_cut (ss : List Sd) (x y : Int) : hasK (cutK ss x) y = (hasK ss y && !(y == x)) := by
  rw [Bool.eq_iff_iff]
  simp only [hasK_iff, Bool.and_eq_true]
  constructor
  · rintro ⟨e, he, rfl⟩
    have := List.mem_filter.1 he
    exact ⟨⟨e, this.1, rfl⟩, this.2⟩
  · rintro ⟨⟨e, he, rfl⟩, k⟩
    exact ⟨e, List.mem_filter.2 ⟨he, k⟩, rfl⟩
theorem Once11.cut {ss : List Sd} (h : Once11 ss) (x : Int) : Once11 (cutK ss x) := h.filter _
theorem Once11.more {ss : List Sd} (h : Once11 ss) (b x : Int) (hx : hasK ss x = false) : Once11 (ss ++ [⟨b, x⟩]) := by
  unfold Once11
  rw [List.pairwise_append]
  refine ⟨h, List.pairwise_singleton _ _, fun a ha c hc => ?_⟩
  rw [List.mem_singleton.1 hc]
  rintro e
  have : hasK ss x = true := hasK_iff.2 ⟨a, ha, e⟩
  rw [hx] at this; cases this
theorem Once11.inj : ∀ {ss : List Sd}, Once11 ss → ∀ {a b : Sd}, a ∈ ss → b ∈ ss → a.k = b.k → a = b
  | [], _, _, _, ha, _, _ => by cases ha
  | s :: r, h, a, b, ha, hb, e => by
    have h' := List.pairwise_cons.1 h
    rcases List.mem_cons.1 ha with rfl | ha'
    · rcases List.mem_cons.1 hb with rfl | hb'
      · rfl
      · exact absurd e (h'.1 b hb')
    · rcases List.mem_cons.1 hb with rfl | hb'
      · exact absurd e.symm (h'.1 a ha')
      · exact Once11.inj (show Once11 r from h'.2) ha' hb' e

/-- what a map reads as: of each ticket that stands anywhere its block -/
def Reads11 (D : DataW Unit) (ss : List Sd) : Prop := (∀ x, has D (.int .i64 x) = hasK ss x) ∧ ∀ s ∈ ss, ∀ z, D.atKey (.int .i64 s.k) z = .lit (.int .i64 s.b)
theorem Reads11.nil : Reads11 (.map []) [] := ⟨fun _ => rfl, fun _ h => by cases h⟩
theorem lit_ne11 {x y : Int} (h : y ≠ x) : (Lit.int .i64 y) ≠ Lit.int .i64 x := fun k => h (by injection k)
theorem Reads11.del {D : DataW Unit} {ss : List Sd} (h : Reads11 D ss) (x : Int) : Reads11 (D.del (.int .i64 x)) (cutK ss x) := by
  refine ⟨fun y => ?_, fun e he z => ?_⟩
  · rw [hasK_cut]
    by_cases k : y = x
    · subst k
      rw [has_del_same]
      simp
    · rw [has_del_other (lit_ne11 k), h.1]
      simp [k]
  · have he' := List.mem_filter.1 he
    have : e.k ≠ x := by simpa using he'.2
    rw [atKey_del_other (lit_ne11 this)]
    exact h.2 e he'.1 z
theorem Reads11.put {D : DataW Unit} {ss : List Sd} (h : Reads11 D ss) (m : IsMap D) (b x : Int) (hx : hasK ss x = false) : Reads11 (D.put (.int .i64 x) (.lit (.int .i64 b))) (ss ++ [⟨b, x⟩]) := by
  have hx' : ∀ e ∈ ss, e.k ≠ x := fun e he q => by
    have : hasK ss x = true := hasK_iff.2 ⟨e, he, q⟩
    rw [hx] at this; cases this
  refine ⟨fun y => ?_, fun e he z => ?_⟩
  · by_cases k : y = x
    · subst k
      rw [has_put_same m (keyI11 _)]
      simp [hasK]
    · rw [has_put_other (lit_ne11 k), h.1]
      have : (x == y) = false := by simp; exact fun q => k q.symm
      simp [hasK, this]
  · rcases List.mem_append.1 he with he' | he'
    · rw [atKey_put_other (lit_ne11 (hx' e he'))]
      exact h.2 e he' z
    · rw [List.mem_singleton.1 he', atKey_put_same m (keyI11 _)]
/-- what a lookup finds -/
theorem blockI_of {ss : List Sd} (o : Once11 ss) {s : Sd} (hs : s ∈ ss) : blockI ss s.k = s.b := by
  unfold blockI
  cases hk : tkAt ss s.k with
  | none =>
    obtain ⟨i, hi, e⟩ := List.getElem_of_mem hs
    exact absurd rfl (tk_none hk i s (by rw [List.getElem?_eq_getElem hi, e]))
  | some k =>
    obtain ⟨u, hu, e, _⟩ := tk_of hk
    have : u = s := o.inj (List.mem_of_getElem? hu) hs e
    simp [hu, this]
theorem Reads11.at_ {D : DataW Unit} {ss : List Sd} (h : Reads11 D ss) (o : Once11 ss) (x c : Int) (z : DataW Unit) (hc : hasK ss x = true) (e : D.atKey (.int .i64 x) z = .lit (.int .i64 c)) : c = blockI ss x := by
  obtain ⟨s, hs, rfl⟩ := hasK_iff.1 hc
  rw [h.2 s hs z] at e
  rw [blockI_of o hs]
  injection e with e
  injection e with _ e
  exact e.symm

/-- every key is a number -/
theorem key_int11 {w : World} {b n : Nat} {D : DataW Unit} (h : w.ownsMap Tryz.prog 3 (plainElem Tryz.prog 3) b n D) : ∀ kl, has D kl = true → ∃ x, kl = .int .i64 x := by
  intro kl hk
  obtain ⟨es, clock, hb, F, _, rfl⟩ := h
  obtain ⟨p, hp, hpk⟩ := List.any_eq_true.1 hk
  obtain ⟨x, hx, rfl⟩ := List.mem_map.1 (mem_sorted.1 hp)
  obtain ⟨y, hy⟩ := F.reads x hx
  rw [WideElems.rg_of hy] at hpk
  obtain ⟨a, _, e2, _⟩ := keyOf_int_inv Tryz.underlying3 (WideElems.rd_key hy)
  have := WideAt.sameKey_eq hpk
  exact ⟨a, by rw [← this, e2]⟩
theorem tight11 {w : World} {b n : Nat} {D : DataW Unit} (h : w.ownsMap Tryz.prog 3 (plainElem Tryz.prog 3) b n D) : w.ownsMap Tryz.prog 3 (plainElem Tryz.prog 3) b (size D) D := by
  obtain ⟨es, clock, hb, F, _, rfl⟩ := h
  exact ⟨es, clock, hb, F, by rw [size_eq, length_sorted]; simp, rfl⟩
theorem sub_len11 {α : Type} [DecidableEq α] : ∀ (l l' : List α), l.Nodup → (∀ x ∈ l, x ∈ l') → l.length ≤ l'.length
  | [], _, _, _ => Nat.zero_le _
  | a :: r, l', hn, hs => by
    obtain ⟨h1, h2⟩ := List.nodup_cons.1 hn
    have ha : a ∈ l' := hs a (by simp)
    have := sub_len11 r (l'.erase a) h2 (fun x hx => by
      have hx' : x ∈ l' := hs x (by simp [hx])
      exact (List.mem_erase_of_ne (fun q => h1 (by rw [← q]; exact hx))).2 hx')
    rw [List.length_erase_of_mem ha] at this
    have : 0 < l'.length := List.length_pos_of_mem ha
    simp only [List.length_cons]
    omega
theorem same_len11 {α : Type} [DecidableEq α] {l l' : List α} (h : l.Nodup) (h' : l'.Nodup) (k : ∀ x, x ∈ l ↔ x ∈ l') : l.length = l'.length :=
  Nat.le_antisymm (sub_len11 l l' h (fun x hx => (k x).1 hx)) (sub_len11 l' l h' (fun x hx => (k x).2 hx))
theorem Reads11.size {w : World} {b n : Nat} {D : DataW Unit} {ss : List Sd} (h : Reads11 D ss) (o : w.ownsMap Tryz.prog 3 (plainElem Tryz.prog 3) b n D) (hn : Once11 ss) : size D = ss.length := by
  have KI := key_int11 o
  obtain ⟨ps, rfl, hp, hk⟩ := o.entries lawI11
  show ps.length = ss.length
  have e1 : (ps.map (fun p => match p.1 with | .int .i64 x => x | _ => 0)).length = ps.length := List.length_map _
  have e2 : (ss.map (fun e => e.k)).length = ss.length := List.length_map _
  rw [← e1, ← e2]
  have hi : ∀ p ∈ ps, ∃ x, p.1 = .int .i64 x := fun p hp' => KI p.1 (List.any_eq_true.2 ⟨p, hp', WideAt.sameKey_self (hk p hp')⟩)
  refine same_len11 ?_ (by unfold List.Nodup; rw [List.pairwise_map]; exact hn) ?_
  · unfold List.Nodup
    rw [List.pairwise_map]
    refine hp.imp_of_mem ?_
    intro p q hp1 hq1 hne e
    obtain ⟨x, hx⟩ := hi p hp1
    obtain ⟨y, hy⟩ := hi q hq1
    simp only [hx, hy] at e
    exact hne (by rw [hx, hy, e])
  · intro x
    have h1 := h.1 x
    constructor
    · intro hm
      obtain ⟨p, hp1, e⟩ := List.mem_map.1 hm
      obtain ⟨y, hy⟩ := hi p hp1
      simp only [hy] at e
      subst e
      have : has (DataW.map ps) (.int .i64 y) = true := List.any_eq_true.2 ⟨p, hp1, by rw [hy]; exact WideAt.sameKey_self (keyI11 _)⟩
      rw [h1] at this
      obtain ⟨a, ha, e⟩ := hasK_iff.1 this
      exact List.mem_map.2 ⟨a, ha, e⟩
    · intro hm
      obtain ⟨a, ha, e⟩ := List.mem_map.1 hm
      rw [hasK_iff.2 ⟨a, ha, e⟩] at h1
      obtain ⟨p, hp1, hpk⟩ := List.any_eq_true.1 h1
      have := WideAt.sameKey_eq hpk
      exact List.mem_map.2 ⟨p, hp1, by simp only [this]⟩

/-- block b is a map that has just these tickets -/
def Md11 (w : World) (b : Nat) (ss : List Sd) : Prop := ∃ D, w.ownsMap Tryz.prog 3 (plainElem Tryz.prog 3) b ss.length D ∧ Reads11 D ss
theorem Md11.of {w : World} {b n : Nat} {D : DataW Unit} {ss : List Sd} (o : w.ownsMap Tryz.prog 3 (plainElem Tryz.prog 3) b n D) (h : Reads11 D ss) (hn : Once11 ss) : Md11 w b ss :=
  ⟨D, by rw [← h.size o hn]; exact tight11 o, h⟩
theorem owns_keep11 {w w' : World} {b n : Nat} {D : DataW Unit} (h : w.ownsMap Tryz.prog 3 (plainElem Tryz.prog 3) b n D) {S : Nat → Prop} (o : Only S w w') (hn : ¬ S b) : w'.ownsMap Tryz.prog 3 (plainElem Tryz.prog 3) b n D := by
  have lt := h.lt
  obtain ⟨es, clock, hb, r⟩ := h
  exact ⟨es, clock, (o.block b lt hn).trans hb, r⟩
theorem Md11.keep {w w' : World} {b : Nat} {ss : List Sd} (h : Md11 w b ss) {S : Nat → Prop} (o : Only S w w') (hn : ¬ S b) : Md11 w' b ss := by
  obtain ⟨D, h1, h2⟩ := h
  exact ⟨D, owns_keep11 h1 o hn, h2⟩
theorem Md11.lt {w : World} {b : Nat} {ss : List Sd} (h : Md11 w b ss) : b < w.heap.size := by
  obtain ⟨D, h1, _⟩ := h
  exact h1.lt
theorem Md11.ne {w : World} {p b : Nat} {ss : List Sd} {t : TypeId} {cs : Array Value} (h : Md11 w b ss) (r : Row w p t cs) : p ≠ b := by
  rintro rfl
  obtain ⟨D, ⟨es, clock, hb, _⟩, _⟩ := h
  unfold Row at r
  rw [r] at hb
  cases hb
theorem Md11.still {w w' : World} {b : Nat} {ss : List Sd} (h : Md11 w b ss) (o : Only none_ w w') : Md11 w' b ss := h.keep o (fun s => s)
theorem only_turned11 {w w' : World} {b : Nat} (h : w.mapTurned w' b) : Only (fun k => k = b) w w' := (Only.of_grown h.grown).more (fun i _ e => by injection e)
theorem Md11.len {w : World} {b : Nat} {ss : List Sd} (h : Md11 w b ss) (hn : Once11 ss) (ty : TypeId) : (Builtin.len_ #[68] ty #[.map (some b)]).run Tryz.prog w = .ok (.int .i64 ss.length) w := by
  obtain ⟨D, h1, h2⟩ := h
  have := h1.len Tryz.underlying68 ty
  rw [h2.size h1 hn] at this
  exact this
theorem store11 {w : World} {b : Nat} {ss : List Sd} (h : Md11 w b ss) (hn : Once11 ss) (hl : ss.length ≤ 1000) (x c : Int) (hx : hasK ss x = false) (wx : (Lit.int .i64 x).wf = true) (wc : (Lit.int .i64 c).wf = true) :
    ∃ w', (Instr.mapUpdate 68 (.map (some b)) (.int .i64 x) (.int .i64 c)).run Tryz.prog w = .ok () w' ∧ Md11 w' b (ss ++ [⟨c, x⟩]) ∧ Only (fun k => k = b) w w' := by
  obtain ⟨D, h1, h2⟩ := h
  have IM : IsMap D := let ⟨es, _, _, _, _, e⟩ := h1; ⟨_, e⟩
  obtain ⟨w', e1, e2, e3⟩ := h1.store lawI11 Tryz.underlying68 (by unfold maxLen; omega) (keyOf_int_mk Tryz.underlying3 wx) (plainElem_int Tryz.underlying3 wc)
  exact ⟨w', e1, Md11.of e2 (h2.put IM c x hx) (hn.more c x hx), only_turned11 e3⟩
end Go.Proofs.YtlfnncahhbbmpaaGreatDoor

namespace Go.Proofs.YtlfnncahhbbmpaaGreatDoor
open Go.RowKit
set_option linter.unusedVariables false
set_option maxRecDepth 100000

theorem Bl.congr {m m' : Nat → Int} {c : Sc} {b : Ca} (h : Bl m c b) (f : c.Fine) (e : ∀ j, c.inn j → m' j = m j) : Bl m' c b := by
  refine ⟨h.n, h.bot, ?_, ?_, fun a d ha hd q => h.inj a d ha hd (by rw [← e a ha, ← e d hd]; exact q), h.up, fun y => ?_, h.want, h.miss, h.hits, fun j hj => by rw [e j hj]; exact h.us j hj, h.len⟩
  · rw [h.l0]; exact List.map_congr_left fun j hj => (e j (.inl hj)).symm
  · rw [h.l1]; exact List.map_congr_left fun j hj => (e j (.inr hj)).symm
  · rw [h.hm y]
    exact ⟨fun ⟨j, hj, q⟩ => ⟨j, hj, by rw [e j (lst_ne.1 (f.held j hj))]; exact q⟩, fun ⟨j, hj, q⟩ => ⟨j, hj, by rw [← e j (lst_ne.1 (f.held j hj))]; exact q⟩⟩
def mpF (ss : List Sd) (j : Nat) : Int := blockI ss j
theorem mpF_more {ss : List Sd} (o : Once11 ss) {i : Nat} (x : Int) (h : hasK ss i = false) : ∀ j, (j = i ∨ hasK ss j = true) → mpF (ss ++ [⟨x, i⟩]) j = upM (mpF ss) i x j := by
  intro j hj
  have o2 := o.more x i h
  unfold upM mpF
  by_cases e : j = i
  · subst e
    rw [if_pos rfl]
    exact blockI_of o2 (s := ⟨x, j⟩) (by simp)
  · rw [if_neg e]
    obtain ⟨s, hs, k⟩ := hasK_iff.1 (hj.resolve_left e)
    rw [← k]
    rw [blockI_of o hs, blockI_of o2 (by simp [hs])]
theorem mpF_cut {ss : List Sd} (o : Once11 ss) {i j : Nat} (e : j ≠ i) (h : hasK ss j = true) : mpF (cutK ss i) j = mpF ss j := by
  obtain ⟨s, hs, k⟩ := hasK_iff.1 h
  unfold mpF
  rw [← k, blockI_of o hs, blockI_of (o.cut i)]
  unfold cutK
  rw [List.mem_filter]
  refine ⟨hs, ?_⟩
  have : s.k ≠ i := fun q => e (by omega)
  simp [this]

/-- the policy over frames c, each frame's block in the map ss, is the policy over blocks b -/
structure Bm (ss : List Sd) (c : Sc) (b : Ca) : Prop where
  bl : Bl (mpF ss) c b
  f : c.Fine
  once : Once11 ss
  key : ∀ x, hasK ss x = true ↔ ∃ i : Nat, x = i ∧ c.inn i
theorem Bm.new {n bot : Nat} (h1 : 1 ≤ bot) (h2 : bot ≤ n) (h3 : n ≤ 64) : Bm [] (newSc n bot) (newCa n bot) :=
  ⟨bl_new _ n bot, fine_newSc h1 h2 h3, List.Pairwise.nil, fun x => ⟨fun h => (by cases h), fun ⟨i, _, h⟩ => absurd h (not_in_new n bot i)⟩⟩
theorem hasK_no {ss : List Sd} {x : Int} : hasK ss x = false ↔ ∀ s ∈ ss, s.k ≠ x := by
  rw [Bool.eq_false_iff, ne_eq, hasK_iff]
  exact ⟨fun h s hs e => h ⟨s, hs, e⟩, fun h ⟨s, hs, e⟩ => h s hs e⟩
section
variable {ss : List Sd} {c : Sc} {b : Ca}
theorem Bm.inn_lt (h : Bm ss c b) {i : Nat} (hi : c.inn i) : i < c.s.n := by
  rcases hi with q | q
  · exact h.f.s.lt0 i q
  · exact h.f.s.lt1 i q
theorem Bm.at_ (h : Bm ss c b) {s : Sd} (hs : s ∈ ss) : ∃ i : Nat, s.k = i ∧ c.inn i ∧ mpF ss i = s.b := by
  obtain ⟨i, e, hi⟩ := (h.key s.k).1 (hasK_iff.2 ⟨s, hs, rfl⟩)
  refine ⟨i, e, hi, ?_⟩
  unfold mpF
  rw [← e]
  exact blockI_of h.once hs
theorem Bm.in_iff (h : Bm ss c b) (x : Int) : b.inL x ≠ -1 ↔ ∃ s ∈ ss, s.b = x := by
  rw [h.bl.inL_iff]
  constructor
  · rintro ⟨i, hi, e⟩
    obtain ⟨s, hs, k⟩ := hasK_iff.1 ((h.key i).2 ⟨i, rfl, hi⟩)
    refine ⟨s, hs, ?_⟩
    rw [← e]
    unfold mpF
    rw [← k]
    exact (blockI_of h.once hs).symm
  · rintro ⟨s, hs, e⟩
    obtain ⟨i, _, hi, m⟩ := h.at_ hs
    exact ⟨i, hi, by rw [m, e]⟩
theorem Bm.keys (h : Bm ss c b) : (ss.map (fun s => s.k.toNat)).Nodup := by
  rw [List.Nodup, List.pairwise_map]
  refine List.Pairwise.imp_of_mem (R := fun (a b : Sd) => a.k ≠ b.k) (fun {a b} ha hb q => ?_) (show List.Pairwise (fun (a b : Sd) => a.k ≠ b.k) ss from h.once)
  obtain ⟨i, ei, _, _⟩ := h.at_ ha
  obtain ⟨j, ej, _, _⟩ := h.at_ hb
  rw [ei, ej] at q
  rw [ei, ej, Int.toNat_natCast, Int.toNat_natCast]
  exact fun e => q (by rw [e])
theorem Bm.both (h : Bm ss c b) : (c.s.l0 ++ c.s.l1).Nodup := List.nodup_append.2 ⟨h.f.s.nd0, h.f.s.nd1, fun a ha d hd e => h.f.s.apart a ha (e ▸ hd)⟩
theorem Bm.len_n (h : Bm ss c b) : c.s.l0.length + c.s.l1.length ≤ c.s.n := by
  have := sub_len (m := List.range c.s.n) h.both (fun x hx => List.mem_range.2 (h.inn_lt (List.mem_append.1 hx)))
  rw [List.length_append, List.length_range] at this
  exact this
theorem Bm.len_ss (h : Bm ss c b) : ss.length ≤ 64 := by
  have := sub_len (m := List.range c.s.n) h.keys (fun x hx => by
    obtain ⟨s, hs, e⟩ := List.mem_map.1 hx
    obtain ⟨i, ei, hi, _⟩ := h.at_ hs
    rw [ei, Int.toNat_natCast] at e
    rw [← e]
    exact List.mem_range.2 (h.inn_lt hi))
  rw [List.length_map, List.length_range] at this
  have := h.f.s.n64
  omega
theorem Bm.not_key (h : Bm ss c b) (i : Nat) : hasK ss i = false ↔ ¬ c.inn i := by
  rw [Bool.eq_false_iff, ne_eq, h.key]
  exact ⟨fun q hi => q ⟨i, rfl, hi⟩, fun q ⟨j, e, hj⟩ => q (by rw [Int.ofNat_inj.1 e]; exact hj)⟩
/-- a frame that has no block: the first -/
def freeF (ss : List Sd) (n : Nat) : Option Nat := (List.range n).find? (fun i => !hasK ss (i : Nat))
theorem Bm.free (h : Bm ss c b) : (freeF ss c.s.n).isSome = decide (b.l0.length + b.l1.length < b.n) := by
  rw [h.bl.len0, h.bl.len1, h.bl.n]
  unfold freeF
  rw [Bool.eq_iff_iff, List.find?_isSome, decide_eq_true_eq]
  constructor
  · rintro ⟨i, hi, q⟩
    have hi := List.mem_range.1 hi
    have ni : ¬ c.inn i := (h.not_key i).1 (by simpa using q)
    have nd : (i :: (c.s.l0 ++ c.s.l1)).Nodup := List.nodup_cons.2 ⟨fun e => ni (List.mem_append.1 e), h.both⟩
    have := sub_len (m := List.range c.s.n) nd (fun x hx => by
      rcases List.mem_cons.1 hx with rfl | hx
      · exact List.mem_range.2 hi
      · exact List.mem_range.2 (h.inn_lt (List.mem_append.1 hx)))
    rw [List.length_cons, List.length_append, List.length_range] at this
    omega
  · intro q
    refine Classical.byContradiction fun k => ?_
    have all : ∀ x ∈ List.range c.s.n, x ∈ c.s.l0 ++ c.s.l1 := fun x hx => by
      refine List.mem_append.2 (Classical.byContradiction fun ni => k ⟨x, hx, ?_⟩)
      rw [(h.not_key x).2 ni]; rfl
    have := sub_len List.nodup_range all
    rw [List.length_append, List.length_range] at this
    omega
theorem free_of {n i : Nat} (h : freeF ss n = some i) : i < n ∧ hasK ss i = false ∧ ∀ j, j < i → hasK ss j = true := by
  unfold freeF at h
  rw [List.find?_range_eq_some] at h
  obtain ⟨h1, h2, h3⟩ := h
  exact ⟨List.mem_range.1 h2, by simpa using h1, fun j hj => by simpa using h3 j hj⟩
theorem Bm.lst (h : Bm ss c b) {i : Nat} (hi : c.inn i) : c.s.lst i ≠ -1 := lst_ne.2 hi
/-- the blocks that are in and held -/
theorem Bm.readyB_in (h : Bm ss c b) {i : Nat} (hi : c.inn i) : b.readyB (mpF ss i) = c.s.h i := by
  unfold Ca.readyB
  rw [Bool.eq_iff_iff, decide_eq_true_eq]
  exact h.bl.held h.f hi
theorem Bm.readyB_out (h : Bm ss c b) {x : Int} (q : b.inL x = -1) : b.readyB x = false := by
  unfold Ca.readyB
  refine decide_eq_false fun k => ?_
  obtain ⟨i, hi, e⟩ := (h.bl.hm x).1 k
  exact h.bl.no q (lst_ne.1 (h.f.held i hi)) e
theorem Bm.ready (h : Bm ss c b) {i : Nat} (hi : c.inn i) (q : c.s.h i = true) : c.readyC i = 0 ∧ Bm ss (c.readyS i) (b.ready (mpF ss i)) := by
  have hl := h.inn_lt hi
  have eC : c.readyC i = 0 := by
    unfold Sc.readyC
    rw [show hasN c.s.n i = true from decide_eq_true ⟨Int.natCast_nonneg _, by omega⟩, if_pos rfl, Int.toNat_natCast, if_neg (h.lst hi), if_pos q]
  have f2 := h.f.readyS i
  refine ⟨eC, ?_⟩
  unfold Sc.readyS at f2 ⊢
  rw [if_pos eC, Int.toNat_natCast] at f2 ⊢
  exact ⟨h.bl.hold h.f hi hl false, f2, h.once, h.key⟩
theorem Bm.ready_no (h : Bm ss c b) {i : Nat} (hi : c.inn i) (q : c.s.h i = false) : c.readyC i = 5 := by
  have hl := h.inn_lt hi
  unfold Sc.readyC
  rw [show hasN c.s.n i = true from decide_eq_true ⟨Int.natCast_nonneg _, by omega⟩, if_pos rfl, Int.toNat_natCast, if_neg (h.lst hi), if_neg (by rw [q]; decide)]
theorem Bm.hit (h : Bm ss c b) {i : Nat} (hi : c.inn i) {k : Int} (q : hasL k = true) : c.hitC i k = 0 ∧ Bm ss (c.hitS i k) (b.hit (mpF ss i) k) := by
  have hl := h.inn_lt hi
  have eC : c.hitC i k = 0 := by
    unfold Sc.hitC
    rw [show hasN c.s.n i = true from decide_eq_true ⟨Int.natCast_nonneg _, by omega⟩, q]
    rw [if_pos (show (true && true) = true from rfl), Int.toNat_natCast, if_neg (h.lst hi)]
  have f2 := h.f.hitS i k
  refine ⟨eC, ?_⟩
  unfold Sc.hitS at f2 ⊢
  rw [if_pos eC, Int.toNat_natCast] at f2 ⊢
  refine ⟨h.bl.hit h.f hi k, f2, h.once, fun x => ?_⟩
  rw [h.key x]
  have e := hitW_s c i
  have u : ∀ j, ((c.hitW i).use k.toNat i).inn j ↔ j = i ∨ c.inn j := fun j => by
    rw [use_inn (h.f.hitW i).1.s]
    unfold Sc.inn
    rw [e]
  constructor
  · rintro ⟨j, ej, hj⟩; exact ⟨j, ej, (u j).2 (.inr hj)⟩
  · rintro ⟨j, ej, hj⟩
    rcases (u j).1 hj with rfl | hj
    · exact ⟨j, ej, hi⟩
    · exact ⟨j, ej, hj⟩
theorem Bm.hit_no (h : Bm ss c b) {i : Nat} {k : Int} (q : hasL k = false) : c.hitC i k = 1 := by
  unfold Sc.hitC
  rw [q, Bool.and_false]
  rfl
theorem Bm.missed (h : Bm ss c b) (k : Int) : Bm ss (c.missS k) (b.missed k) := by
  have e : (c.missS k).s = c.s := by
    unfold Sc.missS
    split
    · exact (weigh_s _).1
    · rfl
  refine ⟨h.bl.missed k, h.f.missS k, h.once, fun x => ?_⟩
  rw [h.key x]
  unfold Sc.inn
  rw [e]
theorem cutK_iff {x y : Int} : hasK (cutK ss x) y = true ↔ hasK ss y = true ∧ y ≠ x := by
  rw [hasK_cut, Bool.and_eq_true]
  simp
theorem Bm.dropped (h : Bm ss c b) {i : Nat} (hi : c.inn i) : Bm (cutK ss i) ⟨c.s.drop i, c.us, c.want, c.miss, c.hits⟩ (b.gone (mpF ss i)) := by
  have hl := h.inn_lt hi
  have f2 := h.f.dropped hl
  refine ⟨(h.bl.gone h.f hi hl).congr f2 (fun j hj => ?_), f2, h.once.cut i, fun x => ?_⟩
  · obtain ⟨e, hj⟩ := (drop_inn h.f.s i j).1 hj
    exact mpF_cut h.once e ((h.key j).2 ⟨j, rfl, hj⟩)
  · rw [cutK_iff, h.key]
    constructor
    · rintro ⟨⟨j, rfl, hj⟩, e⟩
      exact ⟨j, rfl, (drop_inn h.f.s i j).2 ⟨fun q => e (by rw [q]), hj⟩⟩
    · rintro ⟨j, rfl, hj⟩
      obtain ⟨e, hj⟩ := (drop_inn h.f.s i j).1 hj
      exact ⟨⟨j, rfl, hj⟩, fun q => e (by omega)⟩
theorem Bm.lies (h : Bm ss c b) {i : Nat} (hi : c.inn i) : c.s.liesC i = 0 := by
  have hl := h.inn_lt hi
  unfold Sh.liesC
  rw [show hasN c.s.n i = true from decide_eq_true ⟨Int.natCast_nonneg _, by omega⟩, if_pos rfl, Int.toNat_natCast, if_neg (h.lst hi)]
theorem Bm.gone (h : Bm ss c b) {i : Nat} (hi : c.inn i) : Bm (cutK ss i) (c.goneS i) (b.gone (mpF ss i)) := by
  unfold Sc.goneS Sh.dropS
  rw [if_pos (h.lies hi), Int.toNat_natCast]
  exact h.dropped hi
theorem Bm.victim (h : Bm ss c b) : b.victim = c.victim.map (mpF ss) := h.bl.victim h.f
theorem victim_inn (f : c.Fine) {i : Nat} (e : c.victim = some i) : c.inn i := lst_ne.1 (victim_in f e).2.1
theorem Bm.victimS (h : Bm ss c b) {i : Nat} (e : c.victim = some i) : Bm (cutK ss i) c.victimS (b.gone (mpF ss i)) := by
  unfold Sc.victimS
  rw [e]
  exact h.dropped (victim_inn h.f e)
theorem Bm.enter (h : Bm ss c b) {i : Nat} (hl : i < c.s.n) (hi : hasK ss i = false) {x : Int} (hx : b.inL x = -1) {k : Int} (q : hasL k = true) : c.enterC i k = 0 ∧ Bm (ss ++ [⟨x, i⟩]) (c.enterS i k) (b.enter x k) := by
  have ni := (h.not_key i).1 hi
  have l1 : c.s.lst i = -1 := Classical.byContradiction fun e => ni (lst_ne.1 e)
  have eC : c.enterC i k = 0 := by
    unfold Sc.enterC
    rw [show hasN c.s.n i = true from decide_eq_true ⟨Int.natCast_nonneg _, by omega⟩, q]
    rw [if_pos (show (true && true) = true from rfl), Int.toNat_natCast, if_pos l1]
  have f2 := h.f.enterS i k
  refine ⟨eC, ?_⟩
  unfold Sc.enterS at f2 ⊢
  rw [if_pos eC, Int.toNat_natCast] at f2 ⊢
  obtain ⟨k, rfl⟩ : ∃ j : Nat, k = j := ⟨k.toNat, by rcases hasL_cases q with rfl | rfl <;> rfl⟩
  rw [Int.toNat_natCast] at f2 ⊢
  have u : ∀ j, Sc.inn ⟨(c.s.front k i).hold i true, c.us ++ [i], c.want, c.miss, c.hits⟩ j ↔ j = i ∨ c.inn j := fun j => use_inn h.f.s k i j
  refine ⟨(h.bl.enter h.f ni hl hx k (h.f.use k hl)).congr f2 (fun j hj => ?_), f2, h.once.more x i hi, fun y => ?_⟩
  · rcases (u j).1 hj with rfl | hj
    · exact mpF_more h.once x hi j (.inl rfl)
    · exact mpF_more h.once x hi j (.inr ((h.key j).2 ⟨j, rfl, hj⟩))
  · have : hasK (ss ++ [⟨x, i⟩]) y = true ↔ hasK ss y = true ∨ y = i := by
      rw [hasK_iff, hasK_iff]
      constructor
      · rintro ⟨s, hs, e⟩
        rcases List.mem_append.1 hs with hs | hs
        · exact .inl ⟨s, hs, e⟩
        · rw [List.mem_singleton.1 hs] at e; exact .inr e.symm
      · rintro (⟨s, hs, e⟩ | rfl)
        · exact ⟨s, by simp [hs], e⟩
        · exact ⟨⟨x, i⟩, by simp, rfl⟩
    rw [this, h.key]
    constructor
    · rintro (⟨j, e, hj⟩ | rfl)
      · exact ⟨j, e, (u j).2 (.inr hj)⟩
      · exact ⟨i, rfl, (u i).2 (.inl rfl)⟩
    · rintro ⟨j, e, hj⟩
      rcases (u j).1 hj with rfl | hj
      · exact .inr e
      · exact .inl ⟨j, e, hj⟩
theorem Bm.enter_no (h : Bm ss c b) {i : Nat} {k : Int} (q : hasL k = false) : c.enterC i k = 1 := by
  unfold Sc.enterC
  rw [q, Bool.and_false]
  rfl
end
end Go.Proofs.YtlfnncahhbbmpaaGreatDoor

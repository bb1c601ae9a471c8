/- Texts of the layers below, side by side. -/
import Init
import Derived.Test.YtfbpjobobdidiaaGreatDoorGrpA
import Derived.Test.YtfbpjobobdidiaaGreatDoorChecked
import Derived.Deep.QuietTactic
import Derived.BigQuiet
import Derived.BigRegion
import Derived.Laws.Rows
import Derived.Laws.Tables
import Derived.Deep.WholeRow
import Derived.Lib.MinMax
import Derived.Deep.RegionHeld3
import Derived.WalkMore
import Derived.LoopN
import Derived.StillTailTactics
/- Plain facts of runs: the run around a block, the runs that have some blocks, what two runs have in common. -/
namespace Go.Proofs.YtfbpjobobdidiaaGreatDoor

structure Rn where
  f : Int
  c : Int
  deriving DecidableEq
instance : Inhabited Rn := ⟨⟨0, 0⟩⟩
def Rn.Ok (r : Rn) : Prop := 0 ≤ r.f ∧ 1 ≤ r.c ∧ r.c ≤ 256 ∧ r.f ≤ 256 - r.c
instance (r : Rn) : Decidable r.Ok := by unfold Rn.Ok; infer_instance
def Rn.Has (r : Rn) (x : Int) : Prop := r.Ok ∧ r.f ≤ x ∧ x - r.f < r.c
instance (r : Rn) (x : Int) : Decidable (r.Has x) := by unfold Rn.Has; infer_instance
theorem Rn.ext_ {a b : Rn} (h : a.f = b.f) (k : a.c = b.c) : a = b := by cases a; cases b; simp_all

def lowOf (a b : Rn) : Int := if a.f ≤ b.f then b.f else a.f
def endOf (a b : Rn) : Int := if a.f + a.c ≤ b.f + b.c then a.f + a.c else b.f + b.c
def meet (a b : Rn) : Rn := if a.Ok ∧ b.Ok ∧ lowOf a b < endOf a b then ⟨lowOf a b, endOf a b - lowOf a b⟩ else ⟨0, 0⟩
theorem low_cases (a b : Rn) : (a.f ≤ b.f ∧ lowOf a b = b.f) ∨ (b.f ≤ a.f ∧ lowOf a b = a.f) := by
  unfold lowOf
  by_cases h : a.f ≤ b.f
  · exact .inl ⟨h, if_pos h⟩
  · exact .inr ⟨by omega, if_neg h⟩
theorem end_cases (a b : Rn) : (a.f + a.c ≤ b.f + b.c ∧ endOf a b = a.f + a.c) ∨ (b.f + b.c ≤ a.f + a.c ∧ endOf a b = b.f + b.c) := by
  unfold endOf
  by_cases h : a.f + a.c ≤ b.f + b.c
  · exact .inl ⟨h, if_pos h⟩
  · exact .inr ⟨by omega, if_neg h⟩
theorem meet_yes {a b : Rn} (h : a.Ok) (k : b.Ok) (l : lowOf a b < endOf a b) : meet a b = ⟨lowOf a b, endOf a b - lowOf a b⟩ := if_pos ⟨h, k, l⟩
theorem meet_no {a b : Rn} (h : ¬ (a.Ok ∧ b.Ok ∧ lowOf a b < endOf a b)) : meet a b = ⟨0, 0⟩ := if_neg h
theorem not_ok0 : ¬ (Rn.mk 0 0).Ok := by unfold Rn.Ok; decide
/-- which blocks it has -/
theorem meet_cases (a b : Rn) : (a.Ok ∧ b.Ok ∧ (meet a b).Ok ∧ (∀ x, (meet a b).Has x ↔ a.Has x ∧ b.Has x) ∧ (∃ x, a.Has x ∧ b.Has x)) ∨ (meet a b = ⟨0, 0⟩ ∧ ∀ x, ¬ (a.Has x ∧ b.Has x)) := by
  by_cases h : a.Ok ∧ b.Ok ∧ lowOf a b < endOf a b
  · obtain ⟨h1, h2, h3⟩ := h
    refine .inl ⟨h1, h2, ?_⟩
    rw [meet_yes h1 h2 h3]
    have q1 := low_cases a b
    have q2 := end_cases a b
    generalize lowOf a b = l at *
    generalize endOf a b = e at *
    unfold Rn.Has Rn.Ok at *
    refine ⟨by dsimp only; omega, fun x => ?_, l, ?_⟩
    · dsimp only
      omega
    · omega
  · refine .inr ⟨meet_no h, fun x => ?_⟩
    have q1 := low_cases a b
    have q2 := end_cases a b
    generalize lowOf a b = l at *
    generalize endOf a b = e at *
    unfold Rn.Has Rn.Ok at *
    omega
/-- runs with the same blocks are one -/
theorem same_of_has {a b : Rn} (ha : a.Ok) (hb : b.Ok) (h : ∀ x, a.Has x ↔ b.Has x) : a = b := by
  have h1 := h a.f
  have h2 := h b.f
  have h3 := h (a.f + a.c - 1)
  have h4 := h (b.f + b.c - 1)
  unfold Rn.Has Rn.Ok at *
  apply Rn.ext_ <;> omega
/-- as good as: a run with blocks, or 0 and 0 -/
def Fair (r : Rn) : Prop := r.Ok ∨ r = ⟨0, 0⟩
theorem meet_fair (a b : Rn) : Fair (meet a b) := by
  rcases meet_cases a b with ⟨_, _, h, _⟩ | ⟨h, _⟩
  · exact .inl h
  · exact .inr h
theorem meet_has (a b : Rn) (x : Int) : (meet a b).Has x ↔ a.Has x ∧ b.Has x := by
  rcases meet_cases a b with ⟨_, _, _, h, _⟩ | ⟨h, k⟩
  · exact h x
  · rw [h]
    exact ⟨fun q => absurd q.1 not_ok0, fun q => absurd q (k x)⟩
theorem fair_same {a b : Rn} (ha : Fair a) (hb : Fair b) (h : ∀ x, a.Has x ↔ b.Has x) : a = b := by
  have first : ∀ r : Rn, r.Ok → r.Has r.f := fun r q => by unfold Rn.Has Rn.Ok at *; omega
  rcases ha with ha | ha <;> rcases hb with hb | hb
  · exact same_of_has ha hb h
  · exact absurd ((h a.f).1 (first a ha)).1 (by rw [hb]; exact not_ok0)
  · exact absurd ((h b.f).2 (first b hb)).1 (by rw [ha]; exact not_ok0)
  · rw [ha, hb]
theorem meet_comm (a b : Rn) : meet b a = meet a b := fair_same (meet_fair _ _) (meet_fair _ _) (fun x => by rw [meet_has, meet_has]; exact And.comm)
theorem meet_assoc (a b c : Rn) : meet (meet a b) c = meet a (meet b c) := fair_same (meet_fair _ _) (meet_fair _ _) (fun x => by rw [meet_has, meet_has, meet_has, meet_has]; exact and_assoc)
theorem meet_left (a b : Rn) : meet a (meet a b) = meet a b := fair_same (meet_fair _ _) (meet_fair _ _) (fun x => by rw [meet_has, meet_has]; exact ⟨fun h => h.2, fun h => ⟨h.1, h⟩⟩)
theorem meet_bad {a b : Rn} (h : ¬ a.Ok) : meet a b = ⟨0, 0⟩ := meet_no (fun q => h q.1)
theorem meet_self {a : Rn} (h : a.Ok) : meet a a = a := fair_same (meet_fair _ _) (.inl h) (fun x => by rw [meet_has]; exact ⟨fun h => h.1, fun h => ⟨h, h⟩⟩)
/-- it is one of both just if that lies in the other -/
theorem meet_inside {a b : Rn} (h : a.Ok) : decide (meet a b = a) = decide (b.Ok ∧ b.f ≤ a.f ∧ a.f + a.c ≤ b.f + b.c) := by
  rw [Bool.eq_iff_iff]
  simp only [decide_eq_true_eq]
  constructor
  · intro q
    have h1 := (meet_has a b a.f).1 (by rw [q]; unfold Rn.Has Rn.Ok at *; omega)
    have h2 := (meet_has a b (a.f + a.c - 1)).1 (by rw [q]; unfold Rn.Has Rn.Ok at *; omega)
    unfold Rn.Has Rn.Ok at *
    omega
  · intro q
    refine fair_same (meet_fair _ _) (.inl h) (fun x => ?_)
    rw [meet_has]
    unfold Rn.Has Rn.Ok at *
    omega

def blocksOf (r : Rn) : List Int := if r.Ok then (List.range r.c.toNat).map (fun i : Nat => r.f + (i : Int)) else []
theorem blocks_len {r : Rn} (h : r.Ok) : (blocksOf r).length = r.c.toNat := by
  unfold blocksOf
  rw [if_pos h]
  simp

/-- what two runs have in common of the blocks below one -/
def part (a b : Rn) (i : Int) : Rn := if a.Ok ∧ b.Ok ∧ lowOf a b < endOf a b ∧ lowOf a b < i then ⟨lowOf a b, (if i ≤ endOf a b then i else endOf a b) - lowOf a b⟩ else ⟨0, 0⟩
theorem part_zero (a b : Rn) : part a b 0 = ⟨0, 0⟩ := by
  unfold part
  rw [if_neg]
  have := low_cases a b
  unfold Rn.Ok
  omega
theorem part_all (a b : Rn) : part a b 256 = meet a b := by
  by_cases h : a.Ok ∧ b.Ok ∧ lowOf a b < endOf a b
  · rw [meet_yes h.1 h.2.1 h.2.2]
    have h1 := low_cases a b
    have h2 := end_cases a b
    obtain ⟨k1, k2, k3⟩ := h
    unfold part
    have k4 : lowOf a b < 256 ∧ endOf a b ≤ 256 := by unfold Rn.Ok at k1 k2; omega
    rw [if_pos ⟨k1, k2, k3, k4.1⟩]
    by_cases e : (256 : Int) ≤ endOf a b
    · rw [if_pos e, show endOf a b = 256 by omega]
    · rw [if_neg e]
  · rw [meet_no h]
    unfold part
    rw [if_neg (fun q => h ⟨q.1, q.2.1, q.2.2.1⟩)]
theorem part_yes {a b : Rn} {i : Int} (k1 : a.Ok) (k2 : b.Ok) (k3 : lowOf a b < endOf a b) (j : lowOf a b < i) : part a b i = ⟨lowOf a b, (if i ≤ endOf a b then i else endOf a b) - lowOf a b⟩ := if_pos ⟨k1, k2, k3, j⟩
theorem part_not {a b : Rn} {i : Int} (h : ¬ (a.Ok ∧ b.Ok ∧ lowOf a b < endOf a b ∧ lowOf a b < i)) : part a b i = ⟨0, 0⟩ := if_neg h
theorem part_old {a b : Rn} {i : Int} (h : ¬ (a.Has i ∧ b.Has i)) : part a b (i + 1) = part a b i := by
  have h1 := low_cases a b
  have h2 := end_cases a b
  by_cases k : a.Ok ∧ b.Ok ∧ lowOf a b < endOf a b
  · obtain ⟨k1, k2, k3⟩ := k
    have h' : i < lowOf a b ∨ endOf a b ≤ i := by
      rcases Int.lt_or_le i (lowOf a b) with q | q
      · exact .inl q
      rcases Int.lt_or_le i (endOf a b) with q' | q'
      · exact absurd ⟨⟨k1, by omega, by omega⟩, k2, by omega, by omega⟩ h
      · exact .inr q'
    by_cases j : lowOf a b < i
    · have j1 : ¬ i + 1 ≤ endOf a b := by omega
      rw [part_yes k1 k2 k3 (show lowOf a b < i + 1 by omega), part_yes k1 k2 k3 j, if_neg j1]
      by_cases e : i ≤ endOf a b
      · rw [if_pos e, show endOf a b = i by omega]
      · rw [if_neg e]
    · rw [part_not (i := i + 1) (fun q => by omega), part_not (fun q => j q.2.2.2)]
  · rw [part_not (fun q => k ⟨q.1, q.2.1, q.2.2.1⟩), part_not (fun q => k ⟨q.1, q.2.1, q.2.2.1⟩)]
theorem part_new {a b : Rn} {i : Int} (h : a.Has i) (h' : b.Has i) : (part a b i = ⟨0, 0⟩ ∧ part a b (i + 1) = ⟨i, 1⟩) ∨ ∃ f c, part a b i = ⟨f, c⟩ ∧ c ≠ 0 ∧ 0 ≤ c ∧ c ≤ 256 ∧ part a b (i + 1) = ⟨f, c + 1⟩ := by
  have h1 := low_cases a b
  have h2 := end_cases a b
  obtain ⟨k1, a1, a2⟩ := h
  obtain ⟨k2, b1, b2⟩ := h'
  have k3 : lowOf a b < endOf a b := by omega
  by_cases j : lowOf a b < i
  · refine .inr ⟨lowOf a b, i - lowOf a b, ?_, by omega, by omega, by unfold Rn.Ok at k1 k2; omega, ?_⟩
    · rw [part_yes k1 k2 k3 j, if_pos (by omega)]
    · rw [part_yes k1 k2 k3 (show lowOf a b < i + 1 by omega), if_pos (by omega), show i + 1 - lowOf a b = i - lowOf a b + 1 by omega]
  · refine .inl ⟨part_not (fun q => j q.2.2.2), ?_⟩
    have e : lowOf a b = i := by omega
    rw [part_yes k1 k2 k3 (show lowOf a b < i + 1 by omega), if_pos (by omega), e, show i + 1 - i = 1 by omega]
/-- a run's blocks below one -/
def below (r : Rn) (i : Int) : List Int := if r.Ok then (List.range (if (i - r.f).toNat ≤ r.c.toNat then (i - r.f).toNat else r.c.toNat)).map (fun j : Nat => r.f + j) else []
theorem below_zero (r : Rn) : below r 0 = [] := by
  unfold below
  by_cases h : r.Ok
  · rw [if_pos h, if_pos (by unfold Rn.Ok at h; omega), show (0 - r.f).toNat = 0 by unfold Rn.Ok at h; omega]
    rfl
  · rw [if_neg h]
theorem below_all (r : Rn) : below r 256 = blocksOf r := by
  unfold below blocksOf
  by_cases h : r.Ok
  · rw [if_pos h, if_pos h]
    by_cases k : (256 - r.f).toNat ≤ r.c.toNat
    · rw [if_pos k, show (256 - r.f).toNat = r.c.toNat by unfold Rn.Ok at h; omega]
    · rw [if_neg k]
  · rw [if_neg h, if_neg h]
theorem below_yes {r : Rn} {i : Int} (h : r.Has i) : below r (i + 1) = below r i ++ [i] := by
  obtain ⟨k, h1, h2⟩ := h
  unfold below
  rw [if_pos k, if_pos k, if_pos (show (i + 1 - r.f).toNat ≤ r.c.toNat by omega), if_pos (show (i - r.f).toNat ≤ r.c.toNat by omega), show (i + 1 - r.f).toNat = (i - r.f).toNat + 1 by omega, List.range_succ, List.map_append]
  congr 1
  simp
  omega
theorem below_no {r : Rn} {i : Int} (h : ¬ r.Has i) : below r (i + 1) = below r i := by
  unfold below
  by_cases k : r.Ok
  · rw [if_pos k, if_pos k]
    have h' : i < r.f ∨ r.c ≤ i - r.f := by
      rcases Int.lt_or_le i r.f with q | q
      · exact .inl q
      rcases Int.lt_or_le (i - r.f) r.c with q' | q'
      · exact absurd ⟨k, q, q'⟩ h
      · exact .inr q'
    unfold Rn.Ok at k
    rcases h' with q | q
    · rw [if_pos (show (i + 1 - r.f).toNat ≤ r.c.toNat by omega), if_pos (show (i - r.f).toNat ≤ r.c.toNat by omega), show (i + 1 - r.f).toNat = (i - r.f).toNat by omega]
    · rw [if_neg (show ¬ (i + 1 - r.f).toNat ≤ r.c.toNat by omega)]
      by_cases e : (i - r.f).toNat ≤ r.c.toNat
      · rw [if_pos e, show (i - r.f).toNat = r.c.toNat by omega]
      · rw [if_neg e]
  · rw [if_neg k, if_neg k]
theorem below_le (r : Rn) (i : Int) : (below r i).length ≤ 256 := by
  unfold below
  by_cases k : r.Ok
  · rw [if_pos k, List.length_map, List.length_range]
    unfold Rn.Ok at k
    by_cases e : (i - r.f).toNat ≤ r.c.toNat
    · rw [if_pos e]; omega
    · rw [if_neg e]; omega
  · rw [if_neg k]; exact Nat.zero_le _

/-- is it a block that the list names? -/
def hasB (xs : List Int) (x : Int) : Bool := decide (0 ≤ x ∧ x < 256 ∧ x ∈ xs)
theorem hasB_yes {xs : List Int} {x : Int} (h : hasB xs x = true) : 0 ≤ x ∧ x < 256 ∧ x ∈ xs := of_decide_eq_true h
theorem hasB_in {xs : List Int} {x : Int} (h0 : 0 ≤ x) (h1 : x < 256) : hasB xs x = decide (x ∈ xs) := by
  unfold hasB
  rw [Bool.eq_iff_iff]
  simp only [decide_eq_true_eq]
  exact ⟨fun h => h.2.2, fun h => ⟨h0, h1, h⟩⟩
def costB (N : Int → Bool) (x : Int) : Int := if N x then 1 else 0
theorem costB_cases (N : Int → Bool) (x : Int) : (N x = true ∧ costB N x = 1) ∨ (N x = false ∧ costB N x = 0) := by
  unfold costB
  cases N x
  · exact .inr ⟨rfl, rfl⟩
  · exact .inl ⟨rfl, rfl⟩
def okB (R N : Int → Bool) (x room : Int) : Bool := R x && decide (costB N x ≤ room)
theorem okB_less {R N : Int → Bool} {x room room' : Int} (h : okB R N x room = false) (k : room' ≤ room) : okB R N x room' = false := by
  unfold okB at *
  rw [Bool.and_eq_false_iff] at *
  rcases h with h | h
  · exact .inl h
  · refine .inr ?_
    have := of_decide_eq_false h
    exact decide_eq_false (by omega)

/-- as far as it goes, above first -/
def grow (R N : Int → Bool) : Nat → Int → Int → Int → Int × Int
  | 0, lo, hi, _ => (lo, hi)
  | k + 1, lo, hi, room =>
    if okB R N (hi + 1) room then grow R N k lo (hi + 1) (room - costB N (hi + 1))
    else if okB R N (lo - 1) room then grow R N k (lo - 1) hi (room - costB N (lo - 1))
    else (lo, hi)
theorem grow_up {R N : Int → Bool} {k : Nat} {lo hi room : Int} (h : okB R N (hi + 1) room = true) : grow R N (k + 1) lo hi room = grow R N k lo (hi + 1) (room - costB N (hi + 1)) := by
  show (if _ then _ else _) = _
  rw [if_pos h]
theorem grow_down {R N : Int → Bool} {k : Nat} {lo hi room : Int} (h : okB R N (hi + 1) room = false) (g : okB R N (lo - 1) room = true) : grow R N (k + 1) lo hi room = grow R N k (lo - 1) hi (room - costB N (lo - 1)) := by
  show (if _ then _ else _) = _
  rw [if_neg (by rw [h]; decide), if_pos g]
theorem grow_end {R N : Int → Bool} {k : Nat} {lo hi room : Int} (h : okB R N (hi + 1) room = false) (g : okB R N (lo - 1) room = false) : grow R N k lo hi room = (lo, hi) := by
  cases k with
  | zero => rfl
  | succ k =>
    show (if _ then _ else _) = _
    rw [if_neg (by rw [h]; decide), if_neg (by rw [g]; decide)]

/-- how many of so many blocks cost a room -/
def cnt (N : Int → Bool) (lo : Int) : Nat → Int
  | 0 => 0
  | k + 1 => cnt N lo k + costB N (lo + k)
theorem cnt_front (N : Int → Bool) (lo : Int) : ∀ k, cnt N (lo - 1) (k + 1) = costB N (lo - 1) + cnt N lo k := by
  intro k
  induction k with
  | zero => simp [cnt]
  | succ k ih =>
    rw [show cnt N (lo - 1) (k + 1 + 1) = cnt N (lo - 1) (k + 1) + costB N (lo - 1 + ((k + 1 : Nat) : Int)) from rfl, ih, show cnt N lo (k + 1) = cnt N lo k + costB N (lo + k) from rfl, show lo - 1 + ((k + 1 : Nat) : Int) = lo + (k : Int) by omega]
    omega
theorem cnt_bd (N : Int → Bool) (lo : Int) : ∀ k, 0 ≤ cnt N lo k ∧ cnt N lo k ≤ k := by
  intro k
  induction k with
  | zero => simp [cnt]
  | succ k ih =>
    rw [show cnt N lo (k + 1) = cnt N lo k + costB N (lo + k) from rfl]
    have := costB_cases N (lo + k)
    omega
/-- what it keeps -/
theorem grow_spec (R N : Int → Bool) (T : Int) : ∀ (k : Nat) (lo hi room : Int), lo ≤ hi → 0 ≤ room → (∀ x, lo ≤ x → x ≤ hi → R x = true) → cnt N lo (hi - lo + 1).toNat + room = T →
    (grow R N k lo hi room).1 ≤ lo ∧ hi ≤ (grow R N k lo hi room).2 ∧ (grow R N k lo hi room).2 - (grow R N k lo hi room).1 ≤ hi - lo + k ∧
    (∀ x, (grow R N k lo hi room).1 ≤ x → x ≤ (grow R N k lo hi room).2 → R x = true) ∧ cnt N (grow R N k lo hi room).1 ((grow R N k lo hi room).2 - (grow R N k lo hi room).1 + 1).toNat ≤ T := by
  intro k
  induction k with
  | zero => intro lo hi room h0 h1 h2 h3; exact ⟨Int.le_refl _, Int.le_refl _, by simp [grow], h2, by show cnt N lo (hi - lo + 1).toNat ≤ T; omega⟩
  | succ k ih =>
    intro lo hi room h0 h1 h2 h3
    cases hu : okB R N (hi + 1) room with
    | true =>
      rw [grow_up hu]
      unfold okB at hu
      rw [Bool.and_eq_true] at hu
      have := of_decide_eq_true hu.2
      have h := ih lo (hi + 1) (room - costB N (hi + 1)) (by omega) (by omega) (fun x q1 q2 => by
        by_cases q : x = hi + 1
        · rw [q]; exact hu.1
        · exact h2 x q1 (by omega)) (by
        rw [show (hi + 1 - lo + 1).toNat = (hi - lo + 1).toNat + 1 by omega, show cnt N lo ((hi - lo + 1).toNat + 1) = cnt N lo (hi - lo + 1).toNat + costB N (lo + ((hi - lo + 1).toNat : Int)) from rfl, show lo + ((hi - lo + 1).toNat : Int) = hi + 1 by omega]
        omega)
      exact ⟨h.1, by omega, by omega, h.2.2.2.1, h.2.2.2.2⟩
    | false =>
      cases hd : okB R N (lo - 1) room with
      | true =>
        rw [grow_down hu hd]
        unfold okB at hd
        rw [Bool.and_eq_true] at hd
        have := of_decide_eq_true hd.2
        have h := ih (lo - 1) hi (room - costB N (lo - 1)) (by omega) (by omega) (fun x q1 q2 => by
          by_cases q : x = lo - 1
          · rw [q]; exact hd.1
          · exact h2 x (by omega) q2) (by
          rw [show (hi - (lo - 1) + 1).toNat = (hi - lo + 1).toNat + 1 by omega, cnt_front]
          omega)
        exact ⟨by omega, h.2.1, by omega, h.2.2.2.1, h.2.2.2.2⟩
      | false =>
        rw [grow_end hu hd]
        exact ⟨Int.le_refl _, Int.le_refl _, by dsimp only; omega, h2, by show cnt N lo (hi - lo + 1).toNat ≤ T; omega⟩

def mayMost (most : Int) : Prop := 1 ≤ most ∧ most ≤ 8
instance (most : Int) : Decidable (mayMost most) := by unfold mayMost; infer_instance
def argB (xs : List Int) (b most room : Int) : Prop := ¬ mayMost most ∨ room < 0 ∨ hasB xs b = false
instance (xs : List Int) (b most room : Int) : Decidable (argB xs b most room) := by unfold argB; infer_instance
def growTo (xs ys : List Int) (b most room : Int) : Int × Int := grow (hasB xs) (hasB ys) (most - 1).toNat b b (room - costB (hasB ys) b)
/-- its code -/
def aroundC (xs ys : List Int) (b most room : Int) : Int := if argB xs b most room then 1 else if room < costB (hasB ys) b then 2 else 0
/-- its run -/
def aroundR (xs ys : List Int) (b most room : Int) : Rn :=
  if aroundC xs ys b most room = 0 then ⟨(growTo xs ys b most room).1, (growTo xs ys b most room).2 - (growTo xs ys b most room).1 + 1⟩ else ⟨0, 0⟩
theorem around_arg {xs ys : List Int} {b most room : Int} (h : argB xs b most room) : aroundC xs ys b most room = 1 ∧ aroundR xs ys b most room = ⟨0, 0⟩ := by
  have : aroundC xs ys b most room = 1 := if_pos h
  exact ⟨this, if_neg (by rw [this]; decide)⟩
theorem around_full {xs ys : List Int} {b most room : Int} (h : ¬ argB xs b most room) (k : room < costB (hasB ys) b) : aroundC xs ys b most room = 2 ∧ aroundR xs ys b most room = ⟨0, 0⟩ := by
  have : aroundC xs ys b most room = 2 := by unfold aroundC; rw [if_neg h, if_pos k]
  exact ⟨this, if_neg (by rw [this]; decide)⟩
theorem around_ok {xs ys : List Int} {b most room : Int} (h : ¬ argB xs b most room) (k : costB (hasB ys) b ≤ room) :
    aroundC xs ys b most room = 0 ∧ aroundR xs ys b most room = ⟨(growTo xs ys b most room).1, (growTo xs ys b most room).2 - (growTo xs ys b most room).1 + 1⟩ := by
  have : aroundC xs ys b most room = 0 := by unfold aroundC; rw [if_neg h, if_neg (by omega)]
  exact ⟨this, if_pos this⟩
theorem arg_not {xs : List Int} {b most room : Int} (h : ¬ argB xs b most room) : 1 ≤ most ∧ most ≤ 8 ∧ 0 ≤ room ∧ hasB xs b = true ∧ 0 ≤ b ∧ b < 256 := by
  unfold argB mayMost at h
  have h3 : hasB xs b = true := by
    cases q : hasB xs b
    · exact absurd (.inr (.inr q)) h
    · rfl
  have h4 := hasB_yes h3
  have h1 : 1 ≤ most ∧ most ≤ 8 := by
    rcases Decidable.em (1 ≤ most ∧ most ≤ 8) with q | q
    · exact q
    · exact absurd (.inl q) h
  have h2 : 0 ≤ room := by
    rcases Int.lt_or_le room 0 with q | q
    · exact absurd (.inr (.inl q)) h
    · exact q
  exact ⟨h1.1, h1.2, h2, h3, h4.1, h4.2.1⟩
/-- what follows of a run around a block -/
theorem around_spec {xs ys : List Int} {b most room : Int} (h : aroundC xs ys b most room = 0) :
    (aroundR xs ys b most room).Ok ∧ (aroundR xs ys b most room).Has b ∧ (aroundR xs ys b most room).c ≤ most ∧ (aroundR xs ys b most room).c ≤ 8 ∧
    (∀ x, (aroundR xs ys b most room).f ≤ x → x < (aroundR xs ys b most room).f + (aroundR xs ys b most room).c → x ∈ xs) ∧
    cnt (hasB ys) (aroundR xs ys b most room).f (aroundR xs ys b most room).c.toNat ≤ room := by
  have h1 : ¬ argB xs b most room := fun q => by rw [(around_arg q).1] at h; cases h
  have h2 : costB (hasB ys) b ≤ room := by
    rcases Int.lt_or_le room (costB (hasB ys) b) with q | q
    · rw [(around_full h1 q).1] at h; cases h
    · exact q
  rw [(around_ok h1 h2).2]
  have ⟨m1, m2, m3, m4, m5, m6⟩ := arg_not h1
  have g := grow_spec (hasB xs) (hasB ys) room (most - 1).toNat b b (room - costB (hasB ys) b) (Int.le_refl _) (by omega) (fun x q1 q2 => by rw [show x = b by omega]; exact m4) (by
    rw [show (b - b + 1).toNat = 1 by omega]
    show 0 + costB (hasB ys) (b + (0 : Nat)) + _ = _
    rw [show b + ((0 : Nat) : Int) = b by omega]
    omega)
  unfold growTo
  generalize grow (hasB xs) (hasB ys) (most - 1).toNat b b (room - costB (hasB ys) b) = r at *
  obtain ⟨l, u⟩ := r
  obtain ⟨g1, g2, g3, g4, g5⟩ := g
  dsimp only at *
  have e1 := hasB_yes (g4 l (Int.le_refl _) (by omega))
  have e2 := hasB_yes (g4 u (by omega) (Int.le_refl _))
  have ok : (Rn.mk l (u - l + 1)).Ok := by unfold Rn.Ok; dsimp only; omega
  exact ⟨ok, ⟨ok, by dsimp only; omega, by dsimp only; omega⟩, by omega, by omega, fun x q1 q2 => (hasB_yes (g4 x q1 (by omega))).2.2, g5⟩
/-- which code it is -/
theorem around_codes {xs ys : List Int} {b most room : Int} (h : aroundC xs ys b most room ≠ 0) :
    aroundR xs ys b most room = ⟨0, 0⟩ ∧ (aroundC xs ys b most room = 1 ∨ aroundC xs ys b most room = 2 ∧ room = 0 ∧ b ∈ ys) := by
  by_cases h1 : argB xs b most room
  · exact ⟨(around_arg h1).2, .inl (around_arg h1).1⟩
  · rcases Int.lt_or_le room (costB (hasB ys) b) with q | q
    · refine ⟨(around_full h1 q).2, .inr ⟨(around_full h1 q).1, ?_⟩⟩
      have ⟨_, _, m3, _⟩ := arg_not h1
      rcases costB_cases (hasB ys) b with ⟨k1, k2⟩ | ⟨k1, k2⟩
      · exact ⟨by omega, (hasB_yes k1).2.2⟩
      · omega
    · exact absurd (around_ok h1 q).1 h

/-- one block more -/
def stepC (P : Int → Bool) (most : Int) (rs : List Rn) (b : Int) : List Rn :=
  if P b then
    match rs.getLast? with
    | some r => if r.f + r.c = b ∧ r.c < most then rs.dropLast ++ [⟨r.f, r.c + 1⟩] else rs ++ [⟨b, 1⟩]
    | none => rs ++ [⟨b, 1⟩]
  else rs
def cov (P : Int → Bool) (most : Int) : Nat → List Rn
  | 0 => []
  | n + 1 => stepC P most (cov P most n) n
theorem step_no {P : Int → Bool} {most : Int} {rs : List Rn} {b : Int} (h : P b = false) : stepC P most rs b = rs := if_neg (by rw [h]; decide)
theorem step_more {P : Int → Bool} {most : Int} {l : List Rn} {r : Rn} {b : Int} (h : P b = true) (e : r.f + r.c = b) (k : r.c < most) : stepC P most (l ++ [r]) b = l ++ [⟨r.f, r.c + 1⟩] := by
  unfold stepC
  rw [if_pos h, List.getLast?_append, List.getLast?_singleton, Option.some_or]
  dsimp only
  rw [if_pos ⟨e, k⟩, List.dropLast_concat]
theorem step_new {P : Int → Bool} {most : Int} {rs : List Rn} {b : Int} (h : P b = true) (e : ∀ r, rs.getLast? = some r → ¬ (r.f + r.c = b ∧ r.c < most)) : stepC P most rs b = rs ++ [⟨b, 1⟩] := by
  unfold stepC
  rw [if_pos h]
  cases q : rs.getLast? with
  | none => rfl
  | some r => dsimp only; rw [if_neg (e r q)]
theorem last_split {l : List Rn} {r : Rn} (h : l.getLast? = some r) : ∃ k, l = k ++ [r] := by
  refine ⟨l.dropLast, ?_⟩
  have hne : l ≠ [] := fun q => by rw [q] at h; cases h
  rw [List.getLast?_eq_some_getLast hne] at h
  injection h with h
  rw [← h]
  exact (List.dropLast_concat_getLast hne).symm
theorem cov_bd (P : Int → Bool) (most : Int) : ∀ n : Nat, (∀ r ∈ cov P most n, 0 ≤ r.f ∧ 1 ≤ r.c ∧ r.f + r.c ≤ (n : Int)) ∧ (cov P most n).length ≤ n := by
  intro n
  induction n with
  | zero => exact ⟨fun r h => (by cases h), Nat.le_refl _⟩
  | succ n ih =>
    have less : ∀ r ∈ cov P most n, 0 ≤ r.f ∧ 1 ≤ r.c ∧ r.f + r.c ≤ ((n + 1 : Nat) : Int) := fun r h => by have := ih.1 r h; omega
    show (∀ r ∈ stepC P most (cov P most n) n, _) ∧ (stepC P most (cov P most n) n).length ≤ n + 1
    cases h : P n with
    | false => rw [step_no h]; exact ⟨less, by omega⟩
    | true =>
      by_cases e : ∃ r, (cov P most n).getLast? = some r ∧ r.f + r.c = n ∧ r.c < most
      · obtain ⟨r, e1, e2, e3⟩ := e
        obtain ⟨k, hk⟩ := last_split e1
        have hr := ih.1 r (by rw [hk]; simp)
        have hl := ih.2
        rw [hk] at less hl ⊢
        rw [step_more h e2 e3]
        constructor
        · intro q hq
          rw [List.mem_append, List.mem_singleton] at hq
          rcases hq with hq | rfl
          · exact less q (by simp [hq])
          · dsimp only; omega
        · rw [List.length_append] at hl ⊢
          simp at hl ⊢
          omega
      · rw [step_new h (fun r q1 q2 => e ⟨r, q1, q2⟩)]
        constructor
        · intro q hq
          rw [List.mem_append, List.mem_singleton] at hq
          rcases hq with hq | rfl
          · exact less q hq
          · dsimp only; omega
        · rw [List.length_append]
          have := ih.2
          simp
          omega
/-- no run that is there goes on at n -/
def Fit (P : Int → Bool) (most : Int) (n : Nat) : Prop := n < 256 → P n = true → ∀ r, (cov P most n).getLast? = some r → ¬ (r.f + r.c = n ∧ r.c < most)
theorem fit_zero (P : Int → Bool) (most : Int) : Fit P most 0 := fun _ _ r h => by cases h
theorem cov_run {P : Int → Bool} {most : Int} {n : Nat} (hf : Fit P most n) : ∀ j : Nat, 1 ≤ j → (j : Int) ≤ most → n + j ≤ 256 → (∀ i : Nat, i < j → P ((n + i : Nat) : Int) = true) → cov P most (n + j) = cov P most n ++ [⟨n, j⟩] := by
  intro j
  induction j with
  | zero => intro h; omega
  | succ j ih =>
    intro _ h1 h2 h3
    show stepC P most (cov P most (n + j)) ((n + j : Nat) : Int) = _
    have hp := h3 j (by omega)
    cases j with
    | zero =>
      rw [step_new hp]
      · rfl
      · exact hf (by omega) hp
    | succ j =>
      rw [ih (by omega) (by omega) (by omega) (fun i q => h3 i (by omega))]
      rw [step_more hp (by dsimp only; omega) (by dsimp only; omega)]
      congr 2
theorem fit_run {P : Int → Bool} {most : Int} {n j : Nat} (h : cov P most (n + j) = cov P most n ++ [⟨n, j⟩]) (k : (j : Int) = most ∨ n + j = 256 ∨ P ((n + j : Nat) : Int) = false) : Fit P most (n + j) := by
  intro h1 h2 r h3
  rw [h, List.getLast?_append, List.getLast?_singleton, Option.some_or] at h3
  injection h3 with h3
  subst h3
  dsimp only
  rcases k with k | k | k
  · omega
  · omega
  · rw [k] at h2; cases h2
theorem cov_skip {P : Int → Bool} {most : Int} {n : Nat} (h : P n = false) : cov P most (n + 1) = cov P most n ∧ Fit P most (n + 1) := by
  have e : cov P most (n + 1) = cov P most n := step_no h
  refine ⟨e, fun _ _ r h3 => ?_⟩
  rw [e] at h3
  obtain ⟨k, hk⟩ := last_split h3
  have := (cov_bd P most n).1 r (by rw [hk]; simp)
  omega
def allB (xs : List Int) : Prop := ∀ x ∈ xs, 0 ≤ x ∧ x < 256
instance (xs : List Int) : Decidable (allB xs) := by unfold allB; infer_instance
def coverC (xs : List Int) (most : Int) : Int := if mayMost most ∧ allB xs then 0 else 1
def coverL (xs : List Int) (most : Int) : List Rn := if mayMost most ∧ allB xs then cov (hasB xs) most 256 else []
end Go.Proofs.YtfbpjobobdidiaaGreatDoor


/- The small functions of runs: what may be, where a run ends, whether it may be. No condition but what each says. -/
namespace Go.Proofs.YtfbpjobobdidiaaGreatDoor
open Go.RowKit
set_option linter.unusedVariables false
set_option maxRecDepth 100000

def Rn.val (r : Rn) : Value := .agg #[.int .i64 r.f, .int .i64 r.c]
def Rn.cells (r : Rn) : List Value := [.int .i64 r.f, .int .i64 r.c]
theorem rn2 (r : Rn) : (Rn.cells r).length = 2 := rfl
theorem rn_one : ∀ y : Rn, ∀ u ∈ Rn.cells y, u.oneCell' = true := by
  intro y u hu
  simp only [Rn.cells, List.mem_cons, List.not_mem_nil, or_false] at hu
  rcases hu with rfl | rfl <;> rfl

theorem isBlock_q (x : Int) (w : World) : Calls Tryz.prog 157 #[.int .i64 x] w fun e w' => e = .returned (.bool (decide (0 ≤ x ∧ x < 256))) ∧ w' = w := by
  by_cases h0 : 0 ≤ x
  · have d0 : decide (0 ≤ x) = true := decide_eq_true h0
    by_cases h1 : x < 256
    · have d1 : decide (x < 256) = true := decide_eq_true h1
      rw [show decide (0 ≤ x ∧ x < 256) = true from decide_eq_true (by omega)]
      clear h0 h1
      skip
      go_enter Tryz.func157, Tryz.ntmps157
      go_wp2_with fail
      go_ret
      exact ⟨rfl, rfl⟩
    · have d1 : decide (x < 256) = false := decide_eq_false h1
      rw [show decide (0 ≤ x ∧ x < 256) = false from decide_eq_false (by omega)]
      clear h0 h1
      skip
      go_enter Tryz.func157, Tryz.ntmps157
      go_wp2_with fail
      go_ret
      exact ⟨rfl, rfl⟩
  · have d0 : decide (0 ≤ x) = false := decide_eq_false h0
    rw [show decide (0 ≤ x ∧ x < 256) = false from decide_eq_false (by omega)]
    clear h0
    skip
    go_enter Tryz.func157, Tryz.ntmps157
    go_wp2_with fail
    go_ret
    exact ⟨rfl, rfl⟩
theorem isBlock_any (x : Int) (w : World) : Calls Tryz.prog 157 #[.int .i64 x] w fun e w' => e = .returned (.bool (decide (0 ≤ x ∧ x < 256))) ∧ Only none_ w w' :=
  (isBlock_q x w).mono (fun e w' h => ⟨h.1, by rw [h.2]; exact Only.refl _ _⟩)
theorem may_any (x : Int) (w : World) : Calls Tryz.prog 137 #[.int .i64 x] w fun e w' => e = .returned (.bool (decide (mayMost x))) ∧ Only none_ w w' := by
  by_cases h0 : 1 ≤ x
  · have d0 : decide (1 ≤ x) = true := decide_eq_true h0
    by_cases h1 : x ≤ 8
    · have d1 : decide (x ≤ 8) = true := decide_eq_true h1
      rw [show decide (mayMost x) = true from decide_eq_true (by unfold mayMost; omega)]
      clear h0 h1
      skip
      go_enter Tryz.func137, Tryz.ntmps137
      go_wp2_with fail
      go_ret
      exact ⟨rfl, Only.refl _ _⟩
    · have d1 : decide (x ≤ 8) = false := decide_eq_false h1
      rw [show decide (mayMost x) = false from decide_eq_false (by unfold mayMost; omega)]
      clear h0 h1
      skip
      go_enter Tryz.func137, Tryz.ntmps137
      go_wp2_with fail
      go_ret
      exact ⟨rfl, Only.refl _ _⟩
  · have d0 : decide (1 ≤ x) = false := decide_eq_false h0
    rw [show decide (mayMost x) = false from decide_eq_false (by unfold mayMost; omega)]
    clear h0
    skip
    go_enter Tryz.func137, Tryz.ntmps137
    go_wp2_with fail
    go_ret
    exact ⟨rfl, Only.refl _ _⟩
theorem end_any (r : Rn) (w : World) (h : -9223372036854775808 ≤ r.f + r.c ∧ r.f + r.c ≤ 9223372036854775807) : Calls Tryz.prog 158 #[r.val] w fun e w' => e = .returned (.int .i64 (r.f + r.c)) ∧ Only none_ w w' := by
  have v : IntKind.i64.wrap (r.f + r.c) = r.f + r.c := by rw [IntKind.wrap_i64]; omega
  clear h
  unfold Rn.val
  go_enter Tryz.func158, Tryz.ntmps158
  go_wp2_with fail
  go_ret
  exact ⟨rfl, (Only.refl none_ w).alloc _⟩
theorem is_any (r : Rn) (w : World) : Calls Tryz.prog 141 #[r.val] w fun e w' => e = .returned (.bool (decide (r.Ok))) ∧ Only none_ w w' := by
  by_cases h0 : 0 ≤ r.f
  · have d0 : decide (0 ≤ r.f) = true := decide_eq_true h0
    by_cases h1 : 1 ≤ r.c
    · have d1 : decide (1 ≤ r.c) = true := decide_eq_true h1
      by_cases h2 : r.c ≤ 256
      · have d2 : decide (r.c ≤ 256) = true := decide_eq_true h2
        have v : IntKind.i64.wrap (256 - r.c) = 256 - r.c := by rw [IntKind.wrap_i64]; omega
        by_cases h3 : r.f ≤ 256 - r.c
        · have d3 : decide (r.f ≤ 256 - r.c) = true := decide_eq_true h3
          rw [show decide (r.Ok) = true from decide_eq_true (by unfold Rn.Ok; omega)]
          clear h0 h1 h2 h3
          unfold Rn.val
          go_enter Tryz.func141, Tryz.ntmps141
          go_wp2_with fail
          go_ret
          exact ⟨rfl, (Only.refl none_ w).alloc _⟩
        · have d3 : decide (r.f ≤ 256 - r.c) = false := decide_eq_false h3
          rw [show decide (r.Ok) = false from decide_eq_false (by unfold Rn.Ok; omega)]
          clear h0 h1 h2 h3
          unfold Rn.val
          go_enter Tryz.func141, Tryz.ntmps141
          go_wp2_with fail
          go_ret
          exact ⟨rfl, (Only.refl none_ w).alloc _⟩
      · have d2 : decide (r.c ≤ 256) = false := decide_eq_false h2
        rw [show decide (r.Ok) = false from decide_eq_false (by unfold Rn.Ok; omega)]
        clear h0 h1 h2
        unfold Rn.val
        go_enter Tryz.func141, Tryz.ntmps141
        go_wp2_with fail
        go_ret
        exact ⟨rfl, (Only.refl none_ w).alloc _⟩
    · have d1 : decide (1 ≤ r.c) = false := decide_eq_false h1
      rw [show decide (r.Ok) = false from decide_eq_false (by unfold Rn.Ok; omega)]
      clear h0 h1
      unfold Rn.val
      go_enter Tryz.func141, Tryz.ntmps141
      go_wp2_with fail
      go_ret
      exact ⟨rfl, (Only.refl none_ w).alloc _⟩
  · have d0 : decide (0 ≤ r.f) = false := decide_eq_false h0
    rw [show decide (r.Ok) = false from decide_eq_false (by unfold Rn.Ok; omega)]
    clear h0
    unfold Rn.val
    go_enter Tryz.func141, Tryz.ntmps141
    go_wp2_with fail
    go_ret
    exact ⟨rfl, (Only.refl none_ w).alloc _⟩
theorem rmay_any (r : Rn) (w : World) : Calls Tryz.prog 15 #[r.val] w fun e w' => e = .returned (.bool (decide (r.Ok))) ∧ Only none_ w w' := by
  by_cases h0 : 0 ≤ r.f
  · have d0 : decide (0 ≤ r.f) = true := decide_eq_true h0
    by_cases h1 : r.f ≤ 255
    · have d1 : decide (r.f ≤ 255) = true := decide_eq_true h1
      by_cases h2 : 1 ≤ r.c
      · have d2 : decide (1 ≤ r.c) = true := decide_eq_true h2
        by_cases h3 : r.c ≤ 256
        · have d3 : decide (r.c ≤ 256) = true := decide_eq_true h3
          have v : IntKind.i64.wrap (r.f + r.c) = r.f + r.c := by rw [IntKind.wrap_i64]; omega
          by_cases h4 : r.f + r.c ≤ 256
          · have d4 : decide (r.f + r.c ≤ 256) = true := decide_eq_true h4
            rw [show decide (r.Ok) = true from decide_eq_true (by unfold Rn.Ok; omega)]
            clear h0 h1 h2 h3 h4
            unfold Rn.val
            go_enter Tryz.func15, Tryz.ntmps15
            go_wp2_with fail
            go_ret
            exact ⟨rfl, (Only.refl none_ w).alloc _⟩
          · have d4 : decide (r.f + r.c ≤ 256) = false := decide_eq_false h4
            rw [show decide (r.Ok) = false from decide_eq_false (by unfold Rn.Ok; omega)]
            clear h0 h1 h2 h3 h4
            unfold Rn.val
            go_enter Tryz.func15, Tryz.ntmps15
            go_wp2_with fail
            go_ret
            exact ⟨rfl, (Only.refl none_ w).alloc _⟩
        · have d3 : decide (r.c ≤ 256) = false := decide_eq_false h3
          rw [show decide (r.Ok) = false from decide_eq_false (by unfold Rn.Ok; omega)]
          clear h0 h1 h2 h3
          unfold Rn.val
          go_enter Tryz.func15, Tryz.ntmps15
          go_wp2_with fail
          go_ret
          exact ⟨rfl, (Only.refl none_ w).alloc _⟩
      · have d2 : decide (1 ≤ r.c) = false := decide_eq_false h2
        rw [show decide (r.Ok) = false from decide_eq_false (by unfold Rn.Ok; omega)]
        clear h0 h1 h2
        unfold Rn.val
        go_enter Tryz.func15, Tryz.ntmps15
        go_wp2_with fail
        go_ret
        exact ⟨rfl, (Only.refl none_ w).alloc _⟩
    · have d1 : decide (r.f ≤ 255) = false := decide_eq_false h1
      rw [show decide (r.Ok) = false from decide_eq_false (by unfold Rn.Ok; omega)]
      clear h0 h1
      unfold Rn.val
      go_enter Tryz.func15, Tryz.ntmps15
      go_wp2_with fail
      go_ret
      exact ⟨rfl, (Only.refl none_ w).alloc _⟩
  · have d0 : decide (0 ≤ r.f) = false := decide_eq_false h0
    rw [show decide (r.Ok) = false from decide_eq_false (by unfold Rn.Ok; omega)]
    clear h0
    unfold Rn.val
    go_enter Tryz.func15, Tryz.ntmps15
    go_wp2_with fail
    go_ret
    exact ⟨rfl, (Only.refl none_ w).alloc _⟩
end Go.Proofs.YtfbpjobobdidiaaGreatDoor


/- A set of blocks in memory, which is an array of 256 bools: its cells by a function. -/
namespace Go.Proofs.YtfbpjobobdidiaaGreatDoor
open Go.RowKit
set_option linter.unusedVariables false
set_option maxRecDepth 100000

def bits (p : Int → Bool) : Array Value := Array.ofFn (n := 256) fun i => .bool (p (i.val : Int))
theorem bits_size (p : Int → Bool) : (bits p).size = 256 := by simp [bits]
theorem bits_get (p : Int → Bool) {i : Nat} (h : i < 256) : (bits p)[i]? = some (.bool (p (i : Int))) := by simp [bits, h]
theorem bits_put (p : Int → Bool) (x : Nat) : (bits p).setIfInBounds x (.bool true) = bits (fun y => p y || decide (y = (x : Int))) := by
  apply Array.ext_getElem?
  intro i
  rw [Array.getElem?_setIfInBounds]
  by_cases h : i < 256
  · rw [bits_get p h, bits_get _ h]
    by_cases e : x = i
    · subst e
      rw [if_pos rfl, if_pos (by rw [bits_size]; exact h)]
      simp
    · rw [if_neg e]
      have : ¬ ((i : Int) = (x : Int)) := by omega
      simp [this]
  · rw [Array.getElem?_eq_none (by rw [bits_size]; omega), Array.getElem?_eq_none (by rw [bits_size]; omega)]
    by_cases e : x = i
    · subst e; rw [if_pos rfl, if_neg (by rw [bits_size]; exact h)]
    · rw [if_neg e]
theorem bits_one (p : Int → Bool) : (bits p).all (·.oneCell') = true := by
  rw [Array.all_eq_true]
  intro i hi
  simp [bits]
  rfl
theorem bits_same {p q : Int → Bool} (h : ∀ x : Int, 0 ≤ x → x < 256 → p x = q x) : bits p = bits q := by
  apply Array.ext_getElem?
  intro i
  by_cases k : i < 256
  · rw [bits_get p k, bits_get q k, h i (by omega) (by omega)]
  · rw [Array.getElem?_eq_none (by rw [bits_size]; omega), Array.getElem?_eq_none (by rw [bits_size]; omega)]
theorem info_set : (Tryz.prog.info? 212).map (fun i => (i.zero, i.size)) = some (some (.agg (bits (fun _ => false))), 256) := by kernel_rfl
theorem zero_set (w : World) : (zeroValue 212).run Tryz.prog w = .ok (.agg (bits (fun _ => false))) w := (zero_of_info info_set).1 w
theorem size_set (p : Int → Bool) : (Tryz.prog.info? 212).map (·.size) = some (bits p).size := by rw [bits_size]; exact (zero_of_info info_set).2
/-- it lies at block g -/
def SetAt (w : World) (g : Nat) (p : Int → Bool) : Prop := Row w g 212 (bits p)
theorem SetAt.still {w w' : World} {g : Nat} {p : Int → Bool} (h : SetAt w g p) (o : Only none_ w w') : SetAt w' g p := o.still h
theorem SetAt.cell {w : World} {g : Nat} {p : Int → Bool} (h : SetAt w g p) {i : Nat} (hi : i < 256) : w.cell? ⟨g, i, none⟩ = some (.bool (p (i : Int))) := by rw [Row.cell h, bits_get p hi]
/-- a whole set into its block -/
theorem Row.whole {w : World} {g : Nat} {t : TypeId} {cs : Array Value} (h : Row w g t cs) (ds : Array Value) : Row (w.setRow g ds) g t ds := setRow_heap w g cs ds t (0, 0) h
theorem SetAt.store {w : World} {g : Nat} {p : Int → Bool} (h : SetAt w g p) (q : Int → Bool) : SetAt (w.setRow g (bits q)) g q := Row.whole h (bits q)
theorem Only.whole {S : Nat → Prop} {a w : World} (h : Only S a w) {g : Nat} (hg : g < a.heap.size → S g) (cs : Array Value) : Only S a (w.setRow g cs) :=
  h.trans (S' := fun k => k = g) ⟨rfl, rfl, rfl, by simp, fun k _ hn => setRow_other _ _ _ _ hn⟩ (fun i hi s => by subst s; exact hg hi)
/-- a whole row, and one value beside it, as a call's answer -/
theorem results_row_tmp {P : Program} {fn : Func} {p q : Tmp} {ty : TypeId} (h : fn.results = #[.cell p ty, .tmp q]) (tmps : Array Value) (w : World) (g : Nat) (t : TypeId) (cs : Array Value) (fr : Nat × Nat) (d : TypeDesc)
    (hp : tmps.getD p undef = .pointer (some ⟨g, 0, none⟩)) (hg : w.heap[g]? = some (.cells cs t fr))
    (hu : P.underlying ty = some d) (hd : (match d with | .struct _ | .array _ _ => true | _ => false) = true) (hi : (P.info? ty).map (·.size) = some cs.size) :
    (results fn tmps).run P w = .ok (.tuple #[.agg cs, tmps.getD q undef]) w := by
  have hp' : tmps[p]?.getD undef = .pointer (some ⟨g, 0, none⟩) := by simpa using hp
  simp [results, h, hp', asAddr, run_loadVar_row w g t ty cs fr d hg hu hd hi]
theorem results_set2 {fn : Func} {p q : Tmp} (h : fn.results = #[.cell p 212, .tmp q]) (tmps : Array Value) (w : World) (g : Nat) (f : Int → Bool)
    (hp : tmps.getD p undef = .pointer (some ⟨g, 0, none⟩)) (hg : SetAt w g f) : (results fn tmps).run Tryz.prog w = .ok (.tuple #[.agg (bits f), tmps.getD q undef]) w :=
  results_row_tmp h tmps w g 212 (bits f) (0, 0) _ hp hg Tryz.underlying212 rfl (size_set f)
theorem info_run : (Tryz.prog.info? 43).map (·.size) = some 2 := by kernel_rfl
/-- a run as a call's answer -/
theorem results_run {fn : Func} {p : Tmp} (h : fn.results = #[.cell p 43]) (tmps : Array Value) (w : World) (g : Nat) (r : Rn)
    (hp : tmps.getD p undef = .pointer (some ⟨g, 0, none⟩)) (hg : Row w g 43 #[.int .i64 r.f, .int .i64 r.c]) : (results fn tmps).run Tryz.prog w = .ok r.val w :=
  results_cell_row h tmps w g 43 _ (0, 0) _ hp hg Tryz.underlying43 rfl info_run
theorem results_run2 {fn : Func} {p q : Tmp} (h : fn.results = #[.cell p 43, .tmp q]) (tmps : Array Value) (w : World) (g : Nat) (r : Rn)
    (hp : tmps.getD p undef = .pointer (some ⟨g, 0, none⟩)) (hg : Row w g 43 #[.int .i64 r.f, .int .i64 r.c]) : (results fn tmps).run Tryz.prog w = .ok (.tuple #[r.val, tmps.getD q undef]) w :=
  results_row_tmp h tmps w g 43 _ (0, 0) _ hp hg Tryz.underlying43 rfl info_run
end Go.Proofs.YtfbpjobobdidiaaGreatDoor


/- The set of blocks that a list names, and whether one of them is one, and what it costs: the code's own sets. -/
namespace Go.Proofs.YtfbpjobobdidiaaGreatDoor
open Go.RowKit
set_option linter.unusedVariables false
set_option maxRecDepth 100000

theorem Reads.of_holds {w : World} {A : Option Addr} {cap : Nat} {xs : List Int} (h : Holds w A 1 one xs) : Reads w (.slice A xs.length cap) xs := by
  refine ⟨A, cap, rfl, fun i x hx => ?_⟩
  obtain ⟨b, o, e, _, hc⟩ := h i x hx
  refine ⟨b, o, e, ?_⟩
  have := hc 0 _ rfl
  rwa [Nat.mul_one, Nat.add_zero] at this
theorem take_more {xs : List Int} {k : Nat} {x : Int} (h : xs[k]? = some x) : xs.take (k + 1) = xs.take k ++ [x] := by
  rw [List.take_add_one, h]; rfl
theorem allB_more (l : List Int) (x : Int) : decide (allB (l ++ [x])) = (decide (allB l) && decide (0 ≤ x ∧ x < 256)) := by
  rw [Bool.eq_iff_iff, Bool.and_eq_true]
  simp only [decide_eq_true_eq]
  unfold allB
  constructor
  · intro h
    exact ⟨fun y hy => h y (by simp [hy]), h x (by simp)⟩
  · intro h y hy
    rw [List.mem_append, List.mem_singleton] at hy
    rcases hy with hy | rfl
    · exact h.1 y hy
    · exact h.2
theorem hasB_more (l : List Int) (x y : Int) (h0 : 0 ≤ y) (h1 : y < 256) : hasB (l ++ [x]) y = (hasB l y || decide (y = x)) := by
  rw [hasB_in h0 h1, hasB_in h0 h1, Bool.eq_iff_iff, Bool.or_eq_true]
  simp only [decide_eq_true_eq, List.mem_append, List.mem_singleton]
theorem hasB_out (l : List Int) (x y : Int) (hx : ¬ (0 ≤ x ∧ x < 256)) (h0 : 0 ≤ y) (h1 : y < 256) : hasB (l ++ [x]) y = hasB l y := by
  rw [hasB_more l x y h0 h1, decide_eq_false (show ¬ y = x by omega), Bool.or_false]
theorem SetAt.same {w : World} {g : Nat} {p q : Int → Bool} (h : SetAt w g p) (e : ∀ x : Int, 0 ≤ x → x < 256 → p x = q x) : SetAt w g q := by
  unfold SetAt
  rw [← bits_same e]
  exact h

set_option maxHeartbeats 2000000 in
theorem setOf_any (v : Value) (xs : List Int) (w : World) (h : Reads w v xs) (hm : xs.length ≤ 1000000) :
    Calls Tryz.prog 136 #[v] w fun e w' => e = .returned (.tuple #[.agg (bits (hasB xs)), .bool (decide (allB xs))]) ∧ Only none_ w w' := by
  obtain ⟨A, cap, rfl, hc⟩ := h
  have H := Lib.hid hc
  clear hc
  have ZS := zero_set
  go_enter Tryz.func136, Tryz.ntmps136
  go_wp2_with fail
  clear ZS
  have O0 := Lib.hid ((Only.refl none_ w).alloc (.cells (bits fun x => false) 212))
  have S0 := Lib.hid (show SetAt (w.alloc (.cells (bits fun x => false) 212)) w.heap.size (fun _ => false) from Row.fresh w 212 (bits fun x => false))
  have GE := Lib.hid (Nat.le_refl w.heap.size)
  revert GE S0 O0
  generalize w.alloc (.cells (bits fun x => false) 212) = W1
  generalize hg : w.heap.size = g
  intro O0 S0 GE
  have GW := Lib.hid (show w.heap.size ≤ g from Nat.le_of_eq hg)
  clear GE hg
  go_loopw [8, 3] (fun i a wr => ∃ k : Nat, k ≤ xs.length ∧ i = .int .i64 k ∧ a = .bool (decide (allB (xs.take k))) ∧ SetAt wr g (hasB (xs.take k)) ∧ Only none_ w wr) (fun i _ _ => xs.length - (intOf i).toNat)
  case atStart =>
    refine ⟨0, Nat.zero_le _, rfl, ?_, S0.out.same (fun x h0 h1 => ?_), O0.out⟩
    · rw [decide_eq_true]
      intro x hx
      simp at hx
    · rw [hasB_in h0 h1]
      simp
  case round =>
    obtain ⟨k, hk, rfl, rfl, s, o⟩ := hrel
    have O := Lib.hid o
    have S := Lib.hid s
    clear o s
    by_cases hlt : k < xs.length
    · obtain ⟨x, hx⟩ : ∃ x, xs[k]? = some x := ⟨_, List.getElem?_eq_getElem hlt⟩
      obtain ⟨g1, o1, rfl, c1⟩ := H.out k x hx
      have d1 := O.out.cell c1 (fun s => s)
      have HX := Lib.hid (take_more hx)
      clear hx c1 H
      have IB := Lib.hid (fun w => isBlock_any x w)
      by_cases hb : 0 ≤ x ∧ x < 256
      · rw [decide_eq_true hb] at IB
        obtain ⟨n, rfl⟩ := Int.eq_ofNat_of_zero_le hb.1
        have hn : n < 256 := by omega
        clear hb
        go_wp2_with fail
        (with_reducible refine (IB.out _).mono ?_)
        rintro e w2 ⟨rfl, o2⟩
        have O2 := Lib.hid (O.out.same o2)
        have S2 := Lib.hid (S.out.still o2)
        have f2 : w2.frozen? ⟨g, n, none⟩ = false := Row.frozen S2.out n
        have c2 := SetAt.cell S2.out hn
        clear d1 o2 O S
        go_wp2_with fail
        go_roundw
        case rel =>
          refine ⟨k + 1, by omega, by go_num, ?_, ?_, O2.out.new GW.out _ _⟩
          · rw [HX.out, allB_more, decide_eq_true (show (0 : Int) ≤ (n : Int) ∧ (n : Int) < 256 by omega), Bool.and_true]
          · have r := Row.put S2.out n (.bool true)
            rw [bits_put] at r
            rw [HX.out]
            exact SetAt.same r (fun y h0 h1 => (hasB_more _ _ y h0 h1).symm)
        case measure => simp [intOf]; omega
      · rw [decide_eq_false hb] at IB
        have HB := Lib.hid hb
        clear hb
        go_wp2_with fail
        (with_reducible refine (IB.out _).mono ?_)
        rintro e w2 ⟨rfl, o2⟩
        have O2 := Lib.hid (O.out.same o2)
        have S2 := Lib.hid (S.out.still o2)
        clear d1 o2 O S
        go_wp2_with fail
        go_roundw
        case rel =>
          refine ⟨k + 1, by omega, by go_num, ?_, ?_, O2.out⟩
          · rw [HX.out, allB_more, decide_eq_false HB.out, Bool.and_false]
          · rw [HX.out]
            exact SetAt.same S2.out (fun y h0 h1 => (hasB_out _ _ y HB.out h0 h1).symm)
        case measure => simp [intOf]; omega
    · have hge : xs.length ≤ k := by omega
      have TK := Lib.hid (List.take_of_length_le hge)
      rw [TK.out] at S
      rw [TK.out]
      generalize hq : decide (allB xs) = q
      have HQ := Lib.hid hq
      clear hq hm
      go_wp2_with (first | (refine wpList_load_row rfl 212 _ rfl g rfl 212 (bits (hasB xs)) (0, 0) _ S.out Tryz.underlying212 rfl (size_set _) ?_) | (refine wpList_store_row rfl 212 _ _ rfl g (bits (hasB xs)) rfl rfl 212 (bits (hasB xs)) S.out (size_set _) rfl (bits_one _) ?_))
      refine bodyPost_ret (results_set2 rfl _ _ g (hasB xs) rfl (S.out.store _)) rfl ⟨?_, O.out.whole (fun h => by have := GW.out; omega) _⟩
      rw [HQ.out]
      rfl

theorem has_q (g : Nat) (p : Int → Bool) (x : Int) (w : World) (h : SetAt w g p) :
    Calls Tryz.prog 138 #[.pointer (some ⟨g, 0, none⟩), .int .i64 x] w fun e w' => e = .returned (.bool (decide (0 ≤ x ∧ x < 256) && p x)) ∧ w' = w := by
  have IB := Lib.hid (isBlock_q x w)
  have S := Lib.hid h
  clear h
  by_cases hb : 0 ≤ x ∧ x < 256
  · rw [decide_eq_true hb] at IB
    rw [decide_eq_true hb, Bool.true_and]
    obtain ⟨n, rfl⟩ := Int.eq_ofNat_of_zero_le hb.1
    have hn : n < 256 := by omega
    clear hb
    have c := SetAt.cell S.out hn
    go_enter Tryz.func138, Tryz.ntmps138
    go_wp2_with fail
    (with_reducible refine IB.out.mono ?_)
    rintro e w2 ⟨rfl, rfl⟩
    go_wp2_with fail
    go_ret
    exact ⟨rfl, rfl⟩
  · rw [decide_eq_false hb] at IB
    rw [decide_eq_false hb, Bool.false_and]
    clear hb
    go_enter Tryz.func138, Tryz.ntmps138
    go_wp2_with fail
    (with_reducible refine IB.out.mono ?_)
    rintro e w2 ⟨rfl, rfl⟩
    go_wp2_with fail
    go_ret
    exact ⟨rfl, rfl⟩
theorem hasB_and (xs : List Int) (x : Int) : (decide (0 ≤ x ∧ x < 256) && hasB xs x) = hasB xs x := by
  cases h : hasB xs x
  · rw [Bool.and_false]
  · have := hasB_yes h
    rw [decide_eq_true (show 0 ≤ x ∧ x < 256 from ⟨this.1, this.2.1⟩)]
    rfl
theorem hasq_set (g : Nat) (xs : List Int) (x : Int) (w : World) (h : SetAt w g (hasB xs)) :
    Calls Tryz.prog 138 #[.pointer (some ⟨g, 0, none⟩), .int .i64 x] w fun e w' => e = .returned (.bool (hasB xs x)) ∧ w' = w := by
  have := has_q g (hasB xs) x w h
  rw [hasB_and] at this
  exact this
theorem has_set (g : Nat) (xs : List Int) (x : Int) (w : World) (h : SetAt w g (hasB xs)) :
    Calls Tryz.prog 138 #[.pointer (some ⟨g, 0, none⟩), .int .i64 x] w fun e w' => e = .returned (.bool (hasB xs x)) ∧ Only none_ w w' :=
  (hasq_set g xs x w h).mono (fun e w' h => ⟨h.1, by rw [h.2]; exact Only.refl _ _⟩)
theorem costq_set (g : Nat) (xs : List Int) (x : Int) (w : World) (h : SetAt w g (hasB xs)) :
    Calls Tryz.prog 139 #[.pointer (some ⟨g, 0, none⟩), .int .i64 x] w fun e w' => e = .returned (.int .i64 (costB (hasB xs) x)) ∧ w' = w := by
  have HS := Lib.hid (hasq_set g xs x w h)
  clear h
  rcases costB_cases (hasB xs) x with ⟨h1, h2⟩ | ⟨h1, h2⟩
  all_goals
    rw [h1] at HS
    rw [h2]
    clear h1 h2
    go_enter Tryz.func139, Tryz.ntmps139
    go_wp2_with fail
    (with_reducible refine HS.out.mono ?_)
    rintro e w2 ⟨rfl, rfl⟩
    go_wp2_with fail
    go_ret
    exact ⟨rfl, rfl⟩
theorem cost_set (g : Nat) (xs : List Int) (x : Int) (w : World) (h : SetAt w g (hasB xs)) :
    Calls Tryz.prog 139 #[.pointer (some ⟨g, 0, none⟩), .int .i64 x] w fun e w' => e = .returned (.int .i64 (costB (hasB xs) x)) ∧ Only none_ w w' :=
  (costq_set g xs x w h).mono (fun e w' h => ⟨h.1, by rw [h.2]; exact Only.refl _ _⟩)
end Go.Proofs.YtfbpjobobdidiaaGreatDoor


/- The document's own: is a number in a list, has a run a block, what two runs have in common, a run's blocks. -/
namespace Go.Proofs.YtfbpjobobdidiaaGreatDoor
open Go.RowKit
set_option linter.unusedVariables false
set_option maxRecDepth 100000

set_option maxHeartbeats 2000000 in
theorem in_q (v : Value) (xs : List Int) (x : Int) (w : World) (h : Reads w v xs) (hm : xs.length ≤ 1000000) :
    Calls Tryz.prog 155 #[v, .int .i64 x] w fun e w' => e = .returned (.bool (decide (x ∈ xs))) ∧ w' = w := by
  obtain ⟨A, cap, rfl, hc⟩ := h
  have H := Lib.hid hc
  clear hc
  go_enter Tryz.func155, Tryz.ntmps155
  go_wp2_with fail
  go_loopw [5] (fun i wr => ∃ k : Nat, k ≤ xs.length ∧ i = .int .i64 k ∧ (¬ x ∈ xs.take k) ∧ wr = w) (fun i _ => xs.length - (intOf i).toNat)
  case atStart => exact ⟨0, Nat.zero_le _, rfl, by simp, rfl⟩
  case round =>
    obtain ⟨k, hk, rfl, n, o⟩ := hrel
    subst o
    have NI := Lib.hid n
    clear n
    by_cases hlt : k < xs.length
    · obtain ⟨y, hy⟩ : ∃ y, xs[k]? = some y := ⟨_, List.getElem?_eq_getElem hlt⟩
      obtain ⟨g1, o1, rfl, c1⟩ := H.out k y hy
      have HX := Lib.hid (take_more hy)
      have HM := Lib.hid (List.mem_of_getElem? hy)
      clear hy H
      by_cases e : y = x
      · have t : (y == x) = true := by simp [e]
        have E2 := Lib.hid e
        clear e
        go_wp2_with fail
        go_ret
        refine ⟨?_, rfl⟩
        rw [decide_eq_true (by rw [← E2.out]; exact HM.out)]
        rfl
      · have t : (y == x) = false := by simp [e]
        have E2 := Lib.hid e
        clear e
        go_wp2_with fail
        go_roundw
        case rel =>
          refine ⟨k + 1, by omega, by go_num, ?_, by trivial⟩
          rw [HX.out, List.mem_append, List.mem_singleton]
          rintro (q | q)
          · exact NI.out q
          · exact E2.out q.symm
        case measure => simp [intOf]; omega
    · have hge : xs.length ≤ k := by omega
      have TK := Lib.hid (List.take_of_length_le hge)
      rw [TK.out] at NI
      clear hm
      go_wp2_with fail
      go_ret
      refine ⟨?_, rfl⟩
      rw [decide_eq_false NI.out]
      rfl
theorem in_any (v : Value) (xs : List Int) (x : Int) (w : World) (h : Reads w v xs) (hm : xs.length ≤ 1000000) :
    Calls Tryz.prog 155 #[v, .int .i64 x] w fun e w' => e = .returned (.bool (decide (x ∈ xs))) ∧ Only none_ w w' :=
  (in_q v xs x w h hm).mono (fun e w' h => ⟨h.1, by rw [h.2]; exact Only.refl _ _⟩)
theorem rhas_any (r : Rn) (x : Int) (w : World) (hx : x ≤ 9223372036854775807) :
    Calls Tryz.prog 51 #[r.val, .int .i64 x] w fun e w' => e = .returned (.bool (decide (r.Has x))) ∧ Only none_ w w' := by
  have RM := Lib.hid (fun w => rmay_any r w)
  by_cases h : r.Ok
  · rw [decide_eq_true h] at RM
    have h' := h
    unfold Rn.Ok at h'
    by_cases k : r.f ≤ x
    · have v : IntKind.i64.wrap (x - r.f) = x - r.f := by rw [IntKind.wrap_i64]; omega
      have t1 : decide (r.f ≤ x) = true := decide_eq_true k
      by_cases j : x - r.f < r.c
      · have t2 : decide (x - r.f < r.c) = true := decide_eq_true j
        rw [show decide (r.Has x) = true from decide_eq_true ⟨h, k, j⟩]
        clear h h' k j hx
        unfold Rn.val at *
        go_enter Tryz.func51, Tryz.ntmps51
        go_wp2_with fail
        (with_reducible refine (RM.out _).mono ?_)
        rintro e w2 ⟨rfl, o⟩
        have R := Lib.hid (o.still (Row.fresh w 43 #[.int .i64 r.f, .int .i64 r.c]))
        have O := Lib.hid (((Only.refl none_ w).alloc (.cells #[.int .i64 r.f, .int .i64 r.c] 43)).same o)
        obtain ⟨c0, c1⟩ := R.out.two
        clear o
        go_wp2_with fail
        go_ret
        exact ⟨rfl, O.out⟩
      · have t2 : decide (x - r.f < r.c) = false := decide_eq_false j
        rw [show decide (r.Has x) = false from decide_eq_false (fun q => j q.2.2)]
        clear h h' k j hx
        unfold Rn.val at *
        go_enter Tryz.func51, Tryz.ntmps51
        go_wp2_with fail
        (with_reducible refine (RM.out _).mono ?_)
        rintro e w2 ⟨rfl, o⟩
        have R := Lib.hid (o.still (Row.fresh w 43 #[.int .i64 r.f, .int .i64 r.c]))
        have O := Lib.hid (((Only.refl none_ w).alloc (.cells #[.int .i64 r.f, .int .i64 r.c] 43)).same o)
        obtain ⟨c0, c1⟩ := R.out.two
        clear o
        go_wp2_with fail
        go_ret
        exact ⟨rfl, O.out⟩
    · have t1 : decide (r.f ≤ x) = false := decide_eq_false k
      rw [show decide (r.Has x) = false from decide_eq_false (fun q => k q.2.1)]
      clear h h' k hx
      unfold Rn.val at *
      go_enter Tryz.func51, Tryz.ntmps51
      go_wp2_with fail
      (with_reducible refine (RM.out _).mono ?_)
      rintro e w2 ⟨rfl, o⟩
      have R := Lib.hid (o.still (Row.fresh w 43 #[.int .i64 r.f, .int .i64 r.c]))
      have O := Lib.hid (((Only.refl none_ w).alloc (.cells #[.int .i64 r.f, .int .i64 r.c] 43)).same o)
      obtain ⟨c0, c1⟩ := R.out.two
      clear o
      go_wp2_with fail
      go_ret
      exact ⟨rfl, O.out⟩
  · rw [decide_eq_false h] at RM
    rw [show decide (r.Has x) = false from decide_eq_false (fun q => h q.1)]
    clear h hx
    unfold Rn.val at *
    go_enter Tryz.func51, Tryz.ntmps51
    go_wp2_with fail
    (with_reducible refine (RM.out _).mono ?_)
    rintro e w2 ⟨rfl, o⟩
    have O := Lib.hid (((Only.refl none_ w).alloc (.cells #[.int .i64 r.f, .int .i64 r.c] 43)).same o)
    clear o
    go_wp2_with fail
    go_ret
    exact ⟨rfl, O.out⟩
end Go.Proofs.YtfbpjobobdidiaaGreatDoor


/- The document's own: what two runs have in common, a run's blocks. -/
namespace Go.Proofs.YtfbpjobobdidiaaGreatDoor
open Go.RowKit
set_option linter.unusedVariables false
set_option maxRecDepth 100000

theorem Owns.lower {α : Type} {w : World} {base base' : Nat} {e : TypeId} {k : Nat} {c : α → List Value} {v : Value} {xs : List α} (h : Owns w base e k c v xs) (hb : base' ≤ base) : Owns w base' e k c v xs := by
  refine ⟨h.1, ?_⟩
  rcases h.2 with h2 | ⟨g, cap, cur, hv, hg, r⟩
  · exact .inl h2
  · exact .inr ⟨g, cap, cur, hv, Nat.le_trans hb hg, r⟩
end Go.Proofs.YtfbpjobobdidiaaGreatDoor


/- The document's own: what two runs have in common. -/
namespace Go.Proofs.YtfbpjobobdidiaaGreatDoor
open Go.RowKit
set_option linter.unusedVariables false
set_option maxRecDepth 100000
/-- blocks made one behind the other -/
theorem three_new (w : World) (t0 t1 t2 : TypeId) (c0 c1 c2 : Array Value) :
    Row (((w.alloc (.cells c0 t0)).alloc (.cells c1 t1)).alloc (.cells c2 t2)) w.heap.size t0 c0 ∧ Row (((w.alloc (.cells c0 t0)).alloc (.cells c1 t1)).alloc (.cells c2 t2)) (w.heap.size + 1) t1 c1 ∧
    Row (((w.alloc (.cells c0 t0)).alloc (.cells c1 t1)).alloc (.cells c2 t2)) (w.heap.size + 1 + 1) t2 c2 ∧ Only none_ w (((w.alloc (.cells c0 t0)).alloc (.cells c1 t1)).alloc (.cells c2 t2)) := by
  have r1 := Row.fresh (w.alloc (.cells c0 t0)) t1 c1
  have r2 := Row.fresh ((w.alloc (.cells c0 t0)).alloc (.cells c1 t1)) t2 c2
  simp only [World.size_alloc] at r1 r2
  exact ⟨((Row.fresh w t0 c0).alloc _).alloc _, r1.alloc _, r2, (((Only.refl none_ w).alloc _).alloc _).alloc _⟩
theorem four_new (w : World) (t0 t1 t2 t3 : TypeId) (c0 c1 c2 c3 : Array Value) :
    Row ((((w.alloc (.cells c0 t0)).alloc (.cells c1 t1)).alloc (.cells c2 t2)).alloc (.cells c3 t3)) w.heap.size t0 c0 ∧ Row ((((w.alloc (.cells c0 t0)).alloc (.cells c1 t1)).alloc (.cells c2 t2)).alloc (.cells c3 t3)) (w.heap.size + 1) t1 c1 ∧
    Row ((((w.alloc (.cells c0 t0)).alloc (.cells c1 t1)).alloc (.cells c2 t2)).alloc (.cells c3 t3)) (w.heap.size + 1 + 1) t2 c2 ∧ Row ((((w.alloc (.cells c0 t0)).alloc (.cells c1 t1)).alloc (.cells c2 t2)).alloc (.cells c3 t3)) (w.heap.size + 1 + 1 + 1) t3 c3 ∧
    Only none_ w ((((w.alloc (.cells c0 t0)).alloc (.cells c1 t1)).alloc (.cells c2 t2)).alloc (.cells c3 t3)) := by
  obtain ⟨h0, h1, h2, o⟩ := three_new w t0 t1 t2 c0 c1 c2
  have r3 := Row.fresh (((w.alloc (.cells c0 t0)).alloc (.cells c1 t1)).alloc (.cells c2 t2)) t3 c3
  simp only [World.size_alloc] at r3
  exact ⟨h0.alloc _, h1.alloc _, h2.alloc _, r3, o.alloc _⟩
set_option maxHeartbeats 2000000 in
theorem rmeet_any (a b : Rn) (w : World) :
    Calls Tryz.prog 16 #[a.val, b.val] w fun e w' => e = .returned (meet a b).val ∧ Only none_ w w' := by
  have RA := Lib.hid (fun (i : Nat) (h : i < 256) w => rhas_any a (i : Int) w (by omega))
  have RB := Lib.hid (fun (i : Nat) (h : i < 256) w => rhas_any b (i : Int) w (by omega))
  have PZ := Lib.hid (part_zero a b)
  have PA := Lib.hid (part_all a b)
  unfold Rn.val at *
  go_enter Tryz.func16, Tryz.ntmps16
  go_wp2_with fail
  obtain ⟨q0, q1, q2, q3, q4⟩ := four_new w 43 43 43 43 #[.int .i64 a.f, .int .i64 a.c] #[.int .i64 b.f, .int .i64 b.c] #[.int .i64 0, .int .i64 0] #[.int .i64 0, .int .i64 0]
  have A0 := Lib.hid q0
  have B0 := Lib.hid q1
  have C0 := Lib.hid q2
  have D0 := Lib.hid q3
  have O0 := Lib.hid q4
  clear q0 q1 q2 q3 q4
  revert A0 B0 C0 D0 O0
  generalize (((w.alloc (.cells #[.int .i64 a.f, .int .i64 a.c] 43)).alloc (.cells #[.int .i64 b.f, .int .i64 b.c] 43)).alloc (.cells #[.int .i64 0, .int .i64 0] 43)).alloc (.cells #[.int .i64 0, .int .i64 0] 43) = W1
  generalize hg3 : w.heap.size + 1 + 1 + 1 = g3
  generalize hg2 : w.heap.size + 1 + 1 = g2
  generalize hg1 : w.heap.size + 1 = g1
  generalize hg0 : w.heap.size = g0
  intro A0 B0 C0 D0 O0
  have GW := Lib.hid (show (w.heap.size = g0 ∧ g1 = g0 + 1 ∧ g2 = g0 + 2 ∧ g3 = g0 + 3) from by omega)
  clear hg0 hg1 hg2 hg3
  go_loopw [6] (fun i wr => ∃ k : Nat, k ≤ 256 ∧ i = .int .i64 k ∧ Row wr g3 43 #[.int .i64 (part a b k).f, .int .i64 (part a b k).c] ∧ Row wr g0 43 #[.int .i64 a.f, .int .i64 a.c] ∧ Row wr g1 43 #[.int .i64 b.f, .int .i64 b.c] ∧ Row wr g2 43 #[.int .i64 0, .int .i64 0] ∧ Only none_ w wr) (fun i _ => 256 - (intOf i).toNat)
  case atStart => exact ⟨0, Nat.zero_le _, rfl, by rw [show ((0 : Nat) : Int) = 0 from rfl, PZ.out]; exact D0.out, A0.out, B0.out, C0.out, O0.out⟩
  case round =>
    obtain ⟨k, hk, rfl, hd, ha, hb, hc, o⟩ := hrel
    have O := Lib.hid o
    have A := Lib.hid ha
    have B := Lib.hid hb
    have C := Lib.hid hc
    have D := Lib.hid hd
    clear A0 B0 C0 D0 O0 ha hb hc hd o
    by_cases hlt : k < 256
    · have RAK := Lib.hid (RA.out k hlt)
      have RBK := Lib.hid (RB.out k hlt)
      have t0 : decide ((k : Int) < 256) = true := decide_eq_true (by omega)
      have HK := Lib.hid hlt
      have HB : k ≤ 1000000 := by omega
      clear hk hlt RA RB
      obtain ⟨a0, a1⟩ := A.out.two
      obtain ⟨b0, b1⟩ := B.out.two
      by_cases h1 : a.Has (k : Int)
      · rw [decide_eq_true h1] at RAK
        by_cases h2 : b.Has (k : Int)
        · rw [decide_eq_true h2] at RBK
          rcases part_new h1 h2 with ⟨e1, e2⟩ | ⟨f, c, e1, e2, e3, e4, e5⟩
          · rw [e1] at D
            have MORE := Lib.hid e2
            clear e1 e2 h1 h2
            go_wp2_with fail
            (with_reducible refine (RAK.out _).mono ?_)
            rintro e w2 ⟨rfl, o2⟩
            have A2 := Lib.hid (o2.still A.out)
            have B2 := Lib.hid (o2.still B.out)
            have C2 := Lib.hid (o2.still C.out)
            have D2 := Lib.hid (o2.still D.out)
            have O2 := Lib.hid (O.out.same o2)
            clear A B C D O o2 a0 a1 b0 b1
            obtain ⟨b0, b1⟩ := B2.out.two
            go_wp2_with fail
            (with_reducible refine (RBK.out _).mono ?_)
            rintro e w3 ⟨rfl, o2⟩
            have A3 := Lib.hid (o2.still A2.out)
            have B3 := Lib.hid (o2.still B2.out)
            have C3 := Lib.hid (o2.still C2.out)
            have D3 := Lib.hid (o2.still D2.out)
            have O3 := Lib.hid (O2.out.same o2)
            clear A2 B2 C2 D2 O2 o2 b0 b1
            obtain ⟨d0, d1⟩ := D3.out.two
            have f0 := D3.out.frozen 0
            have f1 := D3.out.frozen 1
            go_wp2_with fail
            go_roundw
            case rel =>
              have G := GW.out
              refine ⟨k + 1, HK.out, by go_num, ?_, (A3.out.far (by show g0 ≠ g3; omega) _).far (by show g0 ≠ g3; omega) _, (B3.out.far (by show g1 ≠ g3; omega) _).far (by show g1 ≠ g3; omega) _, (C3.out.far (by show g2 ≠ g3; omega) _).far (by show g2 ≠ g3; omega) _, (O3.out.new (by omega) _ _).new (by omega) _ _⟩
              rw [show ((k + 1 : Nat) : Int) = (k : Int) + 1 from rfl, MORE.out]
              exact (D3.out.put 0 _).put 1 _
            case measure => have := HK.out; simp [intOf]; omega
          · rw [e1] at D
            have MORE := Lib.hid e5
            have t : (c == 0) = false := by simp [e2]
            have v : IntKind.i64.wrap (c + 1) = c + 1 := by rw [IntKind.wrap_i64]; omega
            clear e1 e2 e3 e4 e5 h1 h2
            go_wp2_with fail
            (with_reducible refine (RAK.out _).mono ?_)
            rintro e w2 ⟨rfl, o2⟩
            have A2 := Lib.hid (o2.still A.out)
            have B2 := Lib.hid (o2.still B.out)
            have C2 := Lib.hid (o2.still C.out)
            have D2 := Lib.hid (o2.still D.out)
            have O2 := Lib.hid (O.out.same o2)
            clear A B C D O o2 a0 a1 b0 b1
            obtain ⟨b0, b1⟩ := B2.out.two
            go_wp2_with fail
            (with_reducible refine (RBK.out _).mono ?_)
            rintro e w3 ⟨rfl, o2⟩
            have A3 := Lib.hid (o2.still A2.out)
            have B3 := Lib.hid (o2.still B2.out)
            have C3 := Lib.hid (o2.still C2.out)
            have D3 := Lib.hid (o2.still D2.out)
            have O3 := Lib.hid (O2.out.same o2)
            clear A2 B2 C2 D2 O2 o2 b0 b1
            obtain ⟨d0, d1⟩ := D3.out.two
            have f1 := D3.out.frozen 1
            go_wp2_with fail
            go_roundw
            case rel =>
              have G := GW.out
              refine ⟨k + 1, HK.out, by go_num, ?_, A3.out.far (by show g0 ≠ g3; omega) _, B3.out.far (by show g1 ≠ g3; omega) _, C3.out.far (by show g2 ≠ g3; omega) _, O3.out.new (by omega) _ _⟩
              rw [show ((k + 1 : Nat) : Int) = (k : Int) + 1 from rfl, MORE.out]
              exact D3.out.put 1 _
            case measure => have := HK.out; simp [intOf]; omega
        · rw [decide_eq_false h2] at RBK
          have MORE := Lib.hid (part_old (a := a) (b := b) (i := (k : Int)) (fun q => h2 q.2))
          clear h1 h2
          go_wp2_with fail
          (with_reducible refine (RAK.out _).mono ?_)
          rintro e w2 ⟨rfl, o2⟩
          have A2 := Lib.hid (o2.still A.out)
          have B2 := Lib.hid (o2.still B.out)
          have C2 := Lib.hid (o2.still C.out)
          have D2 := Lib.hid (o2.still D.out)
          have O2 := Lib.hid (O.out.same o2)
          clear A B C D O o2 a0 a1 b0 b1
          obtain ⟨b0, b1⟩ := B2.out.two
          go_wp2_with fail
          (with_reducible refine (RBK.out _).mono ?_)
          rintro e w3 ⟨rfl, o2⟩
          have A3 := Lib.hid (o2.still A2.out)
          have B3 := Lib.hid (o2.still B2.out)
          have C3 := Lib.hid (o2.still C2.out)
          have D3 := Lib.hid (o2.still D2.out)
          have O3 := Lib.hid (O2.out.same o2)
          clear A2 B2 C2 D2 O2 o2 b0 b1
          go_wp2_with fail
          go_roundw
          case rel => exact ⟨k + 1, HK.out, by go_num, by rw [show ((k + 1 : Nat) : Int) = (k : Int) + 1 from rfl, MORE.out]; exact D3.out, A3.out, B3.out, C3.out, O3.out⟩
          case measure => have := HK.out; simp [intOf]; omega
      · rw [decide_eq_false h1] at RAK
        have MORE := Lib.hid (part_old (a := a) (b := b) (i := (k : Int)) (fun q => h1 q.1))
        clear h1 RBK
        go_wp2_with fail
        (with_reducible refine (RAK.out _).mono ?_)
        rintro e w2 ⟨rfl, o2⟩
        have A2 := Lib.hid (o2.still A.out)
        have B2 := Lib.hid (o2.still B.out)
        have C2 := Lib.hid (o2.still C.out)
        have D2 := Lib.hid (o2.still D.out)
        have O2 := Lib.hid (O.out.same o2)
        clear A B C D O o2 a0 a1 b0 b1
        go_wp2_with fail
        go_roundw
        case rel => exact ⟨k + 1, HK.out, by go_num, by rw [show ((k + 1 : Nat) : Int) = (k : Int) + 1 from rfl, MORE.out]; exact D2.out, A2.out, B2.out, C2.out, O2.out⟩
        case measure => have := HK.out; simp [intOf]; omega
    · have e : k = 256 := by omega
      subst e
      have t0 : decide ((256 : Int) < 256) = false := by decide
      rw [show ((256 : Nat) : Int) = 256 from rfl, PA.out] at D
      have f0 := C.out.frozen 0
      have f1 := C.out.frozen 1
      obtain ⟨c0, c1⟩ := C.out.two
      obtain ⟨d0, d1⟩ := D.out.two
      go_wp2_with fail
      exact bodyPost_ret (results_run rfl _ _ g2 (meet a b) rfl ((C.out.put 0 _).put 1 _)) rfl ⟨rfl, (O.out.new (by have := GW.out; omega) _ _).new (by have := GW.out; omega) _ _⟩
end Go.Proofs.YtfbpjobobdidiaaGreatDoor


/- What two runs have in common, a run's blocks: the code's own. -/
namespace Go.Proofs.YtfbpjobobdidiaaGreatDoor
open Go.RowKit
set_option linter.unusedVariables false
set_option maxRecDepth 100000

end Go.Proofs.YtfbpjobobdidiaaGreatDoor


/- A run's blocks: the code's own. -/
namespace Go.Proofs.YtfbpjobobdidiaaGreatDoor
open Go.RowKit
set_option linter.unusedVariables false
set_option maxRecDepth 100000

/-- a row that is full -/
theorem Owns.full {α : Type} {w : World} {base : Nat} {e : TypeId} {k : Nat} {c : α → List Value} (hk : ∀ a, (c a).length = k) {g n : Nat} {xs : List α} (h : Row w g e (flat c xs)) (hn : xs.length = n) (hb : base ≤ g) (hm : n ≤ maxLen) : Owns w base e k c (.slice (some ⟨g, 0, none⟩) n n) xs := by
  subst hn
  have sz := flat_size hk xs
  have fl : (xs.flatMap c).length = xs.length * k := by rw [← sz]; unfold flat; rw [List.size_toArray]
  refine ⟨fl, .inr ⟨g, xs.length, flat c xs, rfl, hb, h, Nat.le_refl _, hm, sz, ?_⟩⟩
  unfold flat
  rw [List.take_of_length_le]
  rw [fl]
  exact Nat.le_refl _
theorem blocks_get {r : Rn} (h : r.Ok) {j : Nat} (hj : (j : Int) < r.c) : (blocksOf r)[j]? = some (r.f + (j : Int)) := by
  unfold blocksOf
  rw [if_pos h, List.getElem?_map, List.getElem?_range (by omega)]
  rfl
set_option maxHeartbeats 2000000 in
theorem blocks_any (r : Rn) (w : World) :
    Calls Tryz.prog 103 #[r.val] w fun e w' => ∃ v, e = .returned v ∧ OwnsInts w' w.heap.size v (blocksOf r) ∧ Only none_ w w' := by
  have IA := Lib.hid (fun w => is_any r w)
  by_cases h : r.Ok
  · rw [decide_eq_true h] at IA
    have h' := h
    unfold Rn.Ok at h'
    obtain ⟨n, hn⟩ := Int.eq_ofNat_of_zero_le (show 0 ≤ r.c by omega)
    have BG := Lib.hid (fun (j : Nat) (hj : j < n) => blocks_get h (j := j) (by omega))
    have BL := Lib.hid (show (blocksOf r).length = n from by rw [blocks_len h]; omega)
    obtain ⟨i0, hi0, hz0, hz1, hz2⟩ := info_parts info_int8
    have MK := run_make_flat (P := Tryz.prog) (c := one) 0 one1 (by decide) 44 3 i0 (.int .i64 0) Tryz.underlying44 hi0 hz0 hz1 rfl .i64 .i64 n (by rw [hz2]; omega) (by omega)
    generalize blocksOf r = bl at *
    obtain ⟨f, c⟩ := r
    dsimp only at *
    subst hn
    unfold Rn.val at *
    dsimp only at *
    have F := Lib.hid h'
    clear hi0 hz0 hz1 hz2 h h'
    go_enter Tryz.func103, Tryz.ntmps103
    go_wp2_with fail
    have R0 := Lib.hid (Row.fresh w 43 #[.int .i64 f, .int .i64 (n : Int)])
    have O0 := Lib.hid ((Only.refl none_ w).alloc (.cells #[.int .i64 f, .int .i64 (n : Int)] 43))
    (with_reducible refine (IA.out _).mono ?_)
    rintro e w2 ⟨rfl, o2⟩
    have R2 := Lib.hid (o2.still R0.out)
    have O2 := Lib.hid (O0.out.same o2)
    clear o2 R0 O0
    obtain ⟨r0, r1⟩ := R2.out.two
    go_wp2_with fail
    have lt := R2.out.lt
    have R3 := Lib.hid (R2.out.alloc (.cells (flat one (List.replicate n 0)) 3))
    have B3 := Lib.hid (Row.fresh w2 3 (flat one (List.replicate n 0)))
    have O3 := Lib.hid (O2.out.alloc (.cells (flat one (List.replicate n 0)) 3))
    have sz := O2.out.size
    clear r0 r1 R2 O2 MK
    revert lt R3 B3 O3 sz
    generalize w2.alloc (.cells (flat one (List.replicate n 0)) 3) = W3
    generalize w2.heap.size = gs
    generalize hg0 : w.heap.size = g0
    intro lt R3 B3 O3 sz
    have GW := Lib.hid (show w.heap.size = g0 ∧ g0 < gs from ⟨hg0, lt⟩)
    clear hg0 lt sz
    go_loopw [13] (fun i wr => ∃ k : Nat, k ≤ n ∧ i = .int .i64 k ∧ (∃ l : List Int, l.length = n ∧ (∀ j, j < k → l[j]? = some (f + (j : Int))) ∧ Row wr gs 3 (flat one l)) ∧ Row wr g0 43 #[.int .i64 f, .int .i64 (n : Int)] ∧ Only none_ w wr) (fun i _ => n - (intOf i).toNat)
    case atStart => exact ⟨0, Nat.zero_le _, rfl, ⟨List.replicate n 0, by simp, fun j hj => by omega, B3.out⟩, R3.out, O3.out⟩
    case round =>
      obtain ⟨k, hk, rfl, ⟨l, hl, hj, hb⟩, hr, o⟩ := hrel
      have O := Lib.hid o
      have B := Lib.hid hb
      have R := Lib.hid hr
      have L := Lib.hid hl
      have J := Lib.hid hj
      clear B3 R3 O3 o hb hr hl hj
      have FF := F.out
      by_cases hlt : k < n
      · obtain ⟨y, hy⟩ : ∃ y, l[k]? = some y := ⟨_, List.getElem?_eq_getElem (by rw [L.out]; exact hlt)⟩
        have v : IntKind.i64.wrap (f + (k : Int)) = f + (k : Int) := by rw [IntKind.wrap_i64]; omega
        have hn : n ≤ 256 := by omega
        clear FF
        have c0 : W3.cell? ⟨0, 0, none⟩ = W3.cell? ⟨0, 0, none⟩ := rfl
        obtain ⟨r0, r1⟩ := R.out.two
        have f1 := B.out.frozen k
        have c1 : wr.cell? ⟨gs, k, none⟩ = some (.int .i64 y) := by
          rw [B.out.cell]
          have := flat_get (c := one) one1 hy (j := 0) (by decide)
          rwa [Nat.mul_one, Nat.add_zero] at this
        have HY := Lib.hid hy
        clear hy c0
        go_wp2_with fail
        go_roundw
        case rel =>
          refine ⟨k + 1, by omega, by go_num, ⟨l.set k (f + (k : Int)), by rw [List.length_set]; exact L.out, fun j q => ?_, ?_⟩, R.out.far (by have := GW.out; show g0 ≠ gs; omega) _, O.out.new (by have := GW.out; omega) _ _⟩
          · rw [List.getElem?_set]
            by_cases e : k = j
            · subst e
              rw [if_pos rfl, if_pos (by rw [L.out]; exact hlt)]
            · rw [if_neg e]
              exact J.out j (by omega)
          · have p := B.out.put k (.int .i64 (f + (k : Int)))
            have q := flat_put (c := one) one1 (i := k) (j := 0) HY.out (a' := f + (k : Int)) (v := .int .i64 (f + (k : Int))) (by decide) rfl
            rw [Nat.mul_one, Nat.add_zero] at q
            rw [q] at p
            exact p
        case measure => simp [intOf]; omega
      · have e : k = n := by omega
        subst e
        have LE : l = bl := eq_upto (by rw [L.out, BL.out]) (fun j q => by rw [J.out j (by rw [← L.out]; exact q), BG.out j (by rw [← L.out]; exact q)])
        subst LE
        have hn : k ≤ 256 := by omega
        clear FF
        go_wp2_with fail
        go_ret
        exact ⟨_, rfl, Owns.full one1 B.out L.out (by have := GW.out; omega) (by unfold maxLen; omega), O.out⟩
  · rw [decide_eq_false h] at IA
    rw [show blocksOf r = [] from by unfold blocksOf; rw [if_neg h]]
    clear h
    unfold Rn.val at *
    go_enter Tryz.func103, Tryz.ntmps103
    go_wp2_with fail
    have O0 := Lib.hid ((Only.refl none_ w).alloc (.cells #[.int .i64 r.f, .int .i64 r.c] 43))
    (with_reducible refine (IA.out _).mono ?_)
    rintro e w2 ⟨rfl, o2⟩
    have O2 := Lib.hid (O0.out.same o2)
    clear o2 O0
    go_wp2_with fail
    go_ret
    exact ⟨_, rfl, Owns.start _ _ _ _ _, O2.out⟩
end Go.Proofs.YtfbpjobobdidiaaGreatDoor


/- The run that is grown around a block: the code's own. -/
namespace Go.Proofs.YtfbpjobobdidiaaGreatDoor
open Go.RowKit
set_option linter.unusedVariables false
set_option maxRecDepth 100000

/-- what lies in memory while a run grows -/
structure GrAt (w0 w : World) (g : Nat) (xs ys : List Int) (lo c : Int) : Prop where
  sx : SetAt w g (hasB xs)
  sy : SetAt w (g + 1) (hasB ys)
  rc : Row w (g + 1 + 1) 43 #[.int .i64 0, .int .i64 0]
  rr : Row w (g + 1 + 1 + 1) 43 #[.int .i64 lo, .int .i64 c]
  only : Only none_ w0 w
  at_ : w0.heap.size = g
theorem GrAt.still {w0 w w' : World} {g : Nat} {xs ys : List Int} {lo c : Int} (h : GrAt w0 w g xs ys lo c) (o : Only none_ w w') : GrAt w0 w' g xs ys lo c :=
  ⟨h.sx.still o, h.sy.still o, o.still h.rc, o.still h.rr, h.only.same o, h.at_⟩
theorem GrAt.put {w0 w : World} {g : Nat} {xs ys : List Int} {lo c : Int} (h : GrAt w0 w g xs ys lo c) (lo' c' : Int) :
    GrAt w0 ((w.setCell ⟨g + 1 + 1 + 1, 0, none⟩ (.int .i64 lo')).setCell ⟨g + 1 + 1 + 1, 1, none⟩ (.int .i64 c')) g xs ys lo' c' := by
  have e := h.at_
  exact ⟨(Row.far h.sx (by show g ≠ _; simp only; omega) _).far (by show g ≠ _; simp only; omega) _, (Row.far h.sy (by show g + 1 ≠ _; simp only; omega) _).far (by show g + 1 ≠ _; simp only; omega) _,
    (h.rc.far (by show g + 1 + 1 ≠ _; simp only; omega) _).far (by show g + 1 + 1 ≠ _; simp only; omega) _, (h.rr.put 0 _).put 1 _, (h.only.new (by omega) _ _).new (by omega) _ _, e⟩

theorem index0 (x y : Value) (w : World) : (Instr.index 231 (.agg #[x, y]) (.int .i64 0)).run Tryz.prog w = .ok x w := by kernel_rfl
theorem index1 (x y : Value) (w : World) : (Instr.index 231 (.agg #[x, y]) (.int .i64 1)).run Tryz.prog w = .ok y w := by kernel_rfl
set_option maxHeartbeats 2000000 in
theorem grown_any (xs ys : List Int) (b most room : Int) (w : World) (hb : hasB xs b = true) (hm : 1 ≤ most ∧ most ≤ 8) (hr : 0 ≤ room ∧ room ≤ 9223372036854775807) :
    Calls Tryz.prog 140 #[.agg (bits (hasB xs)), .agg (bits (hasB ys)), .int .i64 b, .int .i64 most, .int .i64 room] w fun e w' =>
      e = .returned (Rn.mk (grow (hasB xs) (hasB ys) (most - 1).toNat b b room).1 ((grow (hasB xs) (hasB ys) (most - 1).toNat b b room).2 - (grow (hasB xs) (hasB ys) (most - 1).toNat b b room).1 + 1)).val ∧ Only none_ w w' := by
  have v1 : IntKind.i64.wrap (most - 1) = most - 1 := by rw [IntKind.wrap_i64]; omega
  unfold Rn.val
  generalize hG : grow (hasB xs) (hasB ys) (most - 1).toNat b b room = G
  obtain ⟨n, hn⟩ := Int.eq_ofNat_of_zero_le (show 0 ≤ most - 1 by omega)
  rw [hn] at v1 hG
  rw [Int.toNat_natCast] at hG
  have HB := Lib.hid (hasB_yes hb)
  have HR := Lib.hid hr
  have HG := Lib.hid hG
  have HN := Lib.hid (show n ≤ 7 from by omega)
  clear hb hm hr hG
  have I0 := index0
  have I1 := index1
  go_enter Tryz.func140, Tryz.ntmps140
  go_wp2_with fail
  go_step3
  go_wp2_with fail
  go_step3
  go_wp2_with fail
  obtain ⟨q0, q1, q2, q3, q4⟩ := four_new w 212 212 43 43 (bits (hasB xs)) (bits (hasB ys)) #[.int .i64 0, .int .i64 0] #[.int .i64 b, .int .i64 1]
  have A0 := Lib.hid (show GrAt w ((((w.alloc (.cells (bits (hasB xs)) 212)).alloc (.cells (bits (hasB ys)) 212)).alloc (.cells #[.int .i64 0, .int .i64 0] 43)).alloc (.cells #[.int .i64 b, .int .i64 1] 43)) w.heap.size xs ys b 1 from ⟨q0, q1, q2, q3, q4, rfl⟩)
  clear q0 q1 q2 q3 q4 v1
  revert A0
  generalize (((w.alloc (.cells (bits (hasB xs)) 212)).alloc (.cells (bits (hasB ys)) 212)).alloc (.cells #[.int .i64 0, .int .i64 0] 43)).alloc (.cells #[.int .i64 b, .int .i64 1] 43) = W1
  generalize w.heap.size = g
  intro A0
  generalize bits (hasB xs) = bx
  generalize bits (hasB ys) = by_
  clear hn
  go_loopw [18, 4] (fun i ro wr => ∃ (k : Nat) (lo c rm : Int), k ≤ n ∧ i = .int .i64 k ∧ ro = .int .i64 rm ∧ GrAt w wr g xs ys lo c ∧ (grow (hasB xs) (hasB ys) (n - k) lo (lo + c - 1) rm = G ∧ 1 ≤ c ∧ c ≤ k + 1 ∧ 0 ≤ lo ∧ lo + c ≤ 256 ∧ 0 ≤ rm ∧ rm ≤ 9223372036854775807)) (fun i _ _ => n - (intOf i).toNat)
  case atStart =>
    have h1 := HB.out
    have h2 := HR.out
    exact ⟨0, b, 1, room, Nat.zero_le _, rfl, rfl, A0.out, by rw [← HG.out, show b + 1 - 1 = b by omega]; rfl, by omega, by omega, by omega, by omega, by omega, by omega⟩
  case round =>
    obtain ⟨k, lo, c, rm, hk, rfl, rfl, ha, hx⟩ := hrel
    have A := Lib.hid ha
    have X := Lib.hid hx
    clear A0 ha HB HR HG
    have hkb : k ≤ 7 := by have := HN.out; omega
    by_cases hlt : k < n
    · have EN := Lib.hid (fun w => end_any ⟨lo, c⟩ w (by have := hx; dsimp only; omega))
      obtain ⟨u, hu⟩ : ∃ u, u = lo + c := ⟨_, rfl⟩
      obtain ⟨d, hd⟩ : ∃ d, d = lo - 1 := ⟨_, rfl⟩
      have v1 : IntKind.i64.wrap (lo - 1) = d := by rw [hd, IntKind.wrap_i64]; omega
      unfold Rn.val at EN
      dsimp only at EN
      rw [← hu] at EN
      have HU := Lib.hid hu
      have HD := Lib.hid hd
      clear hx hu hd
      have ND := Lib.hid (Only.refl none_ wr).drew
      have KK := Lib.hid (fun (w' : World) (o : Only none_ wr w') => (o.still A.out.rr).two)
      obtain ⟨r0, r1⟩ := KK.out _ ND.out
      go_wp2_with fail
      go_region_held3 (fun w' => w'.cell? ⟨g + 1 + 1 + 1, 0, none⟩ = some (.int .i64 lo) ∧ w'.cell? ⟨g + 1 + 1 + 1, 1, none⟩ = some (.int .i64 c))
        (first
          | (with_reducible exact KK.out _ Q1.out)
          | (with_reducible exact KK.out _ ND.out)
          | fail)
        (first
          | ((with_reducible refine (EN.out _).mono ?_); rintro e u1 ⟨rfl, o1⟩; have Q1 := Lib.hid (ND.out.same o1))
          | fail)
      have A1 := Lib.hid (A.out.still Q1.out)
      clear r0 r1 Q1 ND KK A EN o1
      go_wp2_with fail
      refine wp_loop_rounds 3 ?_
      rw [rounds_succ]
      go_wp2_with fail
      have HS_u := Lib.hid (fun (w' : World) (h : SetAt w' g (hasB xs)) => has_set g xs u w' h)
      have CS_u := Lib.hid (fun (w' : World) (h : SetAt w' (g + 1) (hasB ys)) => cost_set (g + 1) ys u w' h)
      have CC_u := costB_cases (hasB ys) u
      cases q1 : hasB xs u with
      | true =>
        rw [q1] at HS_u
        obtain ⟨cv, qc⟩ : ∃ cv, costB (hasB ys) u = cv := ⟨_, rfl⟩
        have QC := Lib.hid qc
        clear qc
        rw [QC.out] at CS_u CC_u
        have hcv : 0 ≤ cv ∧ cv ≤ 1 := by omega
        by_cases q2 : cv ≤ rm
        · have v2 : IntKind.i64.wrap (rm - cv) = rm - cv := by rw [IntKind.wrap_i64]; have X2 := X.out.2; omega
          have v3 : IntKind.i64.wrap (c + 1) = c + 1 := by rw [IntKind.wrap_i64]; have X2 := X.out.2; omega
          have mn : min lo u = lo := by have hu := HU.out; have hd := HD.out; have X2 := X.out.2; omega
          have t2 : decide (cv ≤ rm) = true := decide_eq_true q2
          have NX := Lib.hid (show grow (hasB xs) (hasB ys) (n - (k + 1)) lo (lo + (c + 1) - 1) (rm - cv) = G ∧ 1 ≤ c + 1 ∧ c + 1 ≤ ((k + 1 : Nat) : Int) + 1 ∧ 0 ≤ lo ∧ lo + (c + 1) ≤ 256 ∧ 0 ≤ rm - cv ∧ rm - cv ≤ 9223372036854775807 from by
            have hu := HU.out
            have hd := HD.out
            obtain ⟨X1, X2⟩ := X.out
            have rg := hasB_yes q1
            refine ⟨?_, by omega, by omega, by omega, by omega, by omega, by omega⟩
            rw [← X1, show n - k = (n - (k + 1)) + 1 by omega, grow_up (by rw [show lo + c - 1 + 1 = u by omega]; unfold okB; rw [q1, QC.out, decide_eq_true q2]; rfl), show lo + c - 1 + 1 = u by omega, QC.out]
            congr 1
            omega)
          clear q1 q2 hcv CC_u X HU HD
          go_wp2_with fail
          (with_reducible refine (HS_u.out _ A1.out.sx).mono ?_)
          rintro e w2 ⟨rfl, o2⟩
          have A2 := Lib.hid (A1.out.still o2)
          clear o2 A1
          go_wp2_with fail
          (with_reducible refine (CS_u.out _ A2.out.sy).mono ?_)
          rintro e w3 ⟨rfl, o3⟩
          have A3 := Lib.hid (A2.out.still o3)
          clear o3 A2
          go_wp2_with fail
          (with_reducible refine (CS_u.out _ A3.out.sy).mono ?_)
          rintro e w4 ⟨rfl, o4⟩
          have A4 := Lib.hid (A3.out.still o4)
          clear o4 A3
          obtain ⟨r0, r1⟩ := A4.out.rr.two
          have f0 := A4.out.rr.frozen 0
          have f1 := A4.out.rr.frozen 1
          go_wp2_with fail
          go_roundw
          case rel =>
            refine ⟨k + 1, lo, c + 1, rm - cv, by omega, by go_num, rfl, A4.out.put lo (c + 1), ?_⟩
            exact NX.out
          case measure => simp [intOf]; omega
        · have t2 : decide (cv ≤ rm) = false := decide_eq_false q2
          have OKN := Lib.hid (show okB (hasB xs) (hasB ys) u rm = false from by unfold okB; rw [QC.out, decide_eq_false q2, Bool.and_false])
          clear q1 q2 hcv CC_u
          go_wp2_with fail
          (with_reducible refine (HS_u.out _ A1.out.sx).mono ?_)
          rintro e w2 ⟨rfl, o2⟩
          have A2 := Lib.hid (A1.out.still o2)
          clear o2 A1
          go_wp2_with fail
          (with_reducible refine (CS_u.out _ A2.out.sy).mono ?_)
          rintro e w3 ⟨rfl, o3⟩
          have A3 := Lib.hid (A2.out.still o3)
          clear o3 A2
          go_wp2_with fail
          rw [rounds_succ]
          clear t2
          have OKU := Lib.hid (show okB (hasB xs) (hasB ys) (lo + c - 1 + 1) rm = false from by have hu := HU.out; rw [show lo + c - 1 + 1 = u by omega]; exact OKN.out)
          clear OKN
          go_wp2_with fail
          have HS_d := Lib.hid (fun (w' : World) (h : SetAt w' g (hasB xs)) => has_set g xs d w' h)
          have CS_d := Lib.hid (fun (w' : World) (h : SetAt w' (g + 1) (hasB ys)) => cost_set (g + 1) ys d w' h)
          have CC_d := costB_cases (hasB ys) d
          cases q1 : hasB xs d with
          | true =>
            rw [q1] at HS_d
            obtain ⟨cv, qc⟩ : ∃ cv, costB (hasB ys) d = cv := ⟨_, rfl⟩
            have QC := Lib.hid qc
            clear qc
            rw [QC.out] at CS_d CC_d
            have hcv : 0 ≤ cv ∧ cv ≤ 1 := by omega
            by_cases q2 : cv ≤ rm
            · have v2 : IntKind.i64.wrap (rm - cv) = rm - cv := by rw [IntKind.wrap_i64]; have X2 := X.out.2; omega
              have v3 : IntKind.i64.wrap (c + 1) = c + 1 := by rw [IntKind.wrap_i64]; have X2 := X.out.2; omega
              have mn : min lo d = d := by have hu := HU.out; have hd := HD.out; have X2 := X.out.2; omega
              have t2 : decide (cv ≤ rm) = true := decide_eq_true q2
              have NX := Lib.hid (show grow (hasB xs) (hasB ys) (n - (k + 1)) d (d + (c + 1) - 1) (rm - cv) = G ∧ 1 ≤ c + 1 ∧ c + 1 ≤ ((k + 1 : Nat) : Int) + 1 ∧ 0 ≤ d ∧ d + (c + 1) ≤ 256 ∧ 0 ≤ rm - cv ∧ rm - cv ≤ 9223372036854775807 from by
                have hu := HU.out
                have hd := HD.out
                obtain ⟨X1, X2⟩ := X.out
                have rg := hasB_yes q1
                refine ⟨?_, by omega, by omega, by omega, by omega, by omega, by omega⟩
                rw [← X1, show n - k = (n - (k + 1)) + 1 by omega, grow_down OKU.out (by rw [show lo - 1 = d by omega]; unfold okB; rw [q1, QC.out, decide_eq_true q2]; rfl), show lo - 1 = d by omega, QC.out]
                congr 1
                omega)
              clear q1 q2 hcv CC_d X HU HD
              go_wp2_with fail
              (with_reducible refine (HS_d.out _ A3.out.sx).mono ?_)
              rintro e w4 ⟨rfl, o4⟩
              have A4 := Lib.hid (A3.out.still o4)
              clear o4 A3
              go_wp2_with fail
              (with_reducible refine (CS_d.out _ A4.out.sy).mono ?_)
              rintro e w5 ⟨rfl, o5⟩
              have A5 := Lib.hid (A4.out.still o5)
              clear o5 A4
              go_wp2_with fail
              (with_reducible refine (CS_d.out _ A5.out.sy).mono ?_)
              rintro e w6 ⟨rfl, o6⟩
              have A6 := Lib.hid (A5.out.still o6)
              clear o6 A5
              obtain ⟨r0, r1⟩ := A6.out.rr.two
              have f0 := A6.out.rr.frozen 0
              have f1 := A6.out.rr.frozen 1
              go_wp2_with fail
              go_roundw
              case rel =>
                refine ⟨k + 1, d, c + 1, rm - cv, by omega, by go_num, rfl, A6.out.put d (c + 1), ?_⟩
                exact NX.out
              case measure => simp [intOf]; omega
            · have t2 : decide (cv ≤ rm) = false := decide_eq_false q2
              have OKN := Lib.hid (show okB (hasB xs) (hasB ys) d rm = false from by unfold okB; rw [QC.out, decide_eq_false q2, Bool.and_false])
              clear q1 q2 hcv CC_d
              go_wp2_with fail
              (with_reducible refine (HS_d.out _ A3.out.sx).mono ?_)
              rintro e w4 ⟨rfl, o4⟩
              have A4 := Lib.hid (A3.out.still o4)
              clear o4 A3
              go_wp2_with fail
              (with_reducible refine (CS_d.out _ A4.out.sy).mono ?_)
              rintro e w5 ⟨rfl, o5⟩
              have A5 := Lib.hid (A4.out.still o5)
              clear o5 A4
              go_wp2_with fail
              rw [rounds_succ]
              clear t2
              have GE := Lib.hid (show (lo, lo + c - 1) = G from by have hu := HU.out; have hd := HD.out; obtain ⟨X1, X2⟩ := X.out; rw [← X1, grow_end OKU.out (by rw [show lo - 1 = d by omega]; exact OKN.out)])
              clear X HU HD OKN OKU
              have f0 := A5.out.rc.frozen 0
              have f1 := A5.out.rc.frozen 1
              obtain ⟨c0, c1⟩ := A5.out.rc.two
              obtain ⟨r0, r1⟩ := A5.out.rr.two
              go_wp2_with fail
              have hat := A5.out.at_
              simp only [Exit.noGoto]
              refine bodyPost_ret (results_run rfl _ _ (g + 1 + 1) ⟨lo, c⟩ rfl ((A5.out.rc.put 0 _).put 1 _)) rfl ⟨?_, (A5.out.only.new (by omega) _ _).new (by omega) _ _⟩
              rw [← GE.out]
              show _ = Ending.returned (Value.agg #[.int .i64 lo, .int .i64 (lo + c - 1 - lo + 1)])
              rw [show lo + c - 1 - lo + 1 = c by omega]
              rfl
          | false =>
            rw [q1] at HS_d
            have OKN := Lib.hid (show okB (hasB xs) (hasB ys) d rm = false from by unfold okB; rw [q1, Bool.false_and])
            clear q1 CC_d CS_d
            go_wp2_with fail
            (with_reducible refine (HS_d.out _ A3.out.sx).mono ?_)
            rintro e w4 ⟨rfl, o4⟩
            have A4 := Lib.hid (A3.out.still o4)
            clear o4 A3
            go_wp2_with fail
            rw [rounds_succ]
            have GE := Lib.hid (show (lo, lo + c - 1) = G from by have hu := HU.out; have hd := HD.out; obtain ⟨X1, X2⟩ := X.out; rw [← X1, grow_end OKU.out (by rw [show lo - 1 = d by omega]; exact OKN.out)])
            clear X HU HD OKN OKU
            have f0 := A4.out.rc.frozen 0
            have f1 := A4.out.rc.frozen 1
            obtain ⟨c0, c1⟩ := A4.out.rc.two
            obtain ⟨r0, r1⟩ := A4.out.rr.two
            go_wp2_with fail
            have hat := A4.out.at_
            simp only [Exit.noGoto]
            refine bodyPost_ret (results_run rfl _ _ (g + 1 + 1) ⟨lo, c⟩ rfl ((A4.out.rc.put 0 _).put 1 _)) rfl ⟨?_, (A4.out.only.new (by omega) _ _).new (by omega) _ _⟩
            rw [← GE.out]
            show _ = Ending.returned (Value.agg #[.int .i64 lo, .int .i64 (lo + c - 1 - lo + 1)])
            rw [show lo + c - 1 - lo + 1 = c by omega]
            rfl
      | false =>
        rw [q1] at HS_u
        have OKN := Lib.hid (show okB (hasB xs) (hasB ys) u rm = false from by unfold okB; rw [q1, Bool.false_and])
        clear q1 CC_u CS_u
        go_wp2_with fail
        (with_reducible refine (HS_u.out _ A1.out.sx).mono ?_)
        rintro e w2 ⟨rfl, o2⟩
        have A2 := Lib.hid (A1.out.still o2)
        clear o2 A1
        go_wp2_with fail
        rw [rounds_succ]
        have OKU := Lib.hid (show okB (hasB xs) (hasB ys) (lo + c - 1 + 1) rm = false from by have hu := HU.out; rw [show lo + c - 1 + 1 = u by omega]; exact OKN.out)
        clear OKN
        go_wp2_with fail
        have HS_d := Lib.hid (fun (w' : World) (h : SetAt w' g (hasB xs)) => has_set g xs d w' h)
        have CS_d := Lib.hid (fun (w' : World) (h : SetAt w' (g + 1) (hasB ys)) => cost_set (g + 1) ys d w' h)
        have CC_d := costB_cases (hasB ys) d
        cases q1 : hasB xs d with
        | true =>
          rw [q1] at HS_d
          obtain ⟨cv, qc⟩ : ∃ cv, costB (hasB ys) d = cv := ⟨_, rfl⟩
          have QC := Lib.hid qc
          clear qc
          rw [QC.out] at CS_d CC_d
          have hcv : 0 ≤ cv ∧ cv ≤ 1 := by omega
          by_cases q2 : cv ≤ rm
          · have v2 : IntKind.i64.wrap (rm - cv) = rm - cv := by rw [IntKind.wrap_i64]; have X2 := X.out.2; omega
            have v3 : IntKind.i64.wrap (c + 1) = c + 1 := by rw [IntKind.wrap_i64]; have X2 := X.out.2; omega
            have mn : min lo d = d := by have hu := HU.out; have hd := HD.out; have X2 := X.out.2; omega
            have t2 : decide (cv ≤ rm) = true := decide_eq_true q2
            have NX := Lib.hid (show grow (hasB xs) (hasB ys) (n - (k + 1)) d (d + (c + 1) - 1) (rm - cv) = G ∧ 1 ≤ c + 1 ∧ c + 1 ≤ ((k + 1 : Nat) : Int) + 1 ∧ 0 ≤ d ∧ d + (c + 1) ≤ 256 ∧ 0 ≤ rm - cv ∧ rm - cv ≤ 9223372036854775807 from by
              have hu := HU.out
              have hd := HD.out
              obtain ⟨X1, X2⟩ := X.out
              have rg := hasB_yes q1
              refine ⟨?_, by omega, by omega, by omega, by omega, by omega, by omega⟩
              rw [← X1, show n - k = (n - (k + 1)) + 1 by omega, grow_down OKU.out (by rw [show lo - 1 = d by omega]; unfold okB; rw [q1, QC.out, decide_eq_true q2]; rfl), show lo - 1 = d by omega, QC.out]
              congr 1
              omega)
            clear q1 q2 hcv CC_d X HU HD
            go_wp2_with fail
            (with_reducible refine (HS_d.out _ A2.out.sx).mono ?_)
            rintro e w3 ⟨rfl, o3⟩
            have A3 := Lib.hid (A2.out.still o3)
            clear o3 A2
            go_wp2_with fail
            (with_reducible refine (CS_d.out _ A3.out.sy).mono ?_)
            rintro e w4 ⟨rfl, o4⟩
            have A4 := Lib.hid (A3.out.still o4)
            clear o4 A3
            go_wp2_with fail
            (with_reducible refine (CS_d.out _ A4.out.sy).mono ?_)
            rintro e w5 ⟨rfl, o5⟩
            have A5 := Lib.hid (A4.out.still o5)
            clear o5 A4
            obtain ⟨r0, r1⟩ := A5.out.rr.two
            have f0 := A5.out.rr.frozen 0
            have f1 := A5.out.rr.frozen 1
            go_wp2_with fail
            go_roundw
            case rel =>
              refine ⟨k + 1, d, c + 1, rm - cv, by omega, by go_num, rfl, A5.out.put d (c + 1), ?_⟩
              exact NX.out
            case measure => simp [intOf]; omega
          · have t2 : decide (cv ≤ rm) = false := decide_eq_false q2
            have OKN := Lib.hid (show okB (hasB xs) (hasB ys) d rm = false from by unfold okB; rw [QC.out, decide_eq_false q2, Bool.and_false])
            clear q1 q2 hcv CC_d
            go_wp2_with fail
            (with_reducible refine (HS_d.out _ A2.out.sx).mono ?_)
            rintro e w3 ⟨rfl, o3⟩
            have A3 := Lib.hid (A2.out.still o3)
            clear o3 A2
            go_wp2_with fail
            (with_reducible refine (CS_d.out _ A3.out.sy).mono ?_)
            rintro e w4 ⟨rfl, o4⟩
            have A4 := Lib.hid (A3.out.still o4)
            clear o4 A3
            go_wp2_with fail
            rw [rounds_succ]
            clear t2
            have GE := Lib.hid (show (lo, lo + c - 1) = G from by have hu := HU.out; have hd := HD.out; obtain ⟨X1, X2⟩ := X.out; rw [← X1, grow_end OKU.out (by rw [show lo - 1 = d by omega]; exact OKN.out)])
            clear X HU HD OKN OKU
            have f0 := A4.out.rc.frozen 0
            have f1 := A4.out.rc.frozen 1
            obtain ⟨c0, c1⟩ := A4.out.rc.two
            obtain ⟨r0, r1⟩ := A4.out.rr.two
            go_wp2_with fail
            have hat := A4.out.at_
            simp only [Exit.noGoto]
            refine bodyPost_ret (results_run rfl _ _ (g + 1 + 1) ⟨lo, c⟩ rfl ((A4.out.rc.put 0 _).put 1 _)) rfl ⟨?_, (A4.out.only.new (by omega) _ _).new (by omega) _ _⟩
            rw [← GE.out]
            show _ = Ending.returned (Value.agg #[.int .i64 lo, .int .i64 (lo + c - 1 - lo + 1)])
            rw [show lo + c - 1 - lo + 1 = c by omega]
            rfl
        | false =>
          rw [q1] at HS_d
          have OKN := Lib.hid (show okB (hasB xs) (hasB ys) d rm = false from by unfold okB; rw [q1, Bool.false_and])
          clear q1 CC_d CS_d
          go_wp2_with fail
          (with_reducible refine (HS_d.out _ A2.out.sx).mono ?_)
          rintro e w3 ⟨rfl, o3⟩
          have A3 := Lib.hid (A2.out.still o3)
          clear o3 A2
          go_wp2_with fail
          rw [rounds_succ]
          have GE := Lib.hid (show (lo, lo + c - 1) = G from by have hu := HU.out; have hd := HD.out; obtain ⟨X1, X2⟩ := X.out; rw [← X1, grow_end OKU.out (by rw [show lo - 1 = d by omega]; exact OKN.out)])
          clear X HU HD OKN OKU
          have f0 := A3.out.rc.frozen 0
          have f1 := A3.out.rc.frozen 1
          obtain ⟨c0, c1⟩ := A3.out.rc.two
          obtain ⟨r0, r1⟩ := A3.out.rr.two
          go_wp2_with fail
          have hat := A3.out.at_
          simp only [Exit.noGoto]
          refine bodyPost_ret (results_run rfl _ _ (g + 1 + 1) ⟨lo, c⟩ rfl ((A3.out.rc.put 0 _).put 1 _)) rfl ⟨?_, (A3.out.only.new (by omega) _ _).new (by omega) _ _⟩
          rw [← GE.out]
          show _ = Ending.returned (Value.agg #[.int .i64 lo, .int .i64 (lo + c - 1 - lo + 1)])
          rw [show lo + c - 1 - lo + 1 = c by omega]
          rfl
    · have e : k = n := by omega
      have GE := Lib.hid (show (lo, lo + c - 1) = G from by rw [← hx.1, show n - k = 0 by omega]; rfl)
      clear hx X
      have f0 := A.out.rc.frozen 0
      have f1 := A.out.rc.frozen 1
      obtain ⟨c0, c1⟩ := A.out.rc.two
      obtain ⟨r0, r1⟩ := A.out.rr.two
      go_wp2_with fail
      have hat := A.out.at_
      simp only [Exit.noGoto]
      refine bodyPost_ret (results_run rfl _ _ (g + 1 + 1) ⟨lo, c⟩ rfl ((A.out.rc.put 0 _).put 1 _)) rfl ⟨?_, (A.out.only.new (by omega) _ _).new (by omega) _ _⟩
      rw [← GE.out]
      show _ = Ending.returned (Value.agg #[.int .i64 lo, .int .i64 (lo + c - 1 - lo + 1)])
      rw [show lo + c - 1 - lo + 1 = c by omega]
      rfl
end Go.Proofs.YtfbpjobobdidiaaGreatDoor


/- The run around a block: the code's own. -/
namespace Go.Proofs.YtfbpjobobdidiaaGreatDoor
open Go.RowKit
set_option linter.unusedVariables false
set_option maxRecDepth 100000

/-- a whole row, read in a region that draws -/
theorem still_load_row {P : Program} {ops : Array Oper} {w : World} {Q : Act → Prop} {o : Oper} {rest : List Oper} {a : Act} (hgd : o.guard = none) (ty : TypeId) (x : Operand) (ho : o.op = .load ty x)
    (g : Nat) (hx : a.eval x = .pointer (some ⟨g, 0, none⟩)) (t : TypeId) (cs : Array Value) (fr : Nat × Nat) (d : TypeDesc) (hg : w.heap[g]? = some (.cells cs t fr))
    (hu : P.underlying ty = some d) (hd : (match d with | .struct _ | .array _ _ => true | _ => false) = true) (hi : (P.info? ty).map (·.size) = some cs.size)
    (h : wpStill P ops w Q rest (a.put o.dst (.agg cs))) : wpStill P ops w Q (o :: rest) a := by
  refine wpStill_step (fun K hK => ?_)
  have hw : Region.wanted o (yielded ops a.tmps) = true := by simp [Region.wanted, hgd]
  rw [if_pos hw]
  unfold Oper.still execOp
  simp only [ho, hx, Instr.loadAt, Instr.sureAddr, Sem.run_bind, Sem.run_pure, Result.andThen_ok, run_loadVar_row w g t ty cs fr d hg hu hd hi]
  rw [Oper.stillUpon_value]
  exact hK _ h

set_option maxHeartbeats 2000000 in
theorem around_any (v u : Value) (xs ys : List Int) (b most room : Int) (w : World) (hv : Reads w v xs) (hu : Reads w u ys) (hx : xs.length ≤ 1000000) (hy : ys.length ≤ 1000000) (hr : room ≤ 9223372036854775807) :
    Calls Tryz.prog 102 #[v, u, .int .i64 b, .int .i64 most, .int .i64 room] w fun e w' => e = .returned (.tuple #[(aroundR xs ys b most room).val, .int .i64 (aroundC xs ys b most room)]) ∧ Only none_ w w' := by
  have SX := Lib.hid (fun (w' : World) (o : Only none_ w w') => setOf_any v xs w' (hv.still o) hx)
  have SY := Lib.hid (fun (w' : World) (o : Only none_ w w') => setOf_any u ys w' (hu.still o) hy)
  have MM := Lib.hid (fun w => may_any most w)
  have HS := Lib.hid (fun (g : Nat) (w' : World) (h : SetAt w' g (hasB xs)) => has_set g xs b w' h)
  have CS := Lib.hid (fun (g : Nat) (w' : World) (h : SetAt w' g (hasB ys)) => costq_set g ys b w' h)
  have ZS := zero_set
  have AA := Lib.hid (fun (h : argB xs b most room) => around_arg (ys := ys) h)
  have AF := Lib.hid (fun (h : ¬ argB xs b most room) (k : room < costB (hasB ys) b) => around_full h k)
  have AO := Lib.hid (fun (h : ¬ argB xs b most room) (k : costB (hasB ys) b ≤ room) => around_ok h k)
  generalize aroundR xs ys b most room = R at *
  generalize aroundC xs ys b most room = C at *
  clear hv hu hx hy
  go_enter Tryz.func102, Tryz.ntmps102
  go_wp2_with fail
  have C0 := Lib.hid (Row.fresh w 43 #[.int .i64 0, .int .i64 0])
  have O0 := Lib.hid ((Only.refl none_ w).alloc (.cells #[.int .i64 0, .int .i64 0] 43))
  revert C0 O0
  generalize w.alloc (.cells #[.int .i64 0, .int .i64 0] 43) = W1
  generalize hg : w.heap.size = g
  intro C0 O0
  have GW := Lib.hid hg
  clear hg
  (with_reducible refine (SX.out _ O0.out).mono ?_)
  rintro e w2 ⟨rfl, o⟩
  have C2 := Lib.hid (o.still C0.out)
  have O2 := Lib.hid (O0.out.same o)
  clear o C0 O0
  go_wp2_with (refine wpList_store_row rfl 212 _ _ rfl _ (bits (hasB xs)) rfl rfl 212 (bits fun x => false) (Row.fresh _ _ _) (size_set _) (by rw [bits_size, bits_size]) (bits_one _) ?_)
  have C3 := Lib.hid ((C2.out.alloc (.cells (bits fun x => false) 212)))
  have C4 := Lib.hid (show Row ((w2.alloc (.cells (bits fun x => false) 212)).setRow w2.heap.size (bits (hasB xs))) g 43 #[.int .i64 0, .int .i64 0] from (setRow_other _ _ _ _ (Nat.ne_of_lt C2.out.lt)).trans C3.out)
  have S4 := Lib.hid (show SetAt ((w2.alloc (.cells (bits fun x => false) 212)).setRow w2.heap.size (bits (hasB xs))) w2.heap.size (hasB xs) from SetAt.store (p := fun _ => false) (Row.fresh _ _ _) _)
  have O4 := Lib.hid (show Only none_ w ((w2.alloc (.cells (bits fun x => false) 212)).setRow w2.heap.size (bits (hasB xs))) from (O2.out.alloc _).whole (fun q => by have := O2.out.size; omega) _)
  have L4 := Lib.hid (show g < w2.heap.size from C2.out.lt)
  clear C2 O2 C3
  revert C4 S4 O4 L4
  generalize (w2.alloc (.cells (bits fun x => false) 212)).setRow w2.heap.size (bits (hasB xs)) = W4
  generalize w2.heap.size = g1
  intro C4 S4 O4 L4
  (with_reducible refine (SY.out _ O4.out).mono ?_)
  rintro e w5 ⟨rfl, o⟩
  have C5 := Lib.hid (o.still C4.out)
  have S5 := Lib.hid (S4.out.still o)
  have O5 := Lib.hid (O4.out.same o)
  clear o C4 S4 O4
  go_wp2_with (refine wpList_store_row rfl 212 _ _ rfl _ (bits (hasB ys)) rfl rfl 212 (bits fun x => false) (Row.fresh _ _ _) (size_set _) (by rw [bits_size, bits_size]) (bits_one _) ?_)
  have C6 := Lib.hid (show Row ((w5.alloc (.cells (bits fun x => false) 212)).setRow w5.heap.size (bits (hasB ys))) g 43 #[.int .i64 0, .int .i64 0] from (setRow_other _ _ _ _ (Nat.ne_of_lt C5.out.lt)).trans (C5.out.alloc _))
  have S6 := Lib.hid (show SetAt ((w5.alloc (.cells (bits fun x => false) 212)).setRow w5.heap.size (bits (hasB ys))) g1 (hasB xs) from (setRow_other _ _ _ _ (Nat.ne_of_lt (Row.lt S5.out))).trans (Row.alloc S5.out _))
  have T6 := Lib.hid (show SetAt ((w5.alloc (.cells (bits fun x => false) 212)).setRow w5.heap.size (bits (hasB ys))) w5.heap.size (hasB ys) from SetAt.store (p := fun _ => false) (Row.fresh _ _ _) _)
  have O6 := Lib.hid (show Only none_ w ((w5.alloc (.cells (bits fun x => false) 212)).setRow w5.heap.size (bits (hasB ys))) from (O5.out.alloc _).whole (fun q => by have := O5.out.size; omega) _)
  clear C5 S5 O5
  revert C6 S6 T6 O6
  generalize (w5.alloc (.cells (bits fun x => false) 212)).setRow w5.heap.size (bits (hasB ys)) = W6
  generalize w5.heap.size = g2
  intro C6 S6 T6 O6
  clear SX SY ZS
  by_cases q1 : mayMost most
  · rw [decide_eq_true q1] at MM
    (with_reducible refine (MM.out _).mono ?_)
    rintro e w7 ⟨rfl, o⟩
    have C7 := Lib.hid (o.still C6.out)
    have S7 := Lib.hid (S6.out.still o)
    have T7 := Lib.hid (T6.out.still o)
    have O7 := Lib.hid (O6.out.same o)
    clear o C6 S6 T6 O6 MM
    by_cases q2 : room < 0
    · have t : decide (room < 0) = true := decide_eq_true q2
      obtain ⟨rfl, rfl⟩ := AA.out (.inr (.inl q2))
      have f0 := C7.out.frozen 0
      have f1 := C7.out.frozen 1
      obtain ⟨c0, c1⟩ := C7.out.two
      clear q1 q2 hr
      go_wp2_with fail
      exact bodyPost_ret (results_run2 rfl _ _ g ⟨0, 0⟩ rfl ((C7.out.put 0 _).put 1 _)) rfl ⟨rfl, (O7.out.new (by have := GW.out; omega) _ _).new (by have := GW.out; omega) _ _⟩
    · have t : decide (room < 0) = false := decide_eq_false q2
      go_wp2_with fail
      cases q3 : hasB xs b with
      | false =>
        rw [q3] at HS
        obtain ⟨rfl, rfl⟩ := AA.out (.inr (.inr q3))
        (with_reducible refine (HS.out _ _ S7.out).mono ?_)
        rintro e w8 ⟨rfl, o⟩
        have C8 := Lib.hid (o.still C7.out)
        have O8 := Lib.hid (O7.out.same o)
        clear o C7 S7 T7 O7 HS q1 q2 q3 hr
        have f0 := C8.out.frozen 0
        have f1 := C8.out.frozen 1
        obtain ⟨c0, c1⟩ := C8.out.two
        go_wp2_with fail
        exact bodyPost_ret (results_run2 rfl _ _ g ⟨0, 0⟩ rfl ((C8.out.put 0 _).put 1 _)) rfl ⟨rfl, (O8.out.new (by have := GW.out; omega) _ _).new (by have := GW.out; omega) _ _⟩
      | true =>
        rw [q3] at HS
        have NA := Lib.hid (show ¬ argB xs b most room from fun h => by
          rcases h with h | h | h
          · exact h q1
          · exact absurd h (by omega)
          · rw [q3] at h; cases h)
        (with_reducible refine (HS.out _ _ S7.out).mono ?_)
        rintro e w8 ⟨rfl, o⟩
        have C8 := Lib.hid (o.still C7.out)
        have S8 := Lib.hid (S7.out.still o)
        have T8 := Lib.hid (T7.out.still o)
        have O8 := Lib.hid (O7.out.same o)
        clear o C7 S7 T7 O7 HS
        go_wp2_with fail
        (with_reducible refine (CS.out _ _ T8.out).mono ?_)
        rintro e w9 ⟨rfl, rfl⟩
        by_cases q4 : costB (hasB ys) b ≤ room
        · have GB := Lib.hid (fun w => grown_any xs ys b most (room - costB (hasB ys) b) w q3 q1 (by have := costB_cases (hasB ys) b; omega))
          obtain ⟨rfl, hR⟩ := AO.out NA.out q4
          have HRR := Lib.hid hR
          have v2 : IntKind.i64.wrap (room - costB (hasB ys) b) = room - costB (hasB ys) b := by
            have := costB_cases (hasB ys) b
            rw [IntKind.wrap_i64]; omega
          have t2 : decide (room < costB (hasB ys) b) = false := decide_eq_false (by omega)
          unfold growTo at hR
          rw [← hR] at GB
          clear hR
          generalize costB (hasB ys) b = cv at *
          clear AA AF AO q1 q2 q3 q4 hr
          go_wp2_with fail
          refine wp_region_still_tail 8 (by kernel_rfl) (by kernel_rfl) ?_
          change wpStill _ _ (World.drew w9) (fun a' => wpList _ _ _ _ a' (World.drew w9)) _ _
          simp only [List.take_succ_cons, List.take_zero]
          simp only [List.drop_succ_cons, List.drop_zero]
          have C9 := Lib.hid (show Row w9.drew g 43 #[.int .i64 0, .int .i64 0] from C8.out)
          have S9 := Lib.hid (show SetAt w9.drew g1 (hasB xs) from S8.out)
          have T9 := Lib.hid (show SetAt w9.drew g2 (hasB ys) from T8.out)
          have O9 := Lib.hid (O8.out.drew)
          clear C8 S8 T8 O8
          generalize World.drew w9 = W2 at *
          have cs := CS.out _ _ T9.out
          refine still_load_row rfl 212 _ rfl g1 rfl 212 (bits (hasB xs)) (0, 0) _ S9.out Tryz.underlying212 rfl (size_set _) ?_
          refine still_load_row rfl 212 _ rfl g2 rfl 212 (bits (hasB ys)) (0, 0) _ T9.out Tryz.underlying212 rfl (size_set _) ?_
          still_step
          still_step
          still_step
          still_step
          still_call cs
          still_step
          refine wpStill_nil ?_
          unfold Rn.val at GB
          go_wp2_with fail
          (with_reducible refine (GB.out _).mono ?_)
          rintro e w10 ⟨rfl, o⟩
          have C10 := Lib.hid (o.still C9.out)
          have O10 := Lib.hid (O9.out.same o)
          clear o C9 S9 T9 O9 GB cs CS
          have f0 := C10.out.frozen 0
          have f1 := C10.out.frozen 1
          obtain ⟨c0, c1⟩ := C10.out.two
          go_wp2_with fail
          exact bodyPost_ret (results_run2 rfl _ _ g R rfl ((C10.out.put 0 _).put 1 _)) rfl ⟨rfl, (O10.out.new (by have := GW.out; omega) _ _).new (by have := GW.out; omega) _ _⟩
        · obtain ⟨rfl, rfl⟩ := AF.out NA.out (by omega)
          have t2 : decide (room < costB (hasB ys) b) = true := decide_eq_true (by omega)
          generalize costB (hasB ys) b = cv at *
          clear AA AF AO q1 q2 q3 q4 hr
          have f0 := C8.out.frozen 0
          have f1 := C8.out.frozen 1
          obtain ⟨c0, c1⟩ := C8.out.two
          go_wp2_with fail
          exact bodyPost_ret (results_run2 rfl _ _ g ⟨0, 0⟩ rfl ((C8.out.put 0 _).put 1 _)) rfl ⟨rfl, (O8.out.new (by have := GW.out; omega) _ _).new (by have := GW.out; omega) _ _⟩
  · rw [decide_eq_false q1] at MM
    obtain ⟨rfl, rfl⟩ := AA.out (.inl q1)
    (with_reducible refine (MM.out _).mono ?_)
    rintro e w7 ⟨rfl, o⟩
    have C7 := Lib.hid (o.still C6.out)
    have O7 := Lib.hid (O6.out.same o)
    clear o C6 S6 T6 O6 q1
    have f0 := C7.out.frozen 0
    have f1 := C7.out.frozen 1
    obtain ⟨c0, c1⟩ := C7.out.two
    go_wp2_with fail
    exact bodyPost_ret (results_run2 rfl _ _ g ⟨0, 0⟩ rfl ((C7.out.put 0 _).put 1 _)) rfl ⟨rfl, (O7.out.new (by have := GW.out; omega) _ _).new (by have := GW.out; omega) _ _⟩
end Go.Proofs.YtfbpjobobdidiaaGreatDoor


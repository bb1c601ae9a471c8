/- Plain facts of runs: the run around a block, the runs that have some blocks, what two runs have in common. -/
import Init
namespace Go.Proofs.Ytobeoknaanbakaa

structure Rn where
  f : Int
  c : Int
  deriving DecidableEq
instance : Inhabited Rn := ⟨⟨0, 0⟩⟩
def Rn.Ok (r : Rn) : Prop := 0 ≤ r.f ∧ 1 ≤ r.c ∧ r.c ≤ 256 ∧ r.f ≤ 256 - r.c
instance (r : Rn) : Decidable r.Ok := by unfold Rn.Ok; infer_instance
def Rn.Has (r : Rn) (x : Int) : Prop := r.Ok ∧ r.f ≤ x ∧ x - r.f < r.c
instance (r : Rn) (x : Int) : Decidable (r.Has x) := by unfold Rn.Has; infer_instance
theorem Rn.ext_ {a b : Rn} (h : a.f = b.f) (k : a.c = b.c) : a = b := by cases a; cases b; simp_all

def lowOf (a b : Rn) : Int := if a.f ≤ b.f then b.f else a.f
def endOf (a b : Rn) : Int := if a.f + a.c ≤ b.f + b.c then a.f + a.c else b.f + b.c
def meet (a b : Rn) : Rn := if a.Ok ∧ b.Ok ∧ lowOf a b < endOf a b then ⟨lowOf a b, endOf a b - lowOf a b⟩ else ⟨0, 0⟩
theorem low_cases (a b : Rn) : (a.f ≤ b.f ∧ lowOf a b = b.f) ∨ (b.f ≤ a.f ∧ lowOf a b = a.f) := by
  unfold lowOf
  by_cases h : a.f ≤ b.f
  · exact .inl ⟨h, if_pos h⟩
  · exact .inr ⟨by omega, if_neg h⟩
theorem end_cases (a b : Rn) : (a.f + a.c ≤ b.f + b.c ∧ endOf a b = a.f + a.c) ∨ (b.f + b.c ≤ a.f + a.c ∧ endOf a b = b.f + b.c) := by
  unfold endOf
  by_cases h : a.f + a.c ≤ b.f + b.c
  · exact .inl ⟨h, if_pos h⟩
  · exact .inr ⟨by omega, if_neg h⟩
theorem meet_yes {a b : Rn} (h : a.Ok) (k : b.Ok) (l : lowOf a b < endOf a b) : meet a b = ⟨lowOf a b, endOf a b - lowOf a b⟩ := if_pos ⟨h, k, l⟩
theorem meet_no {a b : Rn} (h : ¬ (a.Ok ∧ b.Ok ∧ lowOf a b < endOf a b)) : meet a b = ⟨0, 0⟩ := if_neg h
theorem not_ok0 : ¬ (Rn.mk 0 0).Ok := by unfold Rn.Ok; decide
/-- which blocks it has -/
theorem meet_cases (a b : Rn) : (a.Ok ∧ b.Ok ∧ (meet a b).Ok ∧ (∀ x, (meet a b).Has x ↔ a.Has x ∧ b.Has x) ∧ (∃ x, a.Has x ∧ b.Has x)) ∨ (meet a b = ⟨0, 0⟩ ∧ ∀ x, ¬ (a.Has x ∧ b.Has x)) := by
  by_cases h : a.Ok ∧ b.Ok ∧ lowOf a b < endOf a b
  · obtain ⟨h1, h2, h3⟩ := h
    refine .inl ⟨h1, h2, ?_⟩
    rw [meet_yes h1 h2 h3]
    have q1 := low_cases a b
    have q2 := end_cases a b
    generalize lowOf a b = l at *
    generalize endOf a b = e at *
    unfold Rn.Has Rn.Ok at *
    refine ⟨by dsimp only; omega, fun x => ?_, l, ?_⟩
    · dsimp only
      omega
    · omega
  · refine .inr ⟨meet_no h, fun x => ?_⟩
    have q1 := low_cases a b
    have q2 := end_cases a b
    generalize lowOf a b = l at *
    generalize endOf a b = e at *
    unfold Rn.Has Rn.Ok at *
    omega
/-- runs with the same blocks are one -/
theorem same_of_has {a b : Rn} (ha : a.Ok) (hb : b.Ok) (h : ∀ x, a.Has x ↔ b.Has x) : a = b := by
  have h1 := h a.f
  have h2 := h b.f
  have h3 := h (a.f + a.c - 1)
  have h4 := h (b.f + b.c - 1)
  unfold Rn.Has Rn.Ok at *
  apply Rn.ext_ <;> omega
/-- as good as: a run with blocks, or 0 and 0 -/
def Fair (r : Rn) : Prop := r.Ok ∨ r = ⟨0, 0⟩
theorem meet_fair (a b : Rn) : Fair (meet a b) := by
  rcases meet_cases a b with ⟨_, _, h, _⟩ | ⟨h, _⟩
  · exact .inl h
  · exact .inr h
theorem meet_has (a b : Rn) (x : Int) : (meet a b).Has x ↔ a.Has x ∧ b.Has x := by
  rcases meet_cases a b with ⟨_, _, _, h, _⟩ | ⟨h, k⟩
  · exact h x
  · rw [h]
    exact ⟨fun q => absurd q.1 not_ok0, fun q => absurd q (k x)⟩
theorem fair_same {a b : Rn} (ha : Fair a) (hb : Fair b) (h : ∀ x, a.Has x ↔ b.Has x) : a = b := by
  have first : ∀ r : Rn, r.Ok → r.Has r.f := fun r q => by unfold Rn.Has Rn.Ok at *; omega
  rcases ha with ha | ha <;> rcases hb with hb | hb
  · exact same_of_has ha hb h
  · exact absurd ((h a.f).1 (first a ha)).1 (by rw [hb]; exact not_ok0)
  · exact absurd ((h b.f).2 (first b hb)).1 (by rw [ha]; exact not_ok0)
  · rw [ha, hb]
theorem meet_comm (a b : Rn) : meet b a = meet a b := fair_same (meet_fair _ _) (meet_fair _ _) (fun x => by rw [meet_has, meet_has]; exact And.comm)
theorem meet_assoc (a b c : Rn) : meet (meet a b) c = meet a (meet b c) := fair_same (meet_fair _ _) (meet_fair _ _) (fun x => by rw [meet_has, meet_has, meet_has, meet_has]; exact and_assoc)
theorem meet_left (a b : Rn) : meet a (meet a b) = meet a b := fair_same (meet_fair _ _) (meet_fair _ _) (fun x => by rw [meet_has, meet_has]; exact ⟨fun h => h.2, fun h => ⟨h.1, h⟩⟩)
theorem meet_bad {a b : Rn} (h : ¬ a.Ok) : meet a b = ⟨0, 0⟩ := meet_no (fun q => h q.1)
theorem meet_self {a : Rn} (h : a.Ok) : meet a a = a := fair_same (meet_fair _ _) (.inl h) (fun x => by rw [meet_has]; exact ⟨fun h => h.1, fun h => ⟨h, h⟩⟩)
/-- it is one of both just if that lies in the other -/
theorem meet_inside {a b : Rn} (h : a.Ok) : decide (meet a b = a) = decide (b.Ok ∧ b.f ≤ a.f ∧ a.f + a.c ≤ b.f + b.c) := by
  rw [Bool.eq_iff_iff]
  simp only [decide_eq_true_eq]
  constructor
  · intro q
    have h1 := (meet_has a b a.f).1 (by rw [q]; unfold Rn.Has Rn.Ok at *; omega)
    have h2 := (meet_has a b (a.f + a.c - 1)).1 (by rw [q]; unfold Rn.Has Rn.Ok at *; omega)
    unfold Rn.Has Rn.Ok at *
    omega
  · intro q
    refine fair_same (meet_fair _ _) (.inl h) (fun x => ?_)
    rw [meet_has]
    unfold Rn.Has Rn.Ok at *
    omega

def blocksOf (r : Rn) : List Int := if r.Ok then (List.range r.c.toNat).map (fun i : Nat => r.f + (i : Int)) else []
theorem blocks_len {r : Rn} (h : r.Ok) : (blocksOf r).length = r.c.toNat := by
  unfold blocksOf
  rw [if_pos h]
  simp

/-- what two runs have in common of the blocks below one -/
def part (a b : Rn) (i : Int) : Rn := if a.Ok ∧ b.Ok ∧ lowOf a b < endOf a b ∧ lowOf a b < i then ⟨lowOf a b, (if i ≤ endOf a b then i else endOf a b) - lowOf a b⟩ else ⟨0, 0⟩
theorem part_zero (a b : Rn) : part a b 0 = ⟨0, 0⟩ := by
  unfold part
  rw [if_neg]
  have := low_cases a b
  unfold Rn.Ok
  omega
theorem part_all (a b : Rn) : part a b 256 = meet a b := by
  by_cases h : a.Ok ∧ b.Ok ∧ lowOf a b < endOf a b
  · rw [meet_yes h.1 h.2.1 h.2.2]
    have h1 := low_cases a b
    have h2 := end_cases a b
    obtain ⟨k1, k2, k3⟩ := h
    unfold part
    have k4 : lowOf a b < 256 ∧ endOf a b ≤ 256 := by unfold Rn.Ok at k1 k2; omega
    rw [if_pos ⟨k1, k2, k3, k4.1⟩]
    by_cases e : (256 : Int) ≤ endOf a b
    · rw [if_pos e, show endOf a b = 256 by omega]
    · rw [if_neg e]
  · rw [meet_no h]
    unfold part
    rw [if_neg (fun q => h ⟨q.1, q.2.1, q.2.2.1⟩)]
theorem part_yes {a b : Rn} {i : Int} (k1 : a.Ok) (k2 : b.Ok) (k3 : lowOf a b < endOf a b) (j : lowOf a b < i) : part a b i = ⟨lowOf a b, (if i ≤ endOf a b then i else endOf a b) - lowOf a b⟩ := if_pos ⟨k1, k2, k3, j⟩
theorem part_not {a b : Rn} {i : Int} (h : ¬ (a.Ok ∧ b.Ok ∧ lowOf a b < endOf a b ∧ lowOf a b < i)) : part a b i = ⟨0, 0⟩ := if_neg h
theorem part_old {a b : Rn} {i : Int} (h : ¬ (a.Has i ∧ b.Has i)) : part a b (i + 1) = part a b i := by
  have h1 := low_cases a b
  have h2 := end_cases a b
  by_cases k : a.Ok ∧ b.Ok ∧ lowOf a b < endOf a b
  · obtain ⟨k1, k2, k3⟩ := k
    have h' : i < lowOf a b ∨ endOf a b ≤ i := by
      rcases Int.lt_or_le i (lowOf a b) with q | q
      · exact .inl q
      rcases Int.lt_or_le i (endOf a b) with q' | q'
      · exact absurd ⟨⟨k1, by omega, by omega⟩, k2, by omega, by omega⟩ h
      · exact .inr q'
    by_cases j : lowOf a b < i
    · have j1 : ¬ i + 1 ≤ endOf a b := by omega
      rw [part_yes k1 k2 k3 (show lowOf a b < i + 1 by omega), part_yes k1 k2 k3 j, if_neg j1]
      by_cases e : i ≤ endOf a b
      · rw [if_pos e, show endOf a b = i by omega]
      · rw [if_neg e]
    · rw [part_not (i := i + 1) (fun q => by omega), part_not (fun q => j q.2.2.2)]
  · rw [part_not (fun q => k ⟨q.1, q.2.1, q.2.2.1⟩), part_not (fun q => k ⟨q.1, q.2.1, q.2.2.1⟩)]
theorem part_new {a b : Rn} {i : Int} (h : a.Has i) (h' : b.Has i) : (part a b i = ⟨0, 0⟩ ∧ part a b (i + 1) = ⟨i, 1⟩) ∨ ∃ f c, part a b i = ⟨f, c⟩ ∧ c ≠ 0 ∧ 0 ≤ c ∧ c ≤ 256 ∧ part a b (i + 1) = ⟨f, c + 1⟩ := by
  have h1 := low_cases a b
  have h2 := end_cases a b
  obtain ⟨k1, a1, a2⟩ := h
  obtain ⟨k2, b1, b2⟩ := h'
  have k3 : lowOf a b < endOf a b := by omega
  by_cases j : lowOf a b < i
  · refine .inr ⟨lowOf a b, i - lowOf a b, ?_, by omega, by omega, by unfold Rn.Ok at k1 k2; omega, ?_⟩
    · rw [part_yes k1 k2 k3 j, if_pos (by omega)]
    · rw [part_yes k1 k2 k3 (show lowOf a b < i + 1 by omega), if_pos (by omega), show i + 1 - lowOf a b = i - lowOf a b + 1 by omega]
  · refine .inl ⟨part_not (fun q => j q.2.2.2), ?_⟩
    have e : lowOf a b = i := by omega
    rw [part_yes k1 k2 k3 (show lowOf a b < i + 1 by omega), if_pos (by omega), e, show i + 1 - i = 1 by omega]
/-- a run's blocks below one -/
def below (r : Rn) (i : Int) : List Int := if r.Ok then (List.range (if (i - r.f).toNat ≤ r.c.toNat then (i - r.f).toNat else r.c.toNat)).map (fun j : Nat => r.f + j) else []
theorem below_zero (r : Rn) : below r 0 = [] := by
  unfold below
  by_cases h : r.Ok
  · rw [if_pos h, if_pos (by unfold Rn.Ok at h; omega), show (0 - r.f).toNat = 0 by unfold Rn.Ok at h; omega]
    rfl
  · rw [if_neg h]
theorem below_all (r : Rn) : below r 256 = blocksOf r := by
  unfold below blocksOf
  by_cases h : r.Ok
  · rw [if_pos h, if_pos h]
    by_cases k : (256 - r.f).toNat ≤ r.c.toNat
    · rw [if_pos k, show (256 - r.f).toNat = r.c.toNat by unfold Rn.Ok at h; omega]
    · rw [if_neg k]
  · rw [if_neg h, if_neg h]
theorem below_yes {r : Rn} {i : Int} (h : r.Has i) : below r (i + 1) = below r i ++ [i] := by
  obtain ⟨k, h1, h2⟩ := h
  unfold below
  rw [if_pos k, if_pos k, if_pos (show (i + 1 - r.f).toNat ≤ r.c.toNat by omega), if_pos (show (i - r.f).toNat ≤ r.c.toNat by omega), show (i + 1 - r.f).toNat = (i - r.f).toNat + 1 by omega, List.range_succ, List.map_append]
  congr 1
  simp
  omega
theorem below_no {r : Rn} {i : Int} (h : ¬ r.Has i) : below r (i + 1) = below r i := by
  unfold below
  by_cases k : r.Ok
  · rw [if_pos k, if_pos k]
    have h' : i < r.f ∨ r.c ≤ i - r.f := by
      rcases Int.lt_or_le i r.f with q | q
      · exact .inl q
      rcases Int.lt_or_le (i - r.f) r.c with q' | q'
      · exact absurd ⟨k, q, q'⟩ h
      · exact .inr q'
    unfold Rn.Ok at k
    rcases h' with q | q
    · rw [if_pos (show (i + 1 - r.f).toNat ≤ r.c.toNat by omega), if_pos (show (i - r.f).toNat ≤ r.c.toNat by omega), show (i + 1 - r.f).toNat = (i - r.f).toNat by omega]
    · rw [if_neg (show ¬ (i + 1 - r.f).toNat ≤ r.c.toNat by omega)]
      by_cases e : (i - r.f).toNat ≤ r.c.toNat
      · rw [if_pos e, show (i - r.f).toNat = r.c.toNat by omega]
      · rw [if_neg e]
  · rw [if_neg k, if_neg k]
theorem below_le (r : Rn) (i : Int) : (below r i).length ≤ 256 := by
  unfold below
  by_cases k : r.Ok
  · rw [if_pos k, List.length_map, List.length_range]
    unfold Rn.Ok at k
    by_cases e : (i - r.f).toNat ≤ r.c.toNat
    · rw [if_pos e]; omega
    · rw [if_neg e]; omega
  · rw [if_neg k]; exact Nat.zero_le _

/-- is it a block that the list names? -/
def hasB (xs : List Int) (x : Int) : Bool := decide (0 ≤ x ∧ x < 256 ∧ x ∈ xs)
theorem hasB_yes {xs : List Int} {x : Int} (h : hasB xs x = true) : 0 ≤ x ∧ x < 256 ∧ x ∈ xs := of_decide_eq_true h
theorem hasB_in {xs : List Int} {x : Int} (h0 : 0 ≤ x) (h1 : x < 256) : hasB xs x = decide (x ∈ xs) := by
  unfold hasB
  rw [Bool.eq_iff_iff]
  simp only [decide_eq_true_eq]
  exact ⟨fun h => h.2.2, fun h => ⟨h0, h1, h⟩⟩
def costB (N : Int → Bool) (x : Int) : Int := if N x then 1 else 0
theorem costB_cases (N : Int → Bool) (x : Int) : (N x = true ∧ costB N x = 1) ∨ (N x = false ∧ costB N x = 0) := by
  unfold costB
  cases N x
  · exact .inr ⟨rfl, rfl⟩
  · exact .inl ⟨rfl, rfl⟩
def okB (R N : Int → Bool) (x room : Int) : Bool := R x && decide (costB N x ≤ room)
theorem okB_less {R N : Int → Bool} {x room room' : Int} (h : okB R N x room = false) (k : room' ≤ room) : okB R N x room' = false := by
  unfold okB at *
  rw [Bool.and_eq_false_iff] at *
  rcases h with h | h
  · exact .inl h
  · refine .inr ?_
    have := of_decide_eq_false h
    exact decide_eq_false (by omega)

/-- as far as it goes, above first -/
def grow (R N : Int → Bool) : Nat → Int → Int → Int → Int × Int
  | 0, lo, hi, _ => (lo, hi)
  | k + 1, lo, hi, room =>
    if okB R N (hi + 1) room then grow R N k lo (hi + 1) (room - costB N (hi + 1))
    else if okB R N (lo - 1) room then grow R N k (lo - 1) hi (room - costB N (lo - 1))
    else (lo, hi)
theorem grow_up {R N : Int → Bool} {k : Nat} {lo hi room : Int} (h : okB R N (hi + 1) room = true) : grow R N (k + 1) lo hi room = grow R N k lo (hi + 1) (room - costB N (hi + 1)) := by
  show (if _ then _ else _) = _
  rw [if_pos h]
theorem grow_down {R N : Int → Bool} {k : Nat} {lo hi room : Int} (h : okB R N (hi + 1) room = false) (g : okB R N (lo - 1) room = true) : grow R N (k + 1) lo hi room = grow R N k (lo - 1) hi (room - costB N (lo - 1)) := by
  show (if _ then _ else _) = _
  rw [if_neg (by rw [h]; decide), if_pos g]
theorem grow_end {R N : Int → Bool} {k : Nat} {lo hi room : Int} (h : okB R N (hi + 1) room = false) (g : okB R N (lo - 1) room = false) : grow R N k lo hi room = (lo, hi) := by
  cases k with
  | zero => rfl
  | succ k =>
    show (if _ then _ else _) = _
    rw [if_neg (by rw [h]; decide), if_neg (by rw [g]; decide)]

/-- how many of so many blocks cost a room -/
def cnt (N : Int → Bool) (lo : Int) : Nat → Int
  | 0 => 0
  | k + 1 => cnt N lo k + costB N (lo + k)
theorem cnt_front (N : Int → Bool) (lo : Int) : ∀ k, cnt N (lo - 1) (k + 1) = costB N (lo - 1) + cnt N lo k := by
  intro k
  induction k with
  | zero => simp [cnt]
  | succ k ih =>
    rw [show cnt N (lo - 1) (k + 1 + 1) = cnt N (lo - 1) (k + 1) + costB N (lo - 1 + ((k + 1 : Nat) : Int)) from rfl, ih, show cnt N lo (k + 1) = cnt N lo k + costB N (lo + k) from rfl, show lo - 1 + ((k + 1 : Nat) : Int) = lo + (k : Int) by omega]
    omega
theorem cnt_bd (N : Int → Bool) (lo : Int) : ∀ k, 0 ≤ cnt N lo k ∧ cnt N lo k ≤ k := by
  intro k
  induction k with
  | zero => simp [cnt]
  | succ k ih =>
    rw [show cnt N lo (k + 1) = cnt N lo k + costB N (lo + k) from rfl]
    have := costB_cases N (lo + k)
    omega
/-- what it keeps -/
theorem grow_spec (R N : Int → Bool) (T : Int) : ∀ (k : Nat) (lo hi room : Int), lo ≤ hi → 0 ≤ room → (∀ x, lo ≤ x → x ≤ hi → R x = true) → cnt N lo (hi - lo + 1).toNat + room = T →
    (grow R N k lo hi room).1 ≤ lo ∧ hi ≤ (grow R N k lo hi room).2 ∧ (grow R N k lo hi room).2 - (grow R N k lo hi room).1 ≤ hi - lo + k ∧
    (∀ x, (grow R N k lo hi room).1 ≤ x → x ≤ (grow R N k lo hi room).2 → R x = true) ∧ cnt N (grow R N k lo hi room).1 ((grow R N k lo hi room).2 - (grow R N k lo hi room).1 + 1).toNat ≤ T := by
  intro k
  induction k with
  | zero => intro lo hi room h0 h1 h2 h3; exact ⟨Int.le_refl _, Int.le_refl _, by simp [grow], h2, by show cnt N lo (hi - lo + 1).toNat ≤ T; omega⟩
  | succ k ih =>
    intro lo hi room h0 h1 h2 h3
    cases hu : okB R N (hi + 1) room with
    | true =>
      rw [grow_up hu]
      unfold okB at hu
      rw [Bool.and_eq_true] at hu
      have := of_decide_eq_true hu.2
      have h := ih lo (hi + 1) (room - costB N (hi + 1)) (by omega) (by omega) (fun x q1 q2 => by
        by_cases q : x = hi + 1
        · rw [q]; exact hu.1
        · exact h2 x q1 (by omega)) (by
        rw [show (hi + 1 - lo + 1).toNat = (hi - lo + 1).toNat + 1 by omega, show cnt N lo ((hi - lo + 1).toNat + 1) = cnt N lo (hi - lo + 1).toNat + costB N (lo + ((hi - lo + 1).toNat : Int)) from rfl, show lo + ((hi - lo + 1).toNat : Int) = hi + 1 by omega]
        omega)
      exact ⟨h.1, by omega, by omega, h.2.2.2.1, h.2.2.2.2⟩
    | false =>
      cases hd : okB R N (lo - 1) room with
      | true =>
        rw [grow_down hu hd]
        unfold okB at hd
        rw [Bool.and_eq_true] at hd
        have := of_decide_eq_true hd.2
        have h := ih (lo - 1) hi (room - costB N (lo - 1)) (by omega) (by omega) (fun x q1 q2 => by
          by_cases q : x = lo - 1
          · rw [q]; exact hd.1
          · exact h2 x (by omega) q2) (by
          rw [show (hi - (lo - 1) + 1).toNat = (hi - lo + 1).toNat + 1 by omega, cnt_front]
          omega)
        exact ⟨by omega, h.2.1, by omega, h.2.2.2.1, h.2.2.2.2⟩
      | false =>
        rw [grow_end hu hd]
        exact ⟨Int.le_refl _, Int.le_refl _, by dsimp only; omega, h2, by show cnt N lo (hi - lo + 1).toNat ≤ T; omega⟩

def mayMost (most : Int) : Prop := 1 ≤ most ∧ most ≤ 8
instance (most : Int) : Decidable (mayMost most) := by unfold mayMost; infer_instance
def argB (xs : List Int) (b most room : Int) : Prop := ¬ mayMost most ∨ room < 0 ∨ hasB xs b = false
instance (xs : List Int) (b most room : Int) : Decidable (argB xs b most room) := by unfold argB; infer_instance
def growTo (xs ys : List Int) (b most room : Int) : Int × Int := grow (hasB xs) (hasB ys) (most - 1).toNat b b (room - costB (hasB ys) b)
/-- its code -/
def aroundC (xs ys : List Int) (b most room : Int) : Int := if argB xs b most room then 1 else if room < costB (hasB ys) b then 2 else 0
/-- its run -/
def aroundR (xs ys : List Int) (b most room : Int) : Rn :=
  if aroundC xs ys b most room = 0 then ⟨(growTo xs ys b most room).1, (growTo xs ys b most room).2 - (growTo xs ys b most room).1 + 1⟩ else ⟨0, 0⟩
theorem around_arg {xs ys : List Int} {b most room : Int} (h : argB xs b most room) : aroundC xs ys b most room = 1 ∧ aroundR xs ys b most room = ⟨0, 0⟩ := by
  have : aroundC xs ys b most room = 1 := if_pos h
  exact ⟨this, if_neg (by rw [this]; decide)⟩
theorem around_full {xs ys : List Int} {b most room : Int} (h : ¬ argB xs b most room) (k : room < costB (hasB ys) b) : aroundC xs ys b most room = 2 ∧ aroundR xs ys b most room = ⟨0, 0⟩ := by
  have : aroundC xs ys b most room = 2 := by unfold aroundC; rw [if_neg h, if_pos k]
  exact ⟨this, if_neg (by rw [this]; decide)⟩
theorem around_ok {xs ys : List Int} {b most room : Int} (h : ¬ argB xs b most room) (k : costB (hasB ys) b ≤ room) :
    aroundC xs ys b most room = 0 ∧ aroundR xs ys b most room = ⟨(growTo xs ys b most room).1, (growTo xs ys b most room).2 - (growTo xs ys b most room).1 + 1⟩ := by
  have : aroundC xs ys b most room = 0 := by unfold aroundC; rw [if_neg h, if_neg (by omega)]
  exact ⟨this, if_pos this⟩
theorem arg_not {xs : List Int} {b most room : Int} (h : ¬ argB xs b most room) : 1 ≤ most ∧ most ≤ 8 ∧ 0 ≤ room ∧ hasB xs b = true ∧ 0 ≤ b ∧ b < 256 := by
  unfold argB mayMost at h
  have h3 : hasB xs b = true := by
    cases q : hasB xs b
    · exact absurd (.inr (.inr q)) h
    · rfl
  have h4 := hasB_yes h3
  have h1 : 1 ≤ most ∧ most ≤ 8 := by
    rcases Decidable.em (1 ≤ most ∧ most ≤ 8) with q | q
    · exact q
    · exact absurd (.inl q) h
  have h2 : 0 ≤ room := by
    rcases Int.lt_or_le room 0 with q | q
    · exact absurd (.inr (.inl q)) h
    · exact q
  exact ⟨h1.1, h1.2, h2, h3, h4.1, h4.2.1⟩
/-- what follows of a run around a block -/
theorem around_spec {xs ys : List Int} {b most room : Int} (h : aroundC xs ys b most room = 0) :
    (aroundR xs ys b most room).Ok ∧ (aroundR xs ys b most room).Has b ∧ (aroundR xs ys b most room).c ≤ most ∧ (aroundR xs ys b most room).c ≤ 8 ∧
    (∀ x, (aroundR xs ys b most room).f ≤ x → x < (aroundR xs ys b most room).f + (aroundR xs ys b most room).c → x ∈ xs) ∧
    cnt (hasB ys) (aroundR xs ys b most room).f (aroundR xs ys b most room).c.toNat ≤ room := by
  have h1 : ¬ argB xs b most room := fun q => by rw [(around_arg q).1] at h; cases h
  have h2 : costB (hasB ys) b ≤ room := by
    rcases Int.lt_or_le room (costB (hasB ys) b) with q | q
    · rw [(around_full h1 q).1] at h; cases h
    · exact q
  rw [(around_ok h1 h2).2]
  have ⟨m1, m2, m3, m4, m5, m6⟩ := arg_not h1
  have g := grow_spec (hasB xs) (hasB ys) room (most - 1).toNat b b (room - costB (hasB ys) b) (Int.le_refl _) (by omega) (fun x q1 q2 => by rw [show x = b by omega]; exact m4) (by
    rw [show (b - b + 1).toNat = 1 by omega]
    show 0 + costB (hasB ys) (b + (0 : Nat)) + _ = _
    rw [show b + ((0 : Nat) : Int) = b by omega]
    omega)
  unfold growTo
  generalize grow (hasB xs) (hasB ys) (most - 1).toNat b b (room - costB (hasB ys) b) = r at *
  obtain ⟨l, u⟩ := r
  obtain ⟨g1, g2, g3, g4, g5⟩ := g
  dsimp only at *
  have e1 := hasB_yes (g4 l (Int.le_refl _) (by omega))
  have e2 := hasB_yes (g4 u (by omega) (Int.le_refl _))
  have ok : (Rn.mk l (u - l + 1)).Ok := by unfold Rn.Ok; dsimp only; omega
  exact ⟨ok, ⟨ok, by dsimp only; omega, by dsimp only; omega⟩, by omega, by omega, fun x q1 q2 => (hasB_yes (g4 x q1 (by omega))).2.2, g5⟩
/-- which code it is -/
theorem around_codes {xs ys : List Int} {b most room : Int} (h : aroundC xs ys b most room ≠ 0) :
    aroundR xs ys b most room = ⟨0, 0⟩ ∧ (aroundC xs ys b most room = 1 ∨ aroundC xs ys b most room = 2 ∧ room = 0 ∧ b ∈ ys) := by
  by_cases h1 : argB xs b most room
  · exact ⟨(around_arg h1).2, .inl (around_arg h1).1⟩
  · rcases Int.lt_or_le room (costB (hasB ys) b) with q | q
    · refine ⟨(around_full h1 q).2, .inr ⟨(around_full h1 q).1, ?_⟩⟩
      have ⟨_, _, m3, _⟩ := arg_not h1
      rcases costB_cases (hasB ys) b with ⟨k1, k2⟩ | ⟨k1, k2⟩
      · exact ⟨by omega, (hasB_yes k1).2.2⟩
      · omega
    · exact absurd (around_ok h1 q).1 h

/-- one block more -/
def stepC (P : Int → Bool) (most : Int) (rs : List Rn) (b : Int) : List Rn :=
  if P b then
    match rs.getLast? with
    | some r => if r.f + r.c = b ∧ r.c < most then rs.dropLast ++ [⟨r.f, r.c + 1⟩] else rs ++ [⟨b, 1⟩]
    | none => rs ++ [⟨b, 1⟩]
  else rs
def cov (P : Int → Bool) (most : Int) : Nat → List Rn
  | 0 => []
  | n + 1 => stepC P most (cov P most n) n
theorem step_no {P : Int → Bool} {most : Int} {rs : List Rn} {b : Int} (h : P b = false) : stepC P most rs b = rs := if_neg (by rw [h]; decide)
theorem step_more {P : Int → Bool} {most : Int} {l : List Rn} {r : Rn} {b : Int} (h : P b = true) (e : r.f + r.c = b) (k : r.c < most) : stepC P most (l ++ [r]) b = l ++ [⟨r.f, r.c + 1⟩] := by
  unfold stepC
  rw [if_pos h, List.getLast?_append, List.getLast?_singleton, Option.some_or]
  dsimp only
  rw [if_pos ⟨e, k⟩, List.dropLast_concat]
theorem step_new {P : Int → Bool} {most : Int} {rs : List Rn} {b : Int} (h : P b = true) (e : ∀ r, rs.getLast? = some r → ¬ (r.f + r.c = b ∧ r.c < most)) : stepC P most rs b = rs ++ [⟨b, 1⟩] := by
  unfold stepC
  rw [if_pos h]
  cases q : rs.getLast? with
  | none => rfl
  | some r => dsimp only; rw [if_neg (e r q)]
theorem last_split {l : List Rn} {r : Rn} (h : l.getLast? = some r) : ∃ k, l = k ++ [r] := by
  refine ⟨l.dropLast, ?_⟩
  have hne : l ≠ [] := fun q => by rw [q] at h; cases h
  rw [List.getLast?_eq_some_getLast hne] at h
  injection h with h
  rw [← h]
  exact (List.dropLast_concat_getLast hne).symm
theorem cov_bd (P : Int → Bool) (most : Int) : ∀ n : Nat, (∀ r ∈ cov P most n, 0 ≤ r.f ∧ 1 ≤ r.c ∧ r.f + r.c ≤ (n : Int)) ∧ (cov P most n).length ≤ n := by
  intro n
  induction n with
  | zero => exact ⟨fun r h => (by cases h), Nat.le_refl _⟩
  | succ n ih =>
    have less : ∀ r ∈ cov P most n, 0 ≤ r.f ∧ 1 ≤ r.c ∧ r.f + r.c ≤ ((n + 1 : Nat) : Int) := fun r h => by have := ih.1 r h; omega
    show (∀ r ∈ stepC P most (cov P most n) n, _) ∧ (stepC P most (cov P most n) n).length ≤ n + 1
    cases h : P n with
    | false => rw [step_no h]; exact ⟨less, by omega⟩
    | true =>
      by_cases e : ∃ r, (cov P most n).getLast? = some r ∧ r.f + r.c = n ∧ r.c < most
      · obtain ⟨r, e1, e2, e3⟩ := e
        obtain ⟨k, hk⟩ := last_split e1
        have hr := ih.1 r (by rw [hk]; simp)
        have hl := ih.2
        rw [hk] at less hl ⊢
        rw [step_more h e2 e3]
        constructor
        · intro q hq
          rw [List.mem_append, List.mem_singleton] at hq
          rcases hq with hq | rfl
          · exact less q (by simp [hq])
          · dsimp only; omega
        · rw [List.length_append] at hl ⊢
          simp at hl ⊢
          omega
      · rw [step_new h (fun r q1 q2 => e ⟨r, q1, q2⟩)]
        constructor
        · intro q hq
          rw [List.mem_append, List.mem_singleton] at hq
          rcases hq with hq | rfl
          · exact less q hq
          · dsimp only; omega
        · rw [List.length_append]
          have := ih.2
          simp
          omega
/-- no run that is there goes on at n -/
def Fit (P : Int → Bool) (most : Int) (n : Nat) : Prop := n < 256 → P n = true → ∀ r, (cov P most n).getLast? = some r → ¬ (r.f + r.c = n ∧ r.c < most)
theorem fit_zero (P : Int → Bool) (most : Int) : Fit P most 0 := fun _ _ r h => by cases h
theorem cov_run {P : Int → Bool} {most : Int} {n : Nat} (hf : Fit P most n) : ∀ j : Nat, 1 ≤ j → (j : Int) ≤ most → n + j ≤ 256 → (∀ i : Nat, i < j → P ((n + i : Nat) : Int) = true) → cov P most (n + j) = cov P most n ++ [⟨n, j⟩] := by
  intro j
  induction j with
  | zero => intro h; omega
  | succ j ih =>
    intro _ h1 h2 h3
    show stepC P most (cov P most (n + j)) ((n + j : Nat) : Int) = _
    have hp := h3 j (by omega)
    cases j with
    | zero =>
      rw [step_new hp]
      · rfl
      · exact hf (by omega) hp
    | succ j =>
      rw [ih (by omega) (by omega) (by omega) (fun i q => h3 i (by omega))]
      rw [step_more hp (by dsimp only; omega) (by dsimp only; omega)]
      congr 2
theorem fit_run {P : Int → Bool} {most : Int} {n j : Nat} (h : cov P most (n + j) = cov P most n ++ [⟨n, j⟩]) (k : (j : Int) = most ∨ n + j = 256 ∨ P ((n + j : Nat) : Int) = false) : Fit P most (n + j) := by
  intro h1 h2 r h3
  rw [h, List.getLast?_append, List.getLast?_singleton, Option.some_or] at h3
  injection h3 with h3
  subst h3
  dsimp only
  rcases k with k | k | k
  · omega
  · omega
  · rw [k] at h2; cases h2
theorem cov_skip {P : Int → Bool} {most : Int} {n : Nat} (h : P n = false) : cov P most (n + 1) = cov P most n ∧ Fit P most (n + 1) := by
  have e : cov P most (n + 1) = cov P most n := step_no h
  refine ⟨e, fun _ _ r h3 => ?_⟩
  rw [e] at h3
  obtain ⟨k, hk⟩ := last_split h3
  have := (cov_bd P most n).1 r (by rw [hk]; simp)
  omega
def allB (xs : List Int) : Prop := ∀ x ∈ xs, 0 ≤ x ∧ x < 256
instance (xs : List Int) : Decidable (allB xs) := by unfold allB; infer_instance
def coverC (xs : List Int) (most : Int) : Int := if mayMost most ∧ allB xs then 0 else 1
def coverL (xs : List Int) (most : Int) : List Rn := if mayMost most ∧ allB xs then cov (hasB xs) most 256 else []
end Go.Proofs.Ytobeoknaanbakaa

/- What was put last, told by the steps. -/
import Derived.Test.YtajphhalneaihaaActs5
namespace Go.Proofs.Ytajphhalneaihaa
set_option linter.unusedVariables false

/-- each key that lies there was put, with its number, by a step behind which none names it -/
def Hist (ps : List Pl) (xs : List Act1) (i : Nat) : Prop :=
  ∀ (key n : Int), (⟨true, key, n⟩ : Pl) ∈ ps → ∃ (j : Nat) (a : Act1), j < i ∧ xs[j]? = some a ∧ a.kind = 0 ∧ a.key = key ∧ a.n = n ∧ ∀ (t : Nat) (b : Act1), j < t → t < i → xs[t]? = some b → b.key ≠ key
theorem Hist.start (P : Nat) (xs : List Act1) : Hist (fresh P) xs 0 := fun key n h => by
  obtain ⟨i, hi, e⟩ := mem_at.1 h
  rw [at_fresh] at e
  cases e
theorem Hist.step {ps : List Pl} {xs : List Act1} {i : Nat} (h : Hist ps xs i) (g : Good ps) {a : Act1} (ha : xs[i]? = some a) : Hist (stepP ps a) xs (i + 1) := by
  have old : ∀ (key n : Int), (⟨true, key, n⟩ : Pl) ∈ ps → key ≠ a.key → ∃ (j : Nat) (a : Act1), j < i + 1 ∧ xs[j]? = some a ∧ a.kind = 0 ∧ a.key = key ∧ a.n = n ∧ ∀ (t : Nat) (b : Act1), j < t → t < i + 1 → xs[t]? = some b → b.key ≠ key := by
    intro key n hm ne
    obtain ⟨j, b, hj, h1, h2, h3, h4, h5⟩ := h key n hm
    refine ⟨j, b, by omega, h1, h2, h3, h4, fun t c t1 t2 hc => ?_⟩
    rcases Nat.lt_or_ge t i with d | d
    · exact h5 t c t1 d hc
    · obtain rfl : t = i := by omega
      rw [ha] at hc
      injection hc with hc
      rw [← hc]
      exact fun e => ne e.symm
  intro key n hm
  unfold stepP at hm
  split at hm
  · rename_i hk
    rcases ((good_put g a.key a.n).2 _ rfl).1 hm with ⟨_, e⟩ | ⟨hm2, ne⟩
    · simp only [Pl.mk.injEq, true_and] at e
      exact ⟨i, a, by omega, ha, hk, e.1.symm, e.2.symm, fun t b t1 t2 _ => by omega⟩
    · exact old key n hm2 ne
  · obtain ⟨hm2, ne⟩ := ((good_del g a.key).2.1 _ rfl).1 hm
    exact old key n hm2 ne

/-- of the steps from k on, ahead of t, l is the last that names the key -/
def LastAt (xs : List Act1) (key : Int) (k t l : Nat) : Prop :=
  k ≤ l ∧ (l < t ∨ l = k) ∧ (∃ a, xs[l]? = some a ∧ a.key = key) ∧ ∀ (s : Nat) (b : Act1), l < s → s < t → xs[s]? = some b → b.key ≠ key
theorem LastAt.start {xs : List Act1} {k : Nat} {a : Act1} (h : xs[k]? = some a) : LastAt xs a.key k k k := ⟨Nat.le_refl _, .inr rfl, ⟨a, h, rfl⟩, fun s b h1 h2 => by omega⟩
theorem LastAt.hit {xs : List Act1} {key : Int} {k t l : Nat} (h : LastAt xs key k t l) {a : Act1} (ha : xs[t]? = some a) (e : a.key = key) (hk : k ≤ t) : LastAt xs key k (t + 1) t :=
  ⟨hk, .inl (by omega), ⟨a, ha, e⟩, fun s b h1 h2 => by omega⟩
theorem LastAt.miss {xs : List Act1} {key : Int} {k t l : Nat} (h : LastAt xs key k t l) {a : Act1} (ha : xs[t]? = some a) (e : ¬ a.key = key) : LastAt xs key k (t + 1) l := by
  obtain ⟨h1, h2, h3, h4⟩ := h
  refine ⟨h1, by omega, h3, fun s b s1 s2 hb => ?_⟩
  rcases Nat.lt_or_ge s t with d | d
  · exact h4 s b s1 d hb
  · obtain rfl : s = t := by omega
    rw [ha] at hb
    injection hb with hb
    rw [← hb]
    exact e
theorem LastAt.at_ {xs : List Act1} {key : Int} {k t l : Nat} (h : LastAt xs key k (t + 1) l) (hk : k ≤ t) : ∃ a, xs[l]? = some a ∧ k ≤ l ∧ l ≤ t := by
  obtain ⟨h1, h2, ⟨a, h3, _⟩, h4⟩ := h
  exact ⟨a, h3, h1, by omega⟩
/-- what is had is what the last step put -/
theorem Hist.last {ps : List Pl} {xs : List Act1} {j k l : Nat} {key n : Int} (h : Hist ps xs (j + 1)) (hl : LastAt xs key k (j + 1) l) (hk : k ≤ j) {a : Act1} (ha : xs[l]? = some a) (hm : (⟨true, key, n⟩ : Pl) ∈ ps) : a.kind = 0 ∧ a.n = n := by
  obtain ⟨i, b, hi, h1, h2, h3, h4, h5⟩ := h key n hm
  obtain ⟨l1, l2, ⟨c, l3, l3'⟩, l4⟩ := hl
  rw [ha] at l3
  injection l3 with l3
  subst l3
  have : i = l := by
    rcases Nat.lt_trichotomy i l with d | d | d
    · rcases l2 with l2 | l2
      · exact absurd l3' (h5 l a d l2 ha)
      · by_cases c : l < j + 1
        · exact absurd l3' (h5 l a d c ha)
        · omega
    · exact d
    · exact absurd h3 (l4 i b d hi h1)
  subst this
  rw [h1] at ha
  injection ha with ha
  subst ha
  exact ⟨h2, h4⟩
/-- a key that was put has the number -/
theorem put_tells {ps : List Pl} (g : Good ps) (key n : Int) : (putP ps key n).2 = 0 ∧ hasP (putP ps key n).1 key = true ∧ numP (putP ps key n).1 key = n ∨ (putP ps key n).2 = 1 ∨ (putP ps key n).2 = 2 := by
  by_cases e : (putP ps key n).2 = 0
  · refine .inl ⟨e, ?_⟩
    obtain ⟨g2, m⟩ := good_put g key n
    exact (g2.get key).2.2 n ((m _ rfl).2 (.inl ⟨e, rfl⟩))
  · refine .inr ?_
    unfold putP at e ⊢
    split
    · exact .inl rfl
    · rename_i c1
      rw [if_neg c1] at e
      split
      · exact .inr rfl
      · rename_i c2
        rw [if_neg c2] at e
        exact absurd rfl e
theorem del_tells {ps : List Pl} (g : Good ps) (key : Int) : hasP (delP ps key) key = false := by
  cases c : hasP (delP ps key) key with
  | false => rfl
  | true =>
    obtain ⟨g2, m, _⟩ := good_del g key
    exact absurd rfl ((m _ rfl).1 ((g2.get key).1 c)).2
end Go.Proofs.Ytajphhalneaihaa

/- Places and turns: plain facts. A heap in a row; whose turn it is. No condition but what each says. -/
import Derived.Test.YtmihinpbgppjlaaHeap
namespace Go.Proofs.Ytmihinpbgppjlaa
open Go.RowKit
set_option linter.unusedVariables false

/-- a place that is taken: its ticket, its row, its turn, whether it waits -/
structure Pl where
  k : Int
  a : Bool
  n : Int
  s : Bool
deriving DecidableEq
def Pl.cells (p : Pl) : List Value := [.int .i64 p.k, .bool p.a, .int .i64 p.n, .bool p.s]
theorem pl4 (p : Pl) : p.cells.length = 4 := rfl
theorem pl_one : ∀ y : Pl, ∀ u ∈ y.cells, u.oneCell' = true := fun y u hu => by
  simp [Pl.cells] at hu
  rcases hu with rfl | rfl | rfl | rfl <;> rfl

/-- what stands at a place in a heap: what is ahead comes behind all demands -/
def kv (p : Pl) : Int := (if p.a then 1000000000 else 0) + p.n
/-- whether one comes ahead of another one -/
def ltP (p q : Pl) : Bool := if p.a != q.a then q.a else decide (p.n < q.n)
theorem lt_kv {p q : Pl} (hp : 0 ≤ p.n ∧ p.n < 1000000000) (hq : 0 ≤ q.n ∧ q.n < 1000000000) : ltP p q = decide (kv p < kv q) := by
  unfold ltP kv
  cases p.a <;> cases q.a <;> simp <;> omega

/-! ### a heap of numbers -/
def sw (f : Nat → Int) (i j : Nat) : Nat → Int := fun k => if j = k then f i else if i = k then f j else f k
def Heaped (f : Nat → Int) (n : Nat) : Prop := ∀ i, 0 < i → i < n → f ((i - 1) / 2) ≤ f i
def UpOk (f : Nat → Int) (n j : Nat) : Prop :=
  (∀ i, 0 < i → i < n → i ≠ j → f ((i - 1) / 2) ≤ f i) ∧ ∀ i, 0 < i → i < n → (i - 1) / 2 = j → 0 < j → f ((j - 1) / 2) ≤ f i
def DownOk (f : Nat → Int) (n i : Nat) : Prop :=
  (∀ m, 0 < m → m < n → (m - 1) / 2 ≠ i → f ((m - 1) / 2) ≤ f m) ∧ ∀ m, 0 < m → m < n → (m - 1) / 2 = i → 0 < i → f ((i - 1) / 2) ≤ f m
theorem up_stop {f : Nat → Int} {n j : Nat} (h : UpOk f n j) (e : j = 0 ∨ ¬ f j < f ((j - 1) / 2)) : Heaped f n := fun i h0 hn => by
  by_cases k : i = j
  · subst k
    rcases e with e | e
    · omega
    · omega
  · exact h.1 i h0 hn k
theorem up_go {f : Nat → Int} {n j : Nat} (h : UpOk f n j) (h0 : 0 < j) (hn : j < n) (e : f j < f ((j - 1) / 2)) : UpOk (sw f ((j - 1) / 2) j) n ((j - 1) / 2) := by
  have hpj : (j - 1) / 2 ≠ j := by omega
  generalize hp : (j - 1) / 2 = p at *
  refine ⟨fun i i0 hi ne => ?_, fun i i0 hi ei p0 => ?_⟩
  · unfold sw
    by_cases k : i = j
    · subst k
      rw [hp, if_neg (by omega), if_pos rfl, if_pos rfl]
      omega
    · rw [if_neg (show ¬ j = i by omega), if_neg (show ¬ p = i by omega)]
      by_cases k2 : (i - 1) / 2 = j
      · rw [if_pos k2.symm]
        exact hp ▸ h.2 i i0 hi k2 h0
      · rw [if_neg (show ¬ j = (i - 1) / 2 by omega)]
        by_cases k3 : (i - 1) / 2 = p
        · rw [if_pos k3.symm]
          have := h.1 i i0 hi k
          rw [k3] at this
          omega
        · rw [if_neg (show ¬ p = (i - 1) / 2 by omega)]
          exact h.1 i i0 hi k
  · unfold sw
    have q1 : (p - 1) / 2 ≠ j := by omega
    have q2 : (p - 1) / 2 ≠ p := by omega
    rw [if_neg (show ¬ j = (p - 1) / 2 by omega), if_neg (show ¬ p = (p - 1) / 2 by omega)]
    have hpp := h.1 p p0 (by omega) hpj
    by_cases k : i = j
    · subst k
      rw [if_pos rfl]
      exact hpp
    · rw [if_neg (show ¬ j = i by omega), if_neg (show ¬ p = i by omega)]
      have := h.1 i i0 hi k
      rw [ei] at this
      omega
theorem down_stop {f : Nat → Int} {n i : Nat} (h : DownOk f n i) (e : ∀ m, 0 < m → m < n → (m - 1) / 2 = i → f i ≤ f m) : Heaped f n := fun m m0 hm => by
  by_cases k : (m - 1) / 2 = i
  · rw [k]; exact e m m0 hm k
  · exact h.1 m m0 hm k
theorem down_go {f : Nat → Int} {n i j : Nat} (h : DownOk f n i) (j0 : 0 < j) (hn : j < n) (hj : (j - 1) / 2 = i) (e : f j < f i) (hs : ∀ m, 0 < m → m < n → (m - 1) / 2 = i → f j ≤ f m) : DownOk (sw f i j) n j := by
  have hij : i ≠ j := by omega
  refine ⟨fun m m0 hm ne => ?_, fun m m0 hm em _ => ?_⟩
  · unfold sw
    rw [if_neg (show ¬ j = (m - 1) / 2 by omega)]
    by_cases k : m = j
    · subst k
      rw [if_pos hj.symm, if_pos rfl]
      omega
    · rw [if_neg (show ¬ j = m by omega)]
      by_cases k2 : (m - 1) / 2 = i
      · rw [if_pos k2.symm, if_neg (show ¬ i = m by omega)]
        exact hs m m0 hm k2
      · rw [if_neg (show ¬ i = (m - 1) / 2 by omega)]
        by_cases k3 : i = m
        · rw [if_pos k3]
          subst k3
          exact h.2 j j0 hn hj m0
        · rw [if_neg k3]
          exact h.1 m m0 hm k2
  · unfold sw
    rw [hj, if_neg (show ¬ j = i by omega), if_pos rfl, if_neg (show ¬ j = m by omega), if_neg (show ¬ i = m by omega)]
    have := h.1 m m0 hm (by omega)
    rw [em] at this
    exact this
theorem root_least {f : Nat → Int} {n : Nat} (h : Heaped f n) : ∀ i, i < n → f 0 ≤ f i := by
  intro i
  induction i using Nat.strongRecOn with
  | ind i ih =>
    intro hi
    by_cases k : i = 0
    · rw [k]; exact Int.le_refl _
    · exact Int.le_trans (ih ((i - 1) / 2) (by omega) (by omega)) (h i (by omega) hi)
theorem heaped_push {f g : Nat → Int} {n : Nat} (h : Heaped f n) (e : ∀ i, i < n → g i = f i) : UpOk g (n + 1) n := by
  refine ⟨fun i i0 hi ne => ?_, fun i i0 hi ei n0 => by omega⟩
  rw [e _ (by omega), e _ (by omega)]
  exact h i i0 (by omega)
theorem heaped_root {f g : Nat → Int} {n : Nat} (h : Heaped f (n + 1)) (e : ∀ i, 0 < i → i < n → g i = f i) : DownOk g n 0 := by
  refine ⟨fun m m0 hm ne => ?_, fun m m0 hm em n0 => by omega⟩
  rw [e _ (by omega) (by omega), e _ m0 hm]
  exact h m m0 (by omega)
theorem heaped_less {f g : Nat → Int} {n m : Nat} (h : Heaped f n) (hm : m ≤ n) (e : ∀ i, i < m → g i = f i) : Heaped g m := fun i i0 hi => by
  rw [e _ (by omega), e _ hi]
  exact h i i0 (by omega)

/-! ### a row of places as such a heap -/
def fv (d : List Pl) (i : Nat) : Int := match d[i]? with | some p => kv p | none => 0
theorem fv_at {d : List Pl} {i : Nat} {p : Pl} (h : d[i]? = some p) : fv d i = kv p := by unfold fv; rw [h]
/-- two change their places -/
def swp (d : List Pl) (i j : Nat) (x y : Pl) : List Pl := (d.set i y).set j x
theorem swp_len (d : List Pl) (i j : Nat) (x y : Pl) : (swp d i j x y).length = d.length := by simp [swp]
theorem swp_at {d : List Pl} {i j : Nat} {x y : Pl} (hi : d[i]? = some x) (hj : d[j]? = some y) (k : Nat) : (swp d i j x y)[k]? = if j = k then some x else if i = k then some y else d[k]? := by
  have li := lt_of_get hi
  have lj := lt_of_get hj
  unfold swp
  rw [List.getElem?_set, List.getElem?_set, List.length_set, if_pos lj, if_pos li]
theorem fv_swp {d : List Pl} {i j : Nat} {x y : Pl} (hi : d[i]? = some x) (hj : d[j]? = some y) : fv (swp d i j x y) = sw (fv d) i j := by
  funext k
  unfold sw
  by_cases k1 : j = k
  · rw [if_pos k1, fv_at hi]
    exact fv_at (by rw [swp_at hi hj, if_pos k1])
  · rw [if_neg k1]
    by_cases k2 : i = k
    · rw [if_pos k2, fv_at hj]
      exact fv_at (by rw [swp_at hi hj, if_neg k1, if_pos k2])
    · rw [if_neg k2]
      unfold fv
      rw [swp_at hi hj, if_neg k1, if_neg k2]
theorem swp_perm {d : List Pl} {i j : Nat} {x y : Pl} (hi : d[i]? = some x) (hj : d[j]? = some y) : (swp d i j x y).Perm d := by
  have li := lt_of_get hi
  have lj := lt_of_get hj
  have h := Array.swap_perm (xs := d.toArray) (i := i) (j := j) (by simpa using li) (by simpa using lj)
  have e : (d.toArray.swap i j (by simpa using li) (by simpa using lj)).toList = swp d i j x y := by
    have e1 : d[i] = x := by rw [List.getElem?_eq_getElem li] at hi; exact Option.some.inj hi
    have e2 : d[j] = y := by rw [List.getElem?_eq_getElem lj] at hj; exact Option.some.inj hj
    simp [Array.swap, swp, e1, e2]
  have h2 := h.toList
  rw [e] at h2
  exact h2
/-- the first of a heap is the first of the same places in their order -/
theorem least_first {d r : List Pl} {t x : Pl} (hp : d.Perm (t :: r)) (hs : (t :: r).Pairwise (fun p q => kv p < kv q)) (hh : Heaped (fv d) d.length) (hx : d[0]? = some x) : x = t := by
  have hxm : x ∈ t :: r := hp.mem_iff.1 (List.mem_of_getElem? hx)
  have htm : t ∈ d := hp.mem_iff.2 (by simp)
  obtain ⟨i, hi, e⟩ := List.getElem_of_mem htm
  have hle := root_least hh i hi
  rw [fv_at hx, fv_at (show d[i]? = some t by rw [List.getElem?_eq_getElem hi, e])] at hle
  rcases List.mem_cons.1 hxm with q | q
  · exact q
  · have := (List.pairwise_cons.1 hs).1 x q
    omega
theorem perm_last {d e r : List Pl} {t x : Pl} (hp : d.Perm (t :: r)) (he : (e ++ [x]).Perm d) (hx : x = t) : e.Perm r := by
  subst hx
  have h1 : (x :: e).Perm (e ++ [x]) := (List.perm_append_comm (l₁ := [x]) (l₂ := e))
  exact List.Perm.cons_inv ((h1.trans he).trans hp)
end Go.Proofs.Ytmihinpbgppjlaa

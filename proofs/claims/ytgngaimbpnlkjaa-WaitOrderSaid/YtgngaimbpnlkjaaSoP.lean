/- What is left to sort, once a row is parted: plain facts. -/
import Derived.Sort.AssemblyPlain
namespace Go.Proofs.Ytgngaimbpnlkjaa
open Go.Sort
set_option linter.unusedVariables false

theorem swo_asym {α : Type} [Inhabited α] {lt : α → α → Bool} (h : SWO lt) {x y : α} (k : lt x y = true) : lt y x = false := by
  cases e : lt y x with
  | false => rfl
  | true => have := h.trans _ _ _ k e; rw [h.irrefl] at this; cases this
/-- a row is sorted, if what is left of it is -/
structure Rest {α : Type} [Inhabited α] (lt : α → α → Bool) (a b a' b' : Nat) (d : Array α) : Prop where
  lo : a ≤ a'
  mid : a' ≤ b'
  hi : b' ≤ b
  size : b ≤ d.size
  below : Below lt a' b' d
  done : ∀ e, PermIn a' b' d e → SortedIn lt a' b' e → SortedIn lt a b e
theorem Rest.all {α : Type} [Inhabited α] {lt : α → α → Bool} {a b : Nat} {d : Array α} (h1 : a ≤ b) (h2 : b ≤ d.size) (h3 : Below lt a b d) : Rest lt a b a b d := ⟨Nat.le_refl _, h1, Nat.le_refl _, h2, h3, fun _ _ h => h⟩
theorem below_perm {α : Type} [Inhabited α] {lt : α → α → Bool} {a b : Nat} {d d' : Array α} (hb : b ≤ d.size) (h : Below lt a b d) (p : PermIn a b d d') : Below lt a b d' := by
  rcases h with h | h
  · exact .inl h
  · by_cases a0 : a = 0
    · exact .inl a0
    · refine .inr ?_
      have := permIn_all d d' a b (fun x => lt x d[a - 1]! = false) hb p h
      rw [p.2.1 (a - 1) (.inl (by omega))]
      exact this
theorem Rest.perm {α : Type} [Inhabited α] {lt : α → α → Bool} {a b a' b' : Nat} {d d' : Array α} (h : Rest lt a b a' b' d) (p : PermIn a' b' d d') : Rest lt a b a' b' d' :=
  ⟨h.lo, h.mid, h.hi, by rw [p.1]; exact h.size, below_perm (Nat.le_trans h.hi h.size) h.below p, fun e q s => h.done e (permIn_trans _ _ _ _ _ p q) s⟩
theorem Rest.wide {α : Type} [Inhabited α] {lt : α → α → Bool} {a b a' b' : Nat} {d d' : Array α} (h : Rest lt a b a' b' d) (p : PermIn a' b' d d') : PermIn a b d d' := permIn_mono d d' a' b' a b h.lo h.hi h.size p
/-- who is alike the pivot is parted from who is greater -/
theorem Rest.equal {α : Type} [Inhabited α] {lt : α → α → Bool} (hS : SWO lt) {a b a' b' pv m : Nat} {d d' : Array α} (h : Rest lt a b a' b' d) (h1 : a' ≤ pv) (h2 : pv < b') (h0 : 0 < a') (ht : lt d[a' - 1]! d[pv]! = false) (e : partitionEqual lt d a' b' pv = (m, d')) :
    PermIn a' b' d d' ∧ a' < m ∧ m ≤ b' ∧ Rest lt a b m b' d' := by
  have hb' : b' ≤ d.size := Nat.le_trans h.hi h.size
  have low : ∀ i, a' ≤ i → i < b' → lt d[i]! d[pv]! = false := fun i hi hj => by
    rcases h.below with z | z
    · omega
    · exact hS.ntrans _ _ _ (z i hi hj) ht
  obtain ⟨q1, q2, q3, q4, q5⟩ := partitionEqual_holds (lt := lt) hS d a' b' pv h1 h2 hb' low
  rw [e] at q1 q2 q3 q4 q5
  simp only at q1 q2 q3 q4 q5
  have low' : ∀ i, a' ≤ i → i < b' → lt d'[i]! d[pv]! = false := permIn_all d d' a' b' (fun x => lt x d[pv]! = false) hb' q3 low
  have R := h.perm q3
  refine ⟨q3, q1, q2, ⟨Nat.le_trans h.lo (Nat.le_of_lt q1), q2, h.hi, R.size, .inr (fun i hi hj => ?_), fun f pf sf => ?_⟩⟩
  · cases k : lt d'[i]! d'[m - 1]! with
    | false => rfl
    | true =>
      have := hS.trans _ _ _ (q5 i hi hj) k
      rw [q4 (m - 1) (by omega) (by omega)] at this
      cases this
  · have big : ∀ i, m ≤ i → i < b' → lt d[pv]! f[i]! = true := permIn_all d' f m b' (fun x => lt d[pv]! x = true) (by rw [q3.1]; exact hb') pf q5
    refine R.done f (permIn_mono d' f m b' a' b' (Nat.le_of_lt q1) (Nat.le_refl _) (by rw [q3.1]; exact hb') pf) ?_
    intro i j hai hij hjb
    by_cases hi : m ≤ i
    · exact sf i j hi hij hjb
    · have ei : f[i]! = d'[i]! := pf.2.1 i (.inl (by omega))
      by_cases hj : m ≤ j
      · rw [ei]
        cases k : lt f[j]! d'[i]! with
        | false => rfl
        | true =>
          have := hS.trans _ _ _ (big j hj hjb) k
          rw [q4 i hai (by omega)] at this
          cases this
      · have ej : f[j]! = d'[j]! := pf.2.1 j (.inl (by omega))
        rw [ei, ej]
        exact hS.ntrans _ _ _ (low' j (by omega) (by omega)) (q4 i hai (by omega))
/-- less on the left, no less on the right, both sorted: sorted -/
theorem sorted_join {α : Type} [Inhabited α] {lt : α → α → Bool} (hS : SWO lt) {a b m : Nat} {e : Array α} (h1 : ∀ i, a ≤ i → i < m → lt e[i]! e[m]! = true) (h2 : ∀ i, m < i → i < b → lt e[i]! e[m]! = false) (s1 : SortedIn lt a m e) (s2 : SortedIn lt (m + 1) b e) : SortedIn lt a b e := by
  intro i j hai hij hjb
  by_cases hj : j < m
  · exact s1 i j hai hij hj
  · by_cases hi : m < i
    · exact s2 i j hi hij hjb
    · by_cases him : i = m
      · subst him; exact h2 j hij hjb
      · have li := swo_asym hS (h1 i hai (by omega))
        by_cases hjm : j = m
        · subst hjm; exact li
        · exact hS.ntrans _ _ _ (h2 j (by omega) hjb) li
structure Parted {α : Type} [Inhabited α] (lt : α → α → Bool) (a b m : Nat) (d : Array α) : Prop where
  lo : a ≤ m
  hi : m < b
  less : ∀ i, a ≤ i → i < m → lt d[i]! d[m]! = true
  more : ∀ i, m < i → i < b → lt d[i]! d[m]! = false
theorem Rest.part {α : Type} [Inhabited α] {lt : α → α → Bool} (hS : SWO lt) {a b a' b' pv m : Nat} {bp : Bool} {d d' : Array α} (h : Rest lt a b a' b' d) (h1 : a' ≤ pv) (h2 : pv < b') (e : partition lt d a' b' pv = (m, bp, d')) :
    PermIn a' b' d d' ∧ Rest lt a b a' b' d' ∧ Parted lt a' b' m d' := by
  have hb' : b' ≤ d.size := Nat.le_trans h.hi h.size
  obtain ⟨q1, q2, q3, q4, q5⟩ := partition_holds (lt := lt) hS d a' b' pv h1 h2 hb'
  rw [e] at q1 q2 q3 q4 q5
  exact ⟨q3, h.perm q3, q1, q2, q4, q5⟩
theorem Parted.perm {α : Type} [Inhabited α] {lt : α → α → Bool} {a b m : Nat} {d e : Array α} (hb : b ≤ d.size) (h : Parted lt a b m d) (hm : e[m]! = d[m]!) (pl : ∀ p : α → Prop, (∀ i, a ≤ i → i < m → p d[i]!) → ∀ i, a ≤ i → i < m → p e[i]!) (pr : ∀ p : α → Prop, (∀ i, m < i → i < b → p d[i]!) → ∀ i, m < i → i < b → p e[i]!) : Parted lt a b m e :=
  ⟨h.lo, h.hi, fun i h1 h2 => by rw [hm]; exact pl (fun x => lt x d[m]! = true) h.less i h1 h2, fun i h1 h2 => by rw [hm]; exact pr (fun x => lt x d[m]! = false) h.more i h1 h2⟩
/-- the left part is sorted: the right is left -/
theorem Rest.left {α : Type} [Inhabited α] {lt : α → α → Bool} (hS : SWO lt) {a b a' b' m : Nat} {d d' : Array α} (h : Rest lt a b a' b' d) (p : Parted lt a' b' m d) (q : PermIn a' m d d') (s : SortedIn lt a' m d') : PermIn a' b' d d' ∧ Rest lt a b (m + 1) b' d' := by
  have hb' : b' ≤ d.size := Nat.le_trans h.hi h.size
  have w := permIn_mono d d' a' m a' b' (Nat.le_refl _) (Nat.le_of_lt p.hi) hb' q
  have P' : Parted lt a' b' m d' := p.perm hb' (q.2.1 m (.inr (Nat.le_refl _))) (fun f hf => permIn_all d d' a' m f (by have := p.hi; omega) q hf) (fun f hf i h1 h2 => by rw [q.2.1 i (.inr (by omega))]; exact hf i h1 h2)
  have R := h.perm w
  have sz : b' ≤ d'.size := by rw [w.1]; exact hb'
  refine ⟨w, ⟨by have := h.lo; have := p.lo; omega, p.hi, h.hi, R.size, .inr (fun i h1 h2 => P'.more i h1 h2), fun e qe se => ?_⟩⟩
  refine R.done e (permIn_mono d' e (m + 1) b' a' b' (by have := p.lo; omega) (Nat.le_refl _) sz qe) ?_
  have PE : Parted lt a' b' m e := P'.perm sz (qe.2.1 m (.inl (by omega))) (fun f hf i h1 h2 => by rw [qe.2.1 i (.inl (by omega))]; exact hf i h1 h2) (fun f hf => permIn_all d' e (m + 1) b' f sz qe hf)
  refine sorted_join hS PE.less PE.more (fun i j h1 h2 h3 => ?_) se
  rw [qe.2.1 i (.inl (by omega)), qe.2.1 j (.inl (by omega))]
  exact s i j h1 h2 h3
/-- the right part is sorted: the left is left -/
theorem Rest.right {α : Type} [Inhabited α] {lt : α → α → Bool} (hS : SWO lt) {a b a' b' m : Nat} {d d' : Array α} (h : Rest lt a b a' b' d) (p : Parted lt a' b' m d) (q : PermIn (m + 1) b' d d') (s : SortedIn lt (m + 1) b' d') : PermIn a' b' d d' ∧ Rest lt a b a' m d' := by
  have hb' : b' ≤ d.size := Nat.le_trans h.hi h.size
  have w := permIn_mono d d' (m + 1) b' a' b' (by have := p.lo; omega) (Nat.le_refl _) hb' q
  have P' : Parted lt a' b' m d' := p.perm hb' (q.2.1 m (.inl (by omega))) (fun f hf i h1 h2 => by rw [q.2.1 i (.inl (by omega))]; exact hf i h1 h2) (fun f hf => permIn_all d d' (m + 1) b' f hb' q hf)
  have R := h.perm w
  have sz : b' ≤ d'.size := by rw [w.1]; exact hb'
  refine ⟨w, ⟨h.lo, p.lo, by have := h.hi; have := p.hi; omega, R.size, ?_, fun e qe se => ?_⟩⟩
  · rcases R.below with z | z
    · exact .inl z
    · exact .inr (fun i h1 h2 => z i h1 (by have := p.hi; omega))
  refine R.done e (permIn_mono d' e a' m a' b' (Nat.le_refl _) (Nat.le_of_lt p.hi) sz qe) ?_
  have PE : Parted lt a' b' m e := P'.perm sz (qe.2.1 m (.inr (Nat.le_refl _))) (fun f hf => permIn_all d' e a' m f (by have := p.hi; omega) qe hf) (fun f hf i h1 h2 => by rw [qe.2.1 i (.inr (by omega))]; exact hf i h1 h2)
  refine sorted_join hS PE.less PE.more se (fun i j h1 h2 h3 => ?_)
  rw [qe.2.1 i (.inr (by omega)), qe.2.1 j (.inr (by omega))]
  exact s i j h1 h2 h3
theorem Parted.belowL {α : Type} [Inhabited α] {lt : α → α → Bool} {a b a' b' m : Nat} {d : Array α} (h : Rest lt a b a' b' d) (p : Parted lt a' b' m d) : Below lt a' m d := by
  rcases h.below with z | z
  · exact .inl z
  · exact .inr (fun i h1 h2 => z i h1 (by have := p.hi; omega))
theorem Parted.belowR {α : Type} [Inhabited α] {lt : α → α → Bool} {a' b' m : Nat} {d : Array α} (p : Parted lt a' b' m d) : Below lt (m + 1) b' d := .inr (fun i h1 h2 => p.more i h1 h2)
end Go.Proofs.Ytgngaimbpnlkjaa

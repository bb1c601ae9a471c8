/- Plain facts of tables in which keys lie at the first place from their home on. Of no program. -/
namespace Go.Proofs.Ytajphhalneaihaa
set_option linter.unusedVariables false

/-- a place -/
structure Pl where
  taken : Bool
  key : Int
  n : Int
  deriving DecidableEq, Inhabited
/-- an empty one -/
def Pl.none_ : Pl := ⟨false, 0, 0⟩

/-- what lies at a place -/
def at_ (ps : List Pl) (i : Nat) : Pl := ps.getD i Pl.none_
/-- k places on from h, the first one following the last -/
def sl (N h k : Nat) : Nat := if h + k < N then h + k else h + k - N
/-- a key's home -/
def hm (N : Nat) (key : Int) : Nat := (key % (N : Int)).toNat

theorem sl_or (N h k : Nat) : (sl N h k = h + k ∧ h + k < N) ∨ (sl N h k = h + k - N ∧ N ≤ h + k) := by
  unfold sl
  split
  · exact .inl ⟨rfl, by assumption⟩
  · exact .inr ⟨rfl, by omega⟩
theorem sl_lt {N h k : Nat} (hh : h < N) (hk : k ≤ N) : sl N h k < N := by
  have := sl_or N h k
  omega
theorem sl_inj {N h j k : Nat} (hh : h < N) (hj : j < N) (hk : k < N) (e : sl N h j = sl N h k) : j = k := by
  have := sl_or N h j
  have := sl_or N h k
  omega
theorem sl_sl {N h j k : Nat} (hh : h < N) (hj : j < N) (hk : j + k ≤ N) : sl N (sl N h j) k = sl N h (j + k) := by
  have := sl_or N h j
  have := sl_or N (sl N h j) k
  have := sl_or N h (j + k)
  omega
theorem sl_zero {N h : Nat} (hh : h < N) : sl N h 0 = h := by
  have := sl_or N h 0
  omega
theorem sl_all {N h i : Nat} (hh : h < N) (hi : i < N) : ∃ k, k < N ∧ sl N h k = i := by
  rcases Nat.lt_or_ge i h with c | c
  · refine ⟨i + N - h, by omega, ?_⟩
    have := sl_or N h (i + N - h)
    omega
  · refine ⟨i - h, by omega, ?_⟩
    have := sl_or N h (i - h)
    omega
theorem hm_lt {N : Nat} (h : 0 < N) (key : Int) : hm N key < N := by
  unfold hm
  have := Int.emod_lt_of_pos key (show (0 : Int) < N by omega)
  have := Int.emod_nonneg key (show (N : Int) ≠ 0 by omega)
  omega
theorem hm_cast {N : Nat} (h : 0 < N) (key : Int) : ((hm N key : Nat) : Int) = key % N := by
  unfold hm
  have := Int.emod_nonneg key (show (N : Int) ≠ 0 by omega)
  omega

theorem at_get {ps : List Pl} {i : Nat} (h : i < ps.length) : ps[i]? = some (at_ ps i) := by
  unfold at_
  rw [List.getElem?_eq_getElem h, List.getD_eq_getElem?_getD, List.getElem?_eq_getElem h]
  rfl
theorem at_of_get {ps : List Pl} {i : Nat} {p : Pl} (h : ps[i]? = some p) : at_ ps i = p := by
  unfold at_
  rw [List.getD_eq_getElem?_getD, h]
  rfl
theorem at_set {ps : List Pl} {i : Nat} (h : i < ps.length) (p : Pl) (j : Nat) : at_ (ps.set i p) j = if j = i then p else at_ ps j := by
  unfold at_
  rw [List.getD_eq_getElem?_getD, List.getD_eq_getElem?_getD, List.getElem?_set]
  by_cases e : i = j
  · subst e
    simp [h]
  · have e' : ¬ j = i := fun x => e x.symm
    simp [e, e']
theorem at_set_same {ps : List Pl} {i : Nat} (h : i < ps.length) (p : Pl) : at_ (ps.set i p) i = p := by
  rw [at_set h, if_pos rfl]
theorem at_set_other {ps : List Pl} {i : Nat} (h : i < ps.length) (p : Pl) {j : Nat} (e : j ≠ i) : at_ (ps.set i p) j = at_ ps j := by
  rw [at_set h, if_neg e]
theorem at_beyond {ps : List Pl} {i : Nat} (h : ps.length ≤ i) : at_ ps i = Pl.none_ := by
  unfold at_
  rw [List.getD_eq_getElem?_getD, List.getElem?_eq_none h]
  rfl
theorem at_mem {ps : List Pl} {i : Nat} (h : i < ps.length) : at_ ps i ∈ ps := List.mem_of_getElem? (at_get h)
theorem at_ext {ps qs : List Pl} (hl : ps.length = qs.length) (h : ∀ i, i < ps.length → at_ ps i = at_ qs i) : ps = qs := by
  apply List.ext_getElem?
  intro i
  rcases Nat.lt_or_ge i ps.length with k | k
  · rw [at_get k, at_get (by omega), h i k]
  · rw [List.getElem?_eq_none k, List.getElem?_eq_none (by omega)]

/-- at which place one looks no further -/
def stop (ps : List Pl) (key : Int) (i : Nat) : Bool := !(at_ ps i).taken || (at_ ps i).key == key
/-- so many places on from its home a key, or nothing, lies -/
structure Found (ps : List Pl) (key : Int) (k : Nat) : Prop where
  lt : k < ps.length
  here : stop ps key (sl ps.length (hm ps.length key) k) = true
  before : ∀ j, j < k → stop ps key (sl ps.length (hm ps.length key) j) = false

theorem Found.one {ps : List Pl} {key : Int} {k j : Nat} (a : Found ps key k) (b : Found ps key j) : k = j := by
  rcases Nat.lt_trichotomy k j with h | h | h
  · have := b.before k h
    rw [a.here] at this
    cases this
  · exact h
  · have := a.before j h
    rw [b.here] at this
    cases this
def findK (ps : List Pl) (key : Int) : Nat := ((List.range ps.length).find? (fun k => stop ps key (sl ps.length (hm ps.length key) k))).getD 0
/-- the place of a key, or that where it would lie -/
def findP (ps : List Pl) (key : Int) : Nat := sl ps.length (hm ps.length key) (findK ps key)
/-- something is empty -/
def Gap (ps : List Pl) : Prop := ∃ i, i < ps.length ∧ (at_ ps i).taken = false

theorem found_of {ps : List Pl} {key : Int} {k : Nat} (h : Found ps key k) : findK ps key = k := by
  unfold findK
  have := (List.find?_range_eq_some (p := fun k => stop ps key (sl ps.length (hm ps.length key) k))).2 ⟨h.here, List.mem_range.2 h.lt, fun j hj => by simpa using h.before j hj⟩
  rw [this]
  rfl
theorem found {ps : List Pl} (key : Int) (h : Gap ps) : Found ps key (findK ps key) := by
  obtain ⟨i, hi, ht⟩ := h
  have hp : 0 < ps.length := by omega
  obtain ⟨k, hk, e⟩ := sl_all (hm_lt hp key) hi
  have hs : ((List.range ps.length).find? (fun k => stop ps key (sl ps.length (hm ps.length key) k))).isSome := by
    rw [List.find?_isSome]
    exact ⟨k, List.mem_range.2 hk, by rw [e]; unfold stop; rw [ht]; rfl⟩
  obtain ⟨r, hr⟩ := Option.isSome_iff_exists.1 hs
  have hr' := List.find?_range_eq_some.1 hr
  have f : Found ps key r := ⟨List.mem_range.1 hr'.2.1, hr'.1, fun j hj => by have := hr'.2.2 j hj; simpa using this⟩
  rw [found_of f]
  exact f
theorem findP_lt {ps : List Pl} (key : Int) (h : Gap ps) : findP ps key < ps.length := by
  have hp : 0 < ps.length := by obtain ⟨i, hi, _⟩ := h; omega
  exact sl_lt (hm_lt hp key) (Nat.le_of_lt (found key h).lt)
theorem findP_stop {ps : List Pl} (key : Int) (h : Gap ps) : stop ps key (findP ps key) = true := (found key h).here
theorem findP_key {ps : List Pl} {key : Int} (h : Gap ps) (ht : (at_ ps (findP ps key)).taken = true) : (at_ ps (findP ps key)).key = key := by
  have := findP_stop key h
  unfold stop at this
  rw [ht] at this
  simpa using this

/-- how many keys there are -/
def cnt (ps : List Pl) : Nat := ps.countP (·.taken)
theorem cnt_le (ps : List Pl) : cnt ps ≤ ps.length := List.countP_le_length
theorem cnt_set {ps : List Pl} {i : Nat} (h : i < ps.length) (p : Pl) : cnt (ps.set i p) = (cnt ps - if (at_ ps i).taken = true then 1 else 0) + if p.taken = true then 1 else 0 := by
  unfold cnt
  rw [List.countP_set h]
  have : at_ ps i = ps[i] := at_of_get (List.getElem?_eq_getElem h)
  rw [this]
theorem cnt_pos {ps : List Pl} {i : Nat} (h : i < ps.length) (ht : (at_ ps i).taken = true) : 0 < cnt ps := List.countP_pos_iff.2 ⟨_, at_mem h, ht⟩
theorem cnt_clear {ps : List Pl} {i : Nat} (h : i < ps.length) (ht : (at_ ps i).taken = true) : cnt (ps.set i Pl.none_) + 1 = cnt ps := by
  have := cnt_pos h ht
  rw [cnt_set h, ht]
  simp [Pl.none_]
  omega
theorem cnt_new {ps : List Pl} {i : Nat} (h : i < ps.length) (ht : (at_ ps i).taken = false) {p : Pl} (hp : p.taken = true) : cnt (ps.set i p) = cnt ps + 1 := by
  rw [cnt_set h, ht, hp]
  simp
theorem cnt_over {ps : List Pl} {i : Nat} (h : i < ps.length) (ht : (at_ ps i).taken = true) {p : Pl} (hp : p.taken = true) : cnt (ps.set i p) = cnt ps := by
  have := cnt_pos h ht
  rw [cnt_set h, ht, hp]
  simp
  omega
theorem gap_of_cnt {ps : List Pl} (h : cnt ps < ps.length) : Gap ps := by
  false_or_by_contra
  rename_i hn
  have : ∀ p ∈ ps, p.taken = true := by
    intro p hp
    obtain ⟨i, hi, e⟩ := List.getElem_of_mem hp
    have := at_of_get (List.getElem?_eq_getElem hi)
    cases ht : p.taken with
    | true => rfl
    | false => exact absurd ⟨i, hi, by rw [this, e]; exact ht⟩ hn
  have : cnt ps = ps.length := List.countP_eq_length.2 this
  omega
theorem cnt_of_gap {ps : List Pl} (h : Gap ps) : cnt ps < ps.length := by
  obtain ⟨i, hi, ht⟩ := h
  have h1 := cnt_new hi ht (p := ⟨true, 0, 0⟩) rfl
  have h2 := cnt_le (ps.set i ⟨true, 0, 0⟩)
  rw [List.length_set] at h2
  omega
/-- so many places from h on, each taken: there are as many keys -/
theorem cnt_run {h : Nat} : ∀ (k : Nat) (ps : List Pl), h < ps.length → k ≤ ps.length → (∀ j, j < k → (at_ ps (sl ps.length h j)).taken = true) → k ≤ cnt ps
  | 0, _, _, _, _ => Nat.zero_le _
  | k + 1, ps, hh, hk, ht => by
    have lt : sl ps.length h k < ps.length := sl_lt hh (by omega)
    have c := cnt_clear lt (ht k (by omega))
    have := cnt_run k (ps.set (sl ps.length h k) Pl.none_) (by simpa using hh) (by simp; omega) (by
      intro j hj
      rw [List.length_set, at_set_other lt _ (fun e => by have := sl_inj hh (by omega) (by omega) e; omega)]
      exact ht j (by omega))
    omega

/-- empty places have nothing else -/
def Clean (ps : List Pl) : Prop := ∀ i, i < ps.length → (at_ ps i).taken = false → at_ ps i = Pl.none_
/-- between a key's home and its place none is empty; no key lies twice -/
structure Good (ps : List Pl) : Prop where
  gap : Gap ps
  clean : Clean ps
  near : ∀ i, i < ps.length → (at_ ps i).taken = true → ∃ k, k < ps.length ∧ sl ps.length (hm ps.length (at_ ps i).key) k = i ∧ ∀ j, j < k → (at_ ps (sl ps.length (hm ps.length (at_ ps i).key) j)).taken = true
  once : ∀ i j, i < ps.length → j < ps.length → (at_ ps i).taken = true → (at_ ps j).taken = true → (at_ ps i).key = (at_ ps j).key → i = j
  right : ∀ i, i < ps.length → (at_ ps i).taken = true → 0 ≤ (at_ ps i).key ∧ (at_ ps i).key ≤ 1048576

theorem Good.pos {ps : List Pl} (g : Good ps) : 0 < ps.length := by obtain ⟨i, hi, _⟩ := g.gap; omega
theorem Good.finds {ps : List Pl} (g : Good ps) {i : Nat} (hi : i < ps.length) (ht : (at_ ps i).taken = true) : findP ps (at_ ps i).key = i ∧ ∀ j, j < findK ps (at_ ps i).key → (at_ ps (sl ps.length (hm ps.length (at_ ps i).key) j)).taken = true := by
  obtain ⟨k, hk, e, hb⟩ := g.near i hi ht
  have f : Found ps (at_ ps i).key k := by
    refine ⟨hk, ?_, ?_⟩
    · rw [e]
      unfold stop
      simp
    · intro j hj
      have lt := sl_lt (hm_lt g.pos (at_ ps i).key) (show j ≤ ps.length by omega)
      have t := hb j hj
      unfold stop
      rw [t]
      have : ¬ (at_ ps (sl ps.length (hm ps.length (at_ ps i).key) j)).key = (at_ ps i).key := fun q => by
        have z := (g.once _ _ lt hi t ht q).trans e.symm
        have := sl_inj (hm_lt g.pos _) (Nat.lt_trans hj hk) hk z
        omega
      simpa using this
  have := found_of f
  unfold findP
  rw [this]
  exact ⟨e, hb⟩
theorem Good.has {ps : List Pl} (g : Good ps) {i : Nat} {key : Int} (hi : i < ps.length) (ht : (at_ ps i).taken = true) (hk : (at_ ps i).key = key) : findP ps key = i := by
  have := (g.finds hi ht).1
  rwa [hk] at this
theorem Good.lacks {ps : List Pl} (g : Good ps) {key : Int} (h : (at_ ps (findP ps key)).taken = false) {i : Nat} (hi : i < ps.length) (ht : (at_ ps i).taken = true) : (at_ ps i).key ≠ key := fun e => by
  rw [g.has hi ht e, ht] at h
  cases h
/-- a key that lies nowhere is found at the first empty place -/
theorem Good.path {ps : List Pl} (g : Good ps) {key : Int} {j : Nat} (hj : j < findK ps key) : (at_ ps (sl ps.length (hm ps.length key) j)).taken = true := by
  have := (Go.Proofs.Ytajphhalneaihaa.found key g.gap).before j hj
  unfold stop at this
  simp only [Bool.or_eq_false_iff, Bool.not_eq_false'] at this
  exact this.1

theorem Good.lay {ps : List Pl} (g : Good ps) {p : Pl} (hp : p.taken = true) (h0 : 0 ≤ p.key ∧ p.key ≤ 1048576) (h : (at_ ps (findP ps p.key)).taken = false) (hg : Gap (ps.set (findP ps p.key) p)) : Good (ps.set (findP ps p.key) p) := by
  have lt := findP_lt p.key g.gap
  have pos := g.pos
  refine ⟨hg, ?_, ?_, ?_, ?_⟩
  · intro i hi ht
    rw [List.length_set] at hi
    rw [at_set lt] at ht ⊢
    split at ht
    · rw [hp] at ht; cases ht
    · rw [if_neg (by assumption)]
      exact g.clean i hi ht
  · intro i hi ht
    rw [List.length_set] at hi ⊢
    rw [at_set lt] at ht
    by_cases e : i = findP ps p.key
    · subst e
      rw [at_set_same lt]
      refine ⟨findK ps p.key, (found p.key g.gap).lt, rfl, fun j hj => ?_⟩
      have t := g.path hj
      rw [at_set_other lt _ (fun q => by rw [← q, t] at h; cases h)]
      exact t
    · rw [if_neg e] at ht
      rw [at_set_other lt _ e]
      obtain ⟨k, hk, e2, hb⟩ := g.near i hi ht
      refine ⟨k, hk, e2, fun j hj => ?_⟩
      have t := hb j hj
      rw [at_set_other lt _ (fun q => by rw [← q, t] at h; cases h)]
      exact t
  · intro i j hi hj hti htj e
    rw [List.length_set] at hi hj
    by_cases ei : i = findP ps p.key
    · by_cases ej : j = findP ps p.key
      · omega
      · rw [at_set_other lt _ ej] at htj e
        rw [ei, at_set_same lt] at e
        exact absurd e.symm (g.lacks h hj htj)
    · rw [at_set_other lt _ ei] at hti e
      by_cases ej : j = findP ps p.key
      · rw [ej, at_set_same lt] at e
        exact absurd e (g.lacks h hi hti)
      · rw [at_set_other lt _ ej] at htj e
        exact g.once i j hi hj hti htj e
  · intro i hi ht
    rw [List.length_set] at hi
    rw [at_set lt] at ht ⊢
    split at ht
    · rw [if_pos (by assumption)]; exact h0
    · rw [if_neg (by assumption)]; exact g.right i hi ht

theorem Good.over {ps : List Pl} (g : Good ps) {key : Int} (n : Int) (h : (at_ ps (findP ps key)).taken = true) : Good (ps.set (findP ps key) ⟨true, key, n⟩) := by
  have lt := findP_lt key g.gap
  have pos := g.pos
  have hk := findP_key g.gap h
  have hT : ∀ i, (at_ (ps.set (findP ps key) ⟨true, key, n⟩) i).taken = (at_ ps i).taken := by
    intro i
    rw [at_set lt]
    split
    · subst i; rw [h]
    · rfl
  have hK : ∀ i, (at_ (ps.set (findP ps key) ⟨true, key, n⟩) i).key = (at_ ps i).key := by
    intro i
    rw [at_set lt]
    split
    · subst i; rw [hk]
    · rfl
  refine ⟨?_, ?_, ?_, ?_, ?_⟩
  · obtain ⟨i, hi, t⟩ := g.gap
    exact ⟨i, by simpa using hi, by rw [hT, t]⟩
  · intro i hi ht
    rw [List.length_set] at hi
    rw [hT] at ht
    rw [at_set_other lt _ (fun q => by rw [q, h] at ht; cases ht)]
    exact g.clean i hi ht
  · intro i hi ht
    rw [List.length_set] at hi ⊢
    rw [hT] at ht
    simp only [hK, hT]
    exact g.near i hi ht
  · intro i j hi hj hti htj e
    rw [List.length_set] at hi hj
    rw [hT] at hti htj
    rw [hK, hK] at e
    exact g.once i j hi hj hti htj e
  · intro i hi ht
    rw [List.length_set] at hi
    rw [hT] at ht
    rw [hK]
    exact g.right i hi ht
end Go.Proofs.Ytajphhalneaihaa

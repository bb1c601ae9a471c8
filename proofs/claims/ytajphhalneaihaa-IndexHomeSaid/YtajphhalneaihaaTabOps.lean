/- Plain facts of tables: what is put, deleted, and told. Of no program. -/
import Derived.Test.YtajphhalneaihaaTabDel
namespace Go.Proofs.Ytajphhalneaihaa
set_option linter.unusedVariables false

theorem mem_at {ps : List Pl} {p : Pl} : p ∈ ps ↔ ∃ i, i < ps.length ∧ at_ ps i = p := by
  constructor
  · intro h
    obtain ⟨i, hi, e⟩ := List.getElem_of_mem h
    exact ⟨i, hi, by rw [← e]; exact at_of_get (List.getElem?_eq_getElem hi)⟩
  · rintro ⟨i, hi, rfl⟩
    exact at_mem hi
theorem mem_new {ps : List Pl} {i : Nat} (hi : i < ps.length) (h : (at_ ps i).taken = false) {p q : Pl} (hq : q.taken = true) : q ∈ ps.set i p ↔ q = p ∨ q ∈ ps := by
  rw [mem_at, mem_at]
  constructor
  · rintro ⟨j, hj, e⟩
    rw [List.length_set] at hj
    rw [at_set hi] at e
    split at e
    · exact .inl e.symm
    · exact .inr ⟨j, hj, e⟩
  · rintro (e | ⟨j, hj, e⟩)
    · exact ⟨i, by simpa using hi, by rw [at_set_same hi, e]⟩
    · refine ⟨j, by simpa using hj, ?_⟩
      rw [at_set_other hi _ (fun c => by rw [c] at e; rw [← e, h] at hq; cases hq)]
      exact e
/-- no key of ps is this -/
def Lacks (ps : List Pl) (key : Int) : Prop := ∀ q ∈ ps, q.taken = true → q.key ≠ key
theorem Good.lacks_iff {ps : List Pl} (g : Good ps) (key : Int) : (at_ ps (findP ps key)).taken = false ↔ Lacks ps key := by
  constructor
  · intro h q hq ht
    obtain ⟨i, hi, rfl⟩ := mem_at.1 hq
    exact g.lacks h hi ht
  · intro h
    cases c : (at_ ps (findP ps key)).taken with
    | false => rfl
    | true => exact absurd (findP_key g.gap c) (h _ (at_mem (findP_lt key g.gap)) c)

theorem Good.lay1 {T : List Pl} (g : Good T) {p : Pl} (hp : p.taken = true) (h0 : 0 ≤ p.key ∧ p.key ≤ 1048576) (hl : Lacks T p.key) (hc : cnt T + 1 < T.length) :
    Good (lay1 T p) ∧ cnt (lay1 T p) = cnt T + 1 ∧ ∀ q : Pl, q.taken = true → (q ∈ Go.Proofs.Ytajphhalneaihaa.lay1 T p ↔ q = p ∨ q ∈ T) := by
  have e := (g.lacks_iff p.key).2 hl
  have lt := findP_lt p.key g.gap
  have c := cnt_new lt e hp
  exact ⟨g.lay hp h0 e (gap_of_cnt (by rw [c]; simpa using hc)), c, fun q hq => mem_new lt e hq⟩

theorem layAll_good : ∀ (R T : List Pl), Good T → cnt T + R.length < T.length → (∀ p ∈ R, p.taken = true ∧ 0 ≤ p.key ∧ p.key ≤ 1048576) → (R.map (·.key)).Nodup → (∀ p ∈ R, Lacks T p.key) →
    Good (layAll T R) ∧ cnt (layAll T R) = cnt T + R.length ∧ ∀ q : Pl, q.taken = true → (q ∈ layAll T R ↔ q ∈ R ∨ q ∈ T) := by
  intro R
  induction R with
  | nil => intro T g _ _ _ _; exact ⟨g, rfl, fun q _ => by simp [layAll]⟩
  | cons p R ih =>
    intro T g hc hp hn hl
    simp only [List.length_cons] at hc
    simp only [List.map_cons, List.nodup_cons] at hn
    obtain ⟨tp, rp⟩ := hp p (List.mem_cons_self)
    obtain ⟨g1, c1, m1⟩ := g.lay1 tp rp (hl p (List.mem_cons_self)) (by omega)
    obtain ⟨g2, c2, m2⟩ := ih (lay1 T p) g1 (by rw [c1, lay1_len]; omega) (fun q hq => hp q (List.mem_cons_of_mem _ hq)) hn.2 (fun q hq r hr ht => by
      rcases (m1 r ht).1 hr with e | e
      · rw [e]
        exact fun k => hn.1 (by rw [k]; exact List.mem_map_of_mem hq)
      · exact hl q (List.mem_cons_of_mem _ hq) r e ht)
    refine ⟨g2, by show cnt (layAll (lay1 T p) R) = _; rw [c2, c1, List.length_cons]; omega, fun q hq => ?_⟩
    show q ∈ layAll (lay1 T p) R ↔ _
    rw [m2 q hq, m1 q hq, List.mem_cons]
    exact ⟨fun h => by rcases h with h | h | h <;> simp [h], fun h => by rcases h with (h | h) | h <;> simp [h]⟩

/-- a key goes -/
def gone (ps : List Pl) (i : Nat) : List Pl × List Pl := lift (cnt ps) (ps.set i Pl.none_) (sl ps.length i 1)
def delP (ps : List Pl) (key : Int) : List Pl := if (at_ ps (findP ps key)).taken then layAll (gone ps (findP ps key)).2 (gone ps (findP ps key)).1 else ps
def putP (ps : List Pl) (key n : Int) : List Pl × Int :=
  if key < 0 ∨ 1048576 < key then (ps, 1)
  else if (at_ ps (findP ps key)).taken = false ∧ cnt ps + 1 = ps.length then (ps, 2)
  else (ps.set (findP ps key) ⟨true, key, n⟩, 0)
def hasP (ps : List Pl) (key : Int) : Bool := (at_ ps (findP ps key)).taken
def numP (ps : List Pl) (key : Int) : Int := (at_ ps (findP ps key)).n
def farP (ps : List Pl) (key : Int) : Int := if hasP ps key = true then (findK ps key : Int) else -1
def keysP (ps : List Pl) : List Int := ((ps.filter (·.taken)).map (·.key)).mergeSort (fun x y => decide (x ≤ y))

theorem put_len (ps : List Pl) (key n : Int) : (putP ps key n).1.length = ps.length := by
  unfold putP
  split
  · rfl
  · split
    · rfl
    · simp
theorem del_len (ps : List Pl) (key : Int) (g : Good ps) : (delP ps key).length = ps.length := by
  unfold delP
  split
  · rename_i h
    rw [layAll_len]
    obtain ⟨z, k⟩ := emptied g (findP_lt key g.gap) h (Nat.le_refl _)
    have := k.l.len
    rw [List.length_set] at this
    exact this
  · rfl

/-- what goes and what stays -/
theorem Emptied.all {ps : List Pl} (g : Good ps) {i : Nat} (hi : i < ps.length) (ht : (at_ ps i).taken = true) {R T : List Pl} {z : Nat} (k : Emptied ps i R T z) :
    cnt T + R.length + 1 = cnt ps ∧ (∀ p ∈ R, p.taken = true ∧ 0 ≤ p.key ∧ p.key ≤ 1048576) ∧ (R.map (·.key)).Nodup ∧ (∀ p ∈ R, Lacks T p.key) ∧ ∀ q : Pl, q.taken = true → (q ∈ R ∨ q ∈ T ↔ q ∈ ps ∧ q.key ≠ (at_ ps i).key) := by
  obtain ⟨len, gn, same, was⟩ := k.cell hi
  have fa := k.far
  have lt : ∀ e, e ≤ R.length → sl ps.length i e < ps.length := fun e he => sl_lt hi (by omega)
  have inR : ∀ p ∈ R, ∃ e, e < R.length ∧ R[e]? = some p := fun p hp => by
    obtain ⟨e, he, q⟩ := List.getElem_of_mem hp
    exact ⟨e, he, by rw [List.getElem?_eq_getElem he, q]⟩
  have keyR : ∀ e p, R[e]? = some p → ∀ j, j < ps.length → (at_ ps j).taken = true → (at_ ps j).key = p.key → j = sl ps.length i (e + 1) := fun e p hp j hj htj q => by
    have he : e < R.length := (List.getElem?_eq_some_iff.1 hp).1
    obtain ⟨w, t⟩ := was e p hp
    exact g.once j _ hj (lt _ (by omega)) htj (by rw [w]; exact t) (by rw [w]; exact q)
  have outT : ∀ j, (at_ T j).taken = true → (∀ e, e ≤ R.length → j ≠ sl ps.length i e) ∧ at_ T j = at_ ps j := by
    intro j hj
    have h1 : ∀ e, e ≤ R.length → j ≠ sl ps.length i e := fun e he q => by
      rw [q, gn e he] at hj
      cases hj
    exact ⟨h1, same j h1⟩
  refine ⟨?_, ?_, ?_, ?_, ?_⟩
  · -- the count, by clearing one by one
    have key : ∀ m (s : List Pl), s.length = ps.length → m ≤ R.length + 1 → (∀ e, e < m → (at_ s (sl ps.length i e)).taken = true) → (∀ e, e < m → at_ T (sl ps.length i e) = Pl.none_) → (∀ j, j < ps.length → (∀ e, e < m → j ≠ sl ps.length i e) → at_ T j = at_ s j) → cnt T + m = cnt s := by
      intro m
      induction m with
      | zero =>
        intro s hs _ _ _ h
        have : T = s := at_ext (by rw [len, hs]) (fun j hj => h j (by omega) (fun e he => by omega))
        rw [this]; rfl
      | succ m ih =>
        intro s hs hm_ h1 h2 h3
        have l := lt m (by omega)
        have := ih (s.set (sl ps.length i m) Pl.none_) (by simpa using hs) (by omega) (fun e he => by
          rw [at_set_other (by omega) _ (fun q => by have := sl_inj hi (by omega) (by omega) q; omega)]
          exact h1 e (by omega)) (fun e he => h2 e (by omega)) (fun j hj h => by
          rw [at_set (by omega)]
          split
          · rename_i q; rw [q]; exact h2 m (by omega)
          · rename_i q
            exact h3 j hj (fun e he => by
              rcases Nat.lt_or_ge e m with c | c
              · exact h e c
              · obtain rfl : e = m := by omega
                exact q))
        have c := cnt_clear (show sl ps.length i m < s.length by omega) (h1 m (by omega))
        omega
    have := key (R.length + 1) ps rfl (by omega) (fun e he => by
      cases e with
      | zero => rw [sl_zero hi]; exact ht
      | succ e =>
        obtain ⟨w, t⟩ := was e R[e] (List.getElem?_eq_getElem (by omega))
        rw [w]; exact t) (fun e he => gn e (by omega)) (fun j hj h => same j (fun e he => h e (by omega)))
    omega
  · intro p hp
    obtain ⟨e, he, q⟩ := inR p hp
    obtain ⟨w, t⟩ := was e p q
    have := g.right _ (lt (e + 1) (by omega)) (by rw [w]; exact t)
    rw [w] at this
    exact ⟨t, this⟩
  · unfold List.Nodup
    rw [List.pairwise_iff_getElem]
    intro a b ha hb hab
    rw [List.length_map] at ha hb
    rw [List.getElem_map, List.getElem_map]
    intro q
    obtain ⟨wa, ta⟩ := was a R[a] (List.getElem?_eq_getElem (by omega))
    obtain ⟨wb, tb⟩ := was b R[b] (List.getElem?_eq_getElem (by omega))
    have := keyR b R[b] (List.getElem?_eq_getElem (by omega)) _ (lt (a + 1) (by omega)) (by rw [wa]; exact ta) (by rw [wa]; exact q)
    have := sl_inj hi (by omega) (by omega) this
    omega
  · intro p hp q hq hqt e
    obtain ⟨n, hn, w⟩ := inR p hp
    obtain ⟨j, hj, rfl⟩ := mem_at.1 hq
    obtain ⟨o, ej⟩ := outT j hqt
    rw [ej] at hqt e
    exact o (n + 1) (by omega) (keyR n p w j (by omega) hqt e)
  · intro q hq
    constructor
    · rintro (h | h)
      · obtain ⟨n, hn, w⟩ := inR q h
        obtain ⟨w1, t1⟩ := was n q w
        refine ⟨by rw [← w1]; exact at_mem (lt _ (by omega)), fun e => ?_⟩
        have := keyR n q w i hi ht e.symm
        have := sl_inj (j := 0) hi (by omega) (by omega) ((sl_zero hi).trans this)
        omega
      · obtain ⟨j, hj, rfl⟩ := mem_at.1 h
        obtain ⟨o, ej⟩ := outT j hq
        rw [ej] at hq ⊢
        refine ⟨at_mem (by omega), fun e => ?_⟩
        have := g.once j i (by omega) hi hq ht e
        have := o 0 (by omega)
        rw [sl_zero hi] at this
        omega
    · rintro ⟨h, hk⟩
      obtain ⟨j, hj, rfl⟩ := mem_at.1 h
      by_cases c : ∃ e, e ≤ R.length ∧ j = sl ps.length i e
      · obtain ⟨e, he, rfl⟩ := c
        cases e with
        | zero => rw [sl_zero hi] at hk; exact absurd rfl hk
        | succ e =>
          obtain ⟨w, t⟩ := was e R[e] (List.getElem?_eq_getElem (by omega))
          rw [w]
          exact .inl (List.getElem_mem _)
      · have := same j (fun e he q => c ⟨e, he, q⟩)
        rw [← this]
        exact .inr (at_mem (by omega))

theorem good_del {ps : List Pl} (g : Good ps) (key : Int) :
    Good (delP ps key) ∧ (∀ q : Pl, q.taken = true → (q ∈ delP ps key ↔ q ∈ ps ∧ q.key ≠ key)) ∧ (hasP ps key = true → cnt (delP ps key) + 1 = cnt ps) := by
  unfold hasP
  cases c : (at_ ps (findP ps key)).taken with
  | false =>
    have e : delP ps key = ps := by unfold delP; rw [c]; rfl
    rw [e]
    exact ⟨g, fun q hq => ⟨fun h => ⟨h, (g.lacks_iff key).1 c q h hq⟩, fun h => h.1⟩, fun h => by cases h⟩
  | true =>
    have hi := findP_lt key g.gap
    obtain ⟨z, k⟩ := emptied g hi c (Nat.le_refl _)
    have e : delP ps key = layAll (gone ps (findP ps key)).2 (gone ps (findP ps key)).1 := by unfold delP; rw [c]; rfl
    rw [e]
    have k' : Emptied ps (findP ps key) (gone ps (findP ps key)).1 (gone ps (findP ps key)).2 z := k
    obtain ⟨a1, a2, a3, a4, a5⟩ := k'.all g hi c
    have lt := cnt_of_gap g.gap
    have hk := findP_key g.gap c
    obtain ⟨b1, b2, b3⟩ := layAll_good _ _ (k'.good g hi) (by rw [(k'.cell hi).1]; omega) a2 a3 a4
    refine ⟨b1, fun q hq => ?_, fun _ => by rw [b2]; omega⟩
    rw [b3 q hq, a5 q hq, hk]

/-- as the document's own table does it: one by one -/
theorem del_relay {ps : List Pl} (g : Good ps) {key : Int} (h : hasP ps key = true) {f : Nat} (hf : ps.length ≤ f + 1) : delP ps key = relay f (ps.set (findP ps key) Pl.none_) (sl ps.length (findP ps key) 1) := by
  have hi := findP_lt key g.gap
  obtain ⟨z, k⟩ := emptied g hi h (Nat.le_refl _)
  have e : delP ps key = layAll (gone ps (findP ps key)).2 (gone ps (findP ps key)).1 := by unfold delP; unfold hasP at h; rw [h]; rfl
  rw [e]
  have k' : Emptied ps (findP ps key) (gone ps (findP ps key)).1 (gone ps (findP ps key)).2 z := k
  have := k'.far
  exact relay_eq _ f _ _ _ _ (by omega) k'.rel

theorem good_put {ps : List Pl} (g : Good ps) (key n : Int) :
    Good (putP ps key n).1 ∧ (∀ q : Pl, q.taken = true → (q ∈ (putP ps key n).1 ↔ ((putP ps key n).2 = 0 ∧ q = ⟨true, key, n⟩) ∨ (q ∈ ps ∧ q.key ≠ key))) := by
  by_cases h1 : key < 0 ∨ 1048576 < key
  · have e : putP ps key n = (ps, 1) := by unfold putP; rw [if_pos h1]
    rw [e]
    refine ⟨g, fun q hq => ⟨fun h => .inr ⟨h, fun c => ?_⟩, fun h => ?_⟩⟩
    · obtain ⟨i, hi, e⟩ := mem_at.1 (show q ∈ ps from h)
      have := g.right i hi (by rw [e]; exact hq)
      rw [e] at this
      omega
    · rcases h with ⟨h, _⟩ | h
      · cases h
      · exact h.1
  · by_cases h2 : (at_ ps (findP ps key)).taken = false ∧ cnt ps + 1 = ps.length
    · have e : putP ps key n = (ps, 2) := by unfold putP; rw [if_neg h1, if_pos h2]
      rw [e]
      refine ⟨g, fun q hq => ⟨fun h => .inr ⟨h, (g.lacks_iff key).1 h2.1 q h hq⟩, fun h => ?_⟩⟩
      rcases h with ⟨h, _⟩ | h
      · cases h
      · exact h.1
    · have e : putP ps key n = (ps.set (findP ps key) ⟨true, key, n⟩, 0) := by unfold putP; rw [if_neg h1, if_neg h2]
      rw [e]
      have lt := findP_lt key g.gap
      cases c : (at_ ps (findP ps key)).taken with
      | false =>
        have hc := cnt_of_gap g.gap
        have hl := (g.lacks_iff key).1 c
        have nc := cnt_new lt c (p := ⟨true, key, n⟩) rfl
        refine ⟨g.lay (p := ⟨true, key, n⟩) rfl (by simp; omega) c (gap_of_cnt ?_), fun q hq => ?_⟩
        · show cnt (ps.set (findP ps key) ⟨true, key, n⟩) < _
          rw [nc, List.length_set]
          have : ¬ cnt ps + 1 = ps.length := fun q => h2 ⟨c, q⟩
          omega
        · rw [mem_new lt c hq]
          constructor
          · rintro (h | h)
            · exact .inl ⟨rfl, h⟩
            · exact .inr ⟨h, hl q h hq⟩
          · rintro (h | h)
            · exact .inl h.2
            · exact .inr h.1
      | true =>
        refine ⟨g.over n c, fun q hq => ?_⟩
        have hk := findP_key g.gap c
        show q ∈ ps.set (findP ps key) ⟨true, key, n⟩ ↔ _
        rw [mem_at]
        constructor
        · rintro ⟨j, hj, rfl⟩
          rw [List.length_set] at hj
          rw [at_set lt] at hq ⊢
          split
          · exact .inl ⟨rfl, rfl⟩
          · rename_i ne
            rw [if_neg ne] at hq
            refine .inr ⟨at_mem hj, fun e => ne ?_⟩
            exact g.once j _ hj lt hq c (by rw [e, hk])
        · rintro (⟨_, rfl⟩ | ⟨h, hne⟩)
          · exact ⟨_, by simpa using lt, at_set_same lt _⟩
          · obtain ⟨j, hj, rfl⟩ := mem_at.1 h
            refine ⟨j, by simpa using hj, ?_⟩
            rw [at_set_other lt _ (fun e => hne (by rw [e, hk]))]
/-- what is had, and its number -/
theorem Good.get {ps : List Pl} (g : Good ps) (key : Int) : (hasP ps key = true → (⟨true, key, numP ps key⟩ : Pl) ∈ ps) ∧ (hasP ps key = false → numP ps key = 0) ∧ ∀ n, (⟨true, key, n⟩ : Pl) ∈ ps → hasP ps key = true ∧ numP ps key = n := by
  have lt := findP_lt key g.gap
  refine ⟨fun h => ?_, fun h => ?_, fun n h => ?_⟩
  · have e : at_ ps (findP ps key) = ⟨true, key, numP ps key⟩ := by
      have h1 := findP_key g.gap h
      unfold hasP at h
      unfold numP
      generalize at_ ps (findP ps key) = p at *
      obtain ⟨a, b, c⟩ := p
      simp only at h h1 ⊢
      rw [h, h1]
    rw [← e]
    exact at_mem lt
  · unfold numP
    rw [g.clean _ lt h]
    rfl
  · obtain ⟨i, hi, e⟩ := mem_at.1 h
    have f := g.has (key := key) hi (by rw [e]) (by rw [e])
    unfold hasP numP
    rw [f, e]
    exact ⟨rfl, rfl⟩
theorem keys_mem {ps : List Pl} {x : Int} : x ∈ keysP ps ↔ ∃ n, (⟨true, x, n⟩ : Pl) ∈ ps := by
  unfold keysP
  rw [List.mem_mergeSort, List.mem_map]
  constructor
  · rintro ⟨p, hp, rfl⟩
    rw [List.mem_filter] at hp
    obtain ⟨a, b, c⟩ := p
    simp only at hp
    exact ⟨c, by rw [hp.2] at hp; exact hp.1⟩
  · rintro ⟨n, h⟩
    exact ⟨_, List.mem_filter.2 ⟨h, rfl⟩, rfl⟩
theorem keys_len (ps : List Pl) : (keysP ps).length = cnt ps := by
  unfold keysP cnt
  rw [List.length_mergeSort, List.length_map, List.countP_eq_length_filter]
theorem filter_once : ∀ (ps : List Pl), (∀ i j, i < ps.length → j < ps.length → (at_ ps i).taken = true → (at_ ps j).taken = true → (at_ ps i).key = (at_ ps j).key → i = j) → ((ps.filter (·.taken)).map (·.key)).Nodup := by
  intro ps
  induction ps with
  | nil => intro _; simp
  | cons p ps ih =>
    intro h
    have t : ((ps.filter (·.taken)).map (·.key)).Nodup := ih (fun i j hi hj a b e => by
      have := h (i + 1) (j + 1) (by simp; omega) (by simp; omega) a b e
      omega)
    rw [List.filter_cons]
    split
    · rename_i hp
      rw [List.map_cons, List.nodup_cons]
      refine ⟨fun m => ?_, t⟩
      obtain ⟨q, hq, e⟩ := List.mem_map.1 m
      obtain ⟨hq1, hq2⟩ := List.mem_filter.1 hq
      obtain ⟨i, hi, rfl⟩ := mem_at.1 hq1
      have := h 0 (i + 1) (by simp) (by simp; omega) hp hq2 e.symm
      omega
    · exact t
theorem keys_rise {ps : List Pl} (g : Good ps) : (keysP ps).Pairwise (fun a b => a < b) := by
  have n : (keysP ps).Nodup := (List.mergeSort_perm _ _).nodup_iff.2 (filter_once ps g.once)
  have s : (keysP ps).Pairwise (fun a b => a ≤ b) := by
    have := List.pairwise_mergeSort (le := fun (x y : Int) => decide (x ≤ y)) (by simp; omega) (by simp; omega) ((ps.filter (·.taken)).map (·.key))
    exact this.imp (by simp)
  have := List.Pairwise.and s n
  exact this.imp (fun ⟨a, b⟩ => by omega)
theorem far_bound {ps : List Pl} (g : Good ps) {key : Int} (h : hasP ps key = true) : 0 ≤ farP ps key ∧ farP ps key < cnt ps := by
  unfold farP
  rw [if_pos h]
  have fo := found key g.gap
  have := cnt_run (findK ps key + 1) ps (hm_lt g.pos key) (by have := fo.lt; omega) (fun j hj => by
    rcases Nat.lt_or_ge j (findK ps key) with c | c
    · exact g.path c
    · obtain rfl : j = findK ps key := by omega
      exact h)
  omega
end Go.Proofs.Ytajphhalneaihaa

/- Plain facts of tables: a key goes, those behind it are laid again. Of no program. -/
import Derived.Test.YtajphhalneaihaaTab
namespace Go.Proofs.Ytajphhalneaihaa
set_option linter.unusedVariables false

/-- what lies from a place on, up to the next empty one, and the table without it -/
def lift : Nat → List Pl → Nat → List Pl × List Pl
  | 0, s, _ => ([], s)
  | f + 1, s, i => if (at_ s i).taken then (at_ s i :: (lift f (s.set i Pl.none_) (sl s.length i 1)).1, (lift f (s.set i Pl.none_) (sl s.length i 1)).2) else ([], s)
def lay1 (t : List Pl) (p : Pl) : List Pl := t.set (findP t p.key) p
def layAll (t : List Pl) (l : List Pl) : List Pl := l.foldl lay1 t
/-- one by one -/
def relay : Nat → List Pl → Nat → List Pl
  | 0, s, _ => s
  | f + 1, s, i => if (at_ s i).taken then relay f (lay1 (s.set i Pl.none_) (at_ s i)) (sl s.length i 1) else s

theorem lay1_len (t : List Pl) (p : Pl) : (lay1 t p).length = t.length := by unfold lay1; simp
theorem layAll_len (l : List Pl) : ∀ t, (layAll t l).length = t.length := by
  induction l with
  | nil => intro t; rfl
  | cons p l ih => intro t; show (layAll (lay1 t p) l).length = _; rw [ih, lay1_len]
theorem lift_none {f : Nat} {s : List Pl} {i : Nat} (h : (at_ s i).taken = false) : lift f s i = ([], s) := by
  cases f with
  | zero => rfl
  | succ f => unfold lift; rw [h]; simp
theorem lift_some {f : Nat} {s : List Pl} {i : Nat} (h : (at_ s i).taken = true) : lift (f + 1) s i = (at_ s i :: (lift f (s.set i Pl.none_) (sl s.length i 1)).1, (lift f (s.set i Pl.none_) (sl s.length i 1)).2) := by
  rw [lift, if_pos h]
theorem relay_none {f : Nat} {s : List Pl} {i : Nat} (h : (at_ s i).taken = false) : relay f s i = s := by
  cases f with
  | zero => rfl
  | succ f => unfold relay; rw [h]; simp
theorem relay_some {f : Nat} {s : List Pl} {i : Nat} (h : (at_ s i).taken = true) : relay (f + 1) s i = relay f (lay1 (s.set i Pl.none_) (at_ s i)) (sl s.length i 1) := by
  rw [relay, if_pos h]

structure Lifted (U : List Pl) (a : Nat) (R T : List Pl) : Prop where
  len : T.length = U.length
  few : R.length < U.length
  was : ∀ e p, R[e]? = some p → at_ U (sl U.length a e) = p ∧ p.taken = true
  gone : ∀ e, e < R.length → at_ T (sl U.length a e) = Pl.none_
  same : ∀ j, (∀ e, e < R.length → j ≠ sl U.length a e) → at_ T j = at_ U j
  last : (at_ U (sl U.length a R.length)).taken = false

theorem lift_spec : ∀ (f d : Nat) (U : List Pl) (a : Nat), a < U.length → d < U.length → (at_ U (sl U.length a d)).taken = false → cnt U ≤ f →
    (lift f U a).1.length ≤ d ∧ Lifted U a (lift f U a).1 (lift f U a).2 := by
  intro f
  induction f with
  | zero =>
    intro d U a ha hd ht hc
    have : (at_ U a).taken = false := by
      cases h : (at_ U a).taken with
      | false => rfl
      | true => have := cnt_pos ha h; omega
    rw [lift_none this]
    refine ⟨Nat.zero_le _, rfl, by simp; omega, fun e p h => by simp at h, fun e h => by simp at h, fun j _ => rfl, ?_⟩
    simp only [List.length_nil]
    rw [sl_zero ha]; exact this
  | succ f ih =>
    intro d U a ha hd ht hc
    cases h : (at_ U a).taken with
    | false =>
      rw [lift_none h]
      refine ⟨Nat.zero_le _, rfl, by simp; omega, fun e p h => by simp at h, fun e h => by simp at h, fun j _ => rfl, ?_⟩
      simp only [List.length_nil]
      rw [sl_zero ha]; exact h
    | true =>
      have d1 : 1 ≤ d := by
        rcases Nat.eq_zero_or_pos d with z | z
        · subst z; rw [sl_zero ha, h] at ht; cases ht
        · exact z
      have cc := cnt_clear ha h
      have a1 : sl U.length a 1 < U.length := sl_lt ha (by omega)
      have e1 : ∀ e, e + 1 < U.length → sl U.length (sl U.length a 1) e = sl U.length a (e + 1) := fun e he => by
        rw [sl_sl ha (by omega) (by omega), Nat.add_comm]
      have L : (U.set a Pl.none_).length = U.length := by simp
      obtain ⟨hl, k⟩ := ih (d - 1) (U.set a Pl.none_) (sl U.length a 1) (by rw [L]; exact a1) (by rw [L]; omega) (by
        rw [L, e1 (d - 1) (by omega), show d - 1 + 1 = d by omega, at_set ha]
        split
        · rfl
        · exact ht) (by omega)
      rw [lift_some h]
      generalize lift f (U.set a Pl.none_) (sl U.length a 1) = r at hl k ⊢
      obtain ⟨R, T⟩ := r
      simp only at hl k ⊢
      have far : ∀ e, e + 1 < U.length → sl U.length a (e + 1) ≠ a := fun e he q => by
        have := sl_inj (k := 0) ha he (by omega) (q.trans (sl_zero ha).symm)
        omega
      refine ⟨by simp; omega, by rw [k.len, L], by simp; omega, ?_, ?_, ?_, ?_⟩
      · intro e p hp
        cases e with
        | zero =>
          simp at hp
          subst hp
          rw [sl_zero ha]
          exact ⟨rfl, h⟩
        | succ e =>
          simp at hp
          have hlt : e < R.length := (List.getElem?_eq_some_iff.1 hp).1
          have := k.was e p hp
          rw [L, e1 e (by omega), at_set_other ha _ (far e (by omega))] at this
          exact this
      · intro e he
        cases e with
        | zero =>
          rw [sl_zero ha, k.same a ?_, at_set_same ha]
          intro e he2
          rw [L, e1 e (by omega)]
          exact fun q => far e (by omega) q.symm
        | succ e =>
          simp at he
          have := k.gone e he
          rwa [L, e1 e (by omega)] at this
      · intro j hj
        have ja : j ≠ a := by
          have := hj 0 (by simp)
          rwa [sl_zero ha] at this
        rw [k.same j ?_, at_set_other ha _ ja]
        intro e he
        rw [L, e1 e (by omega)]
        exact hj (e + 1) (by simp; omega)
      · have := k.last
        rw [L, e1 R.length (by omega), at_set_other ha _ (far _ (by omega))] at this
        simpa using this

theorem found_same {T U : List Pl} (hl : T.length = U.length) {key : Int} {k f : Nat} (hT : Found T key k) (hk : k ≤ f) (h : ∀ j, j ≤ f → at_ U (sl U.length (hm U.length key) j) = at_ T (sl U.length (hm U.length key) j)) : findP U key = findP T key := by
  have fU : Found U key k := by
    refine ⟨by have := hT.lt; omega, ?_, fun j hj => ?_⟩
    · have := hT.here
      unfold stop at this ⊢
      rw [hl] at this
      rw [h k hk]; exact this
    · have := hT.before j hj
      unfold stop at this ⊢
      rw [hl] at this
      rw [h j (by omega)]; exact this
  unfold findP
  rw [found_of fU, found_of hT, hl]

/-- U is T, and R from place a on, up to place z -/
structure Rel (T U : List Pl) (a : Nat) (R : List Pl) (z : Nat) : Prop where
  l : Lifted U a R T
  ina : a < U.length
  atz : sl U.length a R.length = z
  clean : Clean U
  path : ∀ e p, R[e]? = some p → ∃ f, f < U.length ∧ sl U.length (hm U.length p.key) f = sl U.length a e ∧ ∀ j, j ≤ f → sl U.length (hm U.length p.key) j ≠ z

theorem relay_eq : ∀ (R : List Pl) (f : Nat) (T U : List Pl) (a z : Nat), R.length ≤ f → Rel T U a R z → layAll T R = relay f U a := by
  intro R
  induction R with
  | nil =>
    intro f T U a z _ h
    have hl := h.l.last
    simp only [List.length_nil] at hl
    rw [sl_zero h.ina] at hl
    rw [relay_none hl]
    exact at_ext h.l.len (fun i _ => h.l.same i (fun e he => by simp at he))
  | cons p R ih =>
    intro f T U a z hf h
    obtain ⟨f, rfl⟩ : ∃ g, f = g + 1 := ⟨f - 1, by simp at hf; omega⟩
    have ha := h.ina
    have few := h.l.few
    simp only [List.length_cons] at few hf
    have len := h.l.len
    obtain ⟨w0, t0⟩ := h.l.was 0 p rfl
    rw [sl_zero ha] at w0
    have g0 := h.l.gone 0 (by simp)
    rw [sl_zero ha] at g0
    rw [relay_some (by rw [w0]; exact t0), w0]
    show layAll (lay1 T p) R = _
    obtain ⟨k, hk, ek, av⟩ := h.path 0 p rfl
    rw [sl_zero ha] at ek
    have pos : 0 < U.length := by omega
    have hh := hm_lt pos p.key
    -- the places up to a: none of them is one of those behind
    have apart : ∀ j, j ≤ k → ∀ e, 1 ≤ e → e < R.length + 1 → sl U.length (hm U.length p.key) j ≠ sl U.length a e := by
      intro j hj e he1 he2 q
      have hz := h.atz
      simp only [List.length_cons] at hz
      have o1 := sl_or U.length (hm U.length p.key) j
      have o2 := sl_or U.length (hm U.length p.key) k
      have o3 := sl_or U.length a e
      have o4 := sl_or U.length a (R.length + 1)
      have av' := av (j + (R.length + 1 - e))
      have o5 := sl_or U.length (hm U.length p.key) (j + (R.length + 1 - e))
      by_cases c : j + (R.length + 1 - e) ≤ k
      · have := av' c
        omega
      · omega
    have gapT : Gap T := ⟨a, by omega, by rw [g0]; rfl⟩
    have fT := found p.key gapT
    have kk : findK T p.key ≤ k := by
      rcases Nat.lt_or_ge k (findK T p.key) with c | c
      · have := fT.before k c
        rw [len, ek] at this
        unfold stop at this
        rw [g0] at this
        simp [Pl.none_] at this
      · exact c
    have same : ∀ j, j ≤ k → at_ (U.set a Pl.none_) (sl U.length (hm U.length p.key) j) = at_ T (sl U.length (hm U.length p.key) j) := by
      intro j hj
      by_cases e : sl U.length (hm U.length p.key) j = a
      · rw [e, at_set_same ha, g0]
      · rw [at_set_other ha _ e]
        symm
        refine h.l.same _ (fun e' he' => ?_)
        simp only [List.length_cons] at he'
        cases e' with
        | zero => rw [sl_zero ha]; exact e
        | succ e' => exact apart j hj (e' + 1) (by omega) he'
    have fe : findP (U.set a Pl.none_) p.key = findP T p.key := found_same (by simp [len]) fT kk (fun j hj => by rw [List.length_set]; exact same j hj)
    have qe : findP T p.key = sl U.length (hm U.length p.key) (findK T p.key) := by unfold findP; rw [len]
    have lt : findP T p.key < U.length := by have := findP_lt p.key gapT; omega
    unfold lay1
    rw [fe]
    have q1 : ∀ e, 1 ≤ e → e < R.length + 1 → findP T p.key ≠ sl U.length a e := fun e h1 h2 => by
      rw [qe]; exact apart _ kk e h1 h2
    have qz : findP T p.key ≠ z := by rw [qe]; exact av _ kk
    generalize findP T p.key = q at *
    have e1 : ∀ e, e + 1 < U.length → sl U.length (sl U.length a 1) e = sl U.length a (e + 1) := fun e he => by
      rw [sl_sl ha (by omega) (by omega), Nat.add_comm]
    have far : ∀ e, e + 1 < U.length → sl U.length a (e + 1) ≠ a := fun e he q => by
      have := sl_inj (k := 0) ha he (by omega) (q.trans (sl_zero ha).symm)
      omega
    have LU : ((U.set a Pl.none_).set q p).length = U.length := by simp
    have atU : ∀ j, at_ ((U.set a Pl.none_).set q p) j = if j = q then p else if j = a then Pl.none_ else at_ U j := fun j => by
      rw [at_set (by simpa using lt), at_set ha]
    refine ih f _ _ _ z (by omega) ⟨⟨?_, ?_, ?_, ?_, ?_, ?_⟩, ?_, ?_, ?_, ?_⟩
    · simp [len]
    · rw [LU]; omega
    · intro e r hr
      have hlt : e < R.length := (List.getElem?_eq_some_iff.1 hr).1
      have := h.l.was (e + 1) r (by simpa using hr)
      rw [LU, e1 e (by omega), atU, if_neg (fun q' => q1 (e + 1) (by omega) (by omega) q'.symm), if_neg (far e (by omega))]
      exact this
    · intro e he
      rw [LU, e1 e (by omega), at_set_other (by omega) _ (fun q' => q1 (e + 1) (by omega) (by omega) q'.symm)]
      exact h.l.gone (e + 1) (by simp; omega)
    · intro j hj
      rw [LU] at hj
      rw [atU, at_set (by omega)]
      by_cases c : j = q
      · simp [c]
      · rw [if_neg c, if_neg c]
        by_cases c2 : j = a
        · rw [if_pos c2, c2]; exact g0
        · rw [if_neg c2]
          refine h.l.same j (fun e he => ?_)
          cases e with
          | zero => rw [sl_zero ha]; exact c2
          | succ e =>
            simp only [List.length_cons] at he
            have := hj e (by omega)
            rwa [e1 e (by omega)] at this
    · have hz := h.atz
      have hl := h.l.last
      simp only [List.length_cons] at hz hl
      rw [LU, e1 _ (by omega), atU, if_neg (fun c => qz (by rw [← c, hz])), if_neg (far _ (by omega))]
      exact hl
    · rw [LU]; exact sl_lt ha (by omega)
    · rw [LU, e1 _ (by omega)]
      have hz := h.atz
      simpa using hz
    · intro j hj ht
      rw [LU] at hj
      rw [atU] at ht ⊢
      split at ht
      · rw [t0] at ht; cases ht
      · rw [if_neg (by assumption)]
        split
        · rfl
        · rename_i c1 c2
          rw [if_neg c2] at ht
          exact h.clean j hj ht
    · intro e r hr
      have hlt : e < R.length := (List.getElem?_eq_some_iff.1 hr).1
      have := h.path (e + 1) r (by simpa using hr)
      rw [LU, e1 e (by omega)]
      exact this

/-- the table without a key, and those behind it -/
structure Emptied (ps : List Pl) (i : Nat) (R T : List Pl) (z : Nat) : Prop where
  l : Lifted (ps.set i Pl.none_) (sl ps.length i 1) R T
  rel : Rel T (ps.set i Pl.none_) (sl ps.length i 1) R z
  atz : sl ps.length i (R.length + 1) = z
  far : R.length + 1 < ps.length
  zt : (at_ ps z).taken = false

theorem emptied {ps : List Pl} (g : Good ps) {i : Nat} (hi : i < ps.length) (ht : (at_ ps i).taken = true) {f : Nat} (hf : cnt ps ≤ f) :
    ∃ z, Emptied ps i (lift f (ps.set i Pl.none_) (sl ps.length i 1)).1 (lift f (ps.set i Pl.none_) (sl ps.length i 1)).2 z := by
  obtain ⟨y, hy, hyt⟩ := g.gap
  obtain ⟨d, hd, ed⟩ := sl_all hi hy
  have d1 : 1 ≤ d := by
    rcases Nat.eq_zero_or_pos d with c | c
    · subst c; rw [sl_zero hi] at ed; subst ed; rw [ht] at hyt; cases hyt
    · exact c
  have L : (ps.set i Pl.none_).length = ps.length := by simp
  have cc := cnt_clear hi ht
  have a1 : sl ps.length i 1 < ps.length := sl_lt hi (by omega)
  have e1 : ∀ e, e + 1 < ps.length → sl ps.length (sl ps.length i 1) e = sl ps.length i (e + 1) := fun e he => by
    rw [sl_sl hi (by omega) (by omega), Nat.add_comm]
  have far : ∀ e, e + 1 < ps.length → sl ps.length i (e + 1) ≠ i := fun e he q => by
    have := sl_inj (k := 0) hi he (by omega) (q.trans (sl_zero hi).symm)
    omega
  obtain ⟨hl, k⟩ := lift_spec f (d - 1) (ps.set i Pl.none_) (sl ps.length i 1) (by rw [L]; exact a1) (by rw [L]; omega) (by
    rw [L, e1 (d - 1) (by omega), show d - 1 + 1 = d by omega, ed, at_set hi]
    split
    · rfl
    · exact hyt) (by omega)
  generalize lift f (ps.set i Pl.none_) (sl ps.length i 1) = r at hl k ⊢
  obtain ⟨R, T⟩ := r
  simp only at hl k ⊢
  have zt : (at_ ps (sl ps.length i (R.length + 1))).taken = false := by
    have := k.last
    rw [L, e1 _ (by omega), at_set_other hi _ (far _ (by omega))] at this
    exact this
  refine ⟨sl ps.length i (R.length + 1), k, ⟨k, by rw [L]; exact a1, by rw [L]; exact e1 R.length (by omega), ?_, ?_⟩, rfl, by omega, zt⟩
  · intro j hj hjt
    rw [L] at hj
    rw [at_set hi] at hjt ⊢
    split
    · rfl
    · rename_i c
      rw [if_neg c] at hjt
      exact g.clean j hj hjt
  · intro e p hp
    have hlt : e < R.length := (List.getElem?_eq_some_iff.1 hp).1
    obtain ⟨w, t⟩ := k.was e p hp
    rw [L, e1 e (by omega), at_set_other hi _ (far e (by omega))] at w
    have lt : sl ps.length i (e + 1) < ps.length := sl_lt hi (by omega)
    obtain ⟨m, hm_, em, bm⟩ := g.near _ lt (by rw [w]; exact t)
    rw [w] at em bm
    refine ⟨m, by rw [L]; exact hm_, by rw [L, e1 e (by omega)]; exact em, fun j hj q => ?_⟩
    rw [L] at q
    rcases Nat.lt_or_ge j m with c | c
    · have := bm j c
      rw [q, zt] at this
      cases this
    · obtain rfl : j = m := by omega
      rw [em] at q
      have := sl_inj hi (by omega) (by omega) q
      omega

theorem Emptied.cell {ps : List Pl} {i : Nat} {R T : List Pl} {z : Nat} (k : Emptied ps i R T z) (hi : i < ps.length) :
    T.length = ps.length ∧ (∀ e, e ≤ R.length → at_ T (sl ps.length i e) = Pl.none_) ∧ (∀ j, (∀ e, e ≤ R.length → j ≠ sl ps.length i e) → at_ T j = at_ ps j) ∧ (∀ e p, R[e]? = some p → at_ ps (sl ps.length i (e + 1)) = p ∧ p.taken = true) := by
  have L : (ps.set i Pl.none_).length = ps.length := by simp
  have fa := k.far
  have e1 : ∀ e, e + 1 < ps.length → sl ps.length (sl ps.length i 1) e = sl ps.length i (e + 1) := fun e he => by
    rw [sl_sl hi (by omega) (by omega), Nat.add_comm]
  have far : ∀ e, e + 1 < ps.length → sl ps.length i (e + 1) ≠ i := fun e he q => by
    have := sl_inj (k := 0) hi he (by omega) (q.trans (sl_zero hi).symm)
    omega
  refine ⟨by rw [k.l.len, L], ?_, ?_, ?_⟩
  · intro e he
    cases e with
    | zero =>
      rw [sl_zero hi, k.l.same i ?_, at_set_same hi]
      intro e he2
      rw [L, e1 e (by omega)]
      exact fun q => far e (by omega) q.symm
    | succ e =>
      have := k.l.gone e (by omega)
      rwa [L, e1 e (by omega)] at this
  · intro j hj
    have ja : j ≠ i := by
      have := hj 0 (by omega)
      rwa [sl_zero hi] at this
    rw [k.l.same j ?_, at_set_other hi _ ja]
    intro e he
    rw [L, e1 e (by omega)]
    exact hj (e + 1) (by omega)
  · intro e p hp
    have hlt : e < R.length := (List.getElem?_eq_some_iff.1 hp).1
    have := k.l.was e p hp
    rwa [L, e1 e (by omega), at_set_other hi _ (far e (by omega))] at this

theorem Emptied.good {ps : List Pl} (g : Good ps) {i : Nat} (hi : i < ps.length) {R T : List Pl} {z : Nat} (k : Emptied ps i R T z) : Good T := by
  obtain ⟨len, gone, same, was⟩ := k.cell hi
  have pos := g.pos
  have fa := k.far
  -- what is taken in T stands outside, and is as it was
  have out : ∀ j, (at_ T j).taken = true → (∀ e, e ≤ R.length → j ≠ sl ps.length i e) ∧ at_ T j = at_ ps j := by
    intro j hj
    have h1 : ∀ e, e ≤ R.length → j ≠ sl ps.length i e := fun e he q => by
      rw [q, gone e he] at hj
      cases hj
    exact ⟨h1, same j h1⟩
  refine ⟨⟨i, by omega, ?_⟩, ?_, ?_, ?_, ?_⟩
  · have := gone 0 (by omega)
    rw [sl_zero hi] at this
    rw [this]; rfl
  · intro j hj ht
    by_cases c : ∃ e, e ≤ R.length ∧ j = sl ps.length i e
    · obtain ⟨e, he, rfl⟩ := c
      exact gone e he
    · have := same j (fun e he q => c ⟨e, he, q⟩)
      rw [this] at ht ⊢
      exact g.clean j (by omega) ht
  · intro x hx ht
    obtain ⟨o, ex⟩ := out x ht
    rw [ex] at ht ⊢
    rw [len] at hx ⊢
    obtain ⟨m, hm_, em, bm⟩ := g.near x hx ht
    refine ⟨m, hm_, em, fun j hj => ?_⟩
    rw [same _ ?_]
    · exact bm j hj
    · intro e he q
      have hh := hm_lt pos (at_ ps x).key
      have hz := k.atz
      have zt := k.zt
      generalize hm ps.length (at_ ps x).key = h at *
      have o1 := sl_or ps.length h j
      have o2 := sl_or ps.length h m
      have o3 := sl_or ps.length i e
      have o4 := sl_or ps.length i (R.length + 1)
      have o5 := sl_or ps.length h (j + (R.length + 1 - e))
      have o6 := sl_or ps.length i (e + (m - j))
      by_cases c : j + (R.length + 1 - e) < m
      · have t := bm _ c
        have : sl ps.length h (j + (R.length + 1 - e)) = z := by omega
        rw [this, zt] at t
        cases t
      · by_cases c2 : j + (R.length + 1 - e) = m
        · have : x = z := by omega
          rw [this, zt] at ht
          cases ht
        · exact o (e + (m - j)) (by omega) (by omega)
  · intro a b ha hb hta htb e
    have ea := (out a hta).2
    have eb := (out b htb).2
    rw [ea] at hta e
    rw [eb] at htb e
    exact g.once a b (by omega) (by omega) hta htb e
  · intro a ha hta
    have ea := (out a hta).2
    rw [ea] at hta ⊢
    exact g.right a (by omega) hta
end Go.Proofs.Ytajphhalneaihaa

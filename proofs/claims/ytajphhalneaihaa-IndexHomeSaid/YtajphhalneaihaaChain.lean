/- Plain facts of tables in which all keys have one home. Of no program. -/
import Derived.Test.YtajphhalneaihaaTabOps
namespace Go.Proofs.Ytajphhalneaihaa
set_option linter.unusedVariables false

/-- these lie one behind the other from h on; nothing else does -/
structure Chain (ps : List Pl) (N h : Nat) (L : List Pl) : Prop where
  good : Good ps
  len : ps.length = N
  hN : h < N
  few : L.length < N
  cnt : cnt ps = L.length
  lies : ∀ j q, L[j]? = some q → at_ ps (sl N h j) = q
  rest : ∀ j, L.length ≤ j → j < N → at_ ps (sl N h j) = Pl.none_
  same : ∀ q ∈ L, q.taken = true ∧ hm N q.key = h
  once : (L.map (·.key)).Nodup

theorem once_at {L : List Pl} (h : (L.map (·.key)).Nodup) {i j : Nat} {p q : Pl} (hi : L[i]? = some p) (hj : L[j]? = some q) (e : p.key = q.key) : i = j := by
  obtain ⟨li, ei⟩ := List.getElem?_eq_some_iff.1 hi
  obtain ⟨lj, ej⟩ := List.getElem?_eq_some_iff.1 hj
  unfold List.Nodup at h
  rw [List.pairwise_iff_getElem] at h
  rcases Nat.lt_trichotomy i j with c | c | c
  · have := h i j (by simpa using li) (by simpa using lj) c
    rw [List.getElem_map, List.getElem_map, ei, ej] at this
    exact absurd e this
  · exact c
  · have := h j i (by simpa using lj) (by simpa using li) c
    rw [List.getElem_map, List.getElem_map, ei, ej] at this
    exact absurd e.symm this
theorem Chain.find {ps : List Pl} {N h : Nat} {L : List Pl} (c : Chain ps N h L) {j : Nat} {q : Pl} (hj : L[j]? = some q) : findK ps q.key = j ∧ findP ps q.key = sl N h j ∧ (at_ ps (findP ps q.key)).taken = true := by
  obtain ⟨lj, ej⟩ := List.getElem?_eq_some_iff.1 hj
  have few := c.few
  obtain ⟨tq, hq⟩ := c.same q (List.mem_of_getElem? hj)
  have f : Found ps q.key j := by
    refine ⟨by rw [c.len]; omega, ?_, fun i hi => ?_⟩
    · rw [c.len, hq]
      unfold stop
      rw [c.lies j q hj]
      simp
    · rw [c.len, hq]
      have hi' : L[i]? = some L[i] := List.getElem?_eq_getElem (by omega)
      have e := c.lies i _ hi'
      obtain ⟨ti, _⟩ := c.same _ (List.mem_of_getElem? hi')
      unfold stop
      rw [e, ti]
      have : ¬ (L[i]).key = q.key := fun k => by have := once_at c.once hi' hj k; omega
      simpa using this
  have k := found_of f
  have p : findP ps q.key = sl N h j := by unfold findP; rw [k, c.len, hq]
  refine ⟨k, p, ?_⟩
  rw [p, c.lies j q hj]
  exact tq
theorem Chain.lacks {ps : List Pl} {N h : Nat} {L : List Pl} (c : Chain ps N h L) {key : Int} (hk : hm N key = h) (ha : ∀ q ∈ L, q.key ≠ key) : findP ps key = sl N h L.length ∧ at_ ps (findP ps key) = Pl.none_ := by
  have few := c.few
  have f : Found ps key L.length := by
    refine ⟨by rw [c.len]; omega, ?_, fun i hi => ?_⟩
    · rw [c.len, hk]
      unfold stop
      rw [c.rest _ (Nat.le_refl _) few]
      rfl
    · rw [c.len, hk]
      have hi' : L[i]? = some L[i] := List.getElem?_eq_getElem hi
      have e := c.lies i _ hi'
      obtain ⟨ti, _⟩ := c.same _ (List.mem_of_getElem? hi')
      unfold stop
      rw [e, ti]
      simpa using ha _ (List.getElem_mem hi)
  have k := found_of f
  have p : findP ps key = sl N h L.length := by unfold findP; rw [k, c.len, hk]
  exact ⟨p, by rw [p]; exact c.rest _ (Nat.le_refl _) few⟩
theorem Chain.lay {ps : List Pl} {N h : Nat} {L : List Pl} (c : Chain ps N h L) {p : Pl} (tp : p.taken = true) (h0 : 0 ≤ p.key ∧ p.key ≤ 1048576) (hk : hm N p.key = h) (ha : ∀ q ∈ L, q.key ≠ p.key) (hc : L.length + 1 < N) :
    Chain (lay1 ps p) N h (L ++ [p]) := by
  obtain ⟨e, en⟩ := c.lacks hk ha
  have lk : Lacks ps p.key := (c.good.lacks_iff p.key).1 (by rw [en]; rfl)
  obtain ⟨g1, c1, m1⟩ := c.good.lay1 tp h0 lk (by rw [c.cnt, c.len]; omega)
  have lt := findP_lt p.key c.good.gap
  have hN := c.hN
  refine ⟨g1, by rw [lay1_len, c.len], c.hN, by simp; omega, by rw [c1, c.cnt]; simp, ?_, ?_, ?_, ?_⟩
  · intro j q hj
    unfold lay1
    rcases Nat.lt_or_ge j L.length with k | k
    · rw [List.getElem?_append_left k] at hj
      rw [at_set_other lt _ (fun q => by rw [e] at q; have := sl_inj hN (by omega) (by omega) q; omega)]
      exact c.lies j q hj
    · rw [List.getElem?_append_right k] at hj
      have : j = L.length := by
        rcases Nat.lt_or_ge L.length j with d | d
        · rw [List.getElem?_eq_none (by simp; omega)] at hj; cases hj
        · omega
      subst this
      simp at hj
      subst hj
      rw [← e, at_set_same lt]
  · intro j h1 h2
    simp only [List.length_append, List.length_cons, List.length_nil] at h1
    unfold lay1
    rw [at_set_other lt _ (fun q => by rw [e] at q; have := sl_inj hN (by omega) (by omega) q; omega)]
    exact c.rest j (by omega) h2
  · intro q hq
    rcases List.mem_append.1 hq with d | d
    · exact c.same q d
    · simp at d; subst d; exact ⟨tp, hk⟩
  · rw [List.map_append, List.nodup_append]
    refine ⟨c.once, by simp, ?_⟩
    intro x hx y hy
    simp at hy
    subst hy
    obtain ⟨q, hq, rfl⟩ := List.mem_map.1 hx
    exact ha q hq
theorem Chain.layAll : ∀ (R : List Pl) {ps : List Pl} {N h : Nat} {L : List Pl}, Chain ps N h L → (∀ p ∈ R, p.taken = true ∧ (0 ≤ p.key ∧ p.key ≤ 1048576) ∧ hm N p.key = h) → ((L ++ R).map (·.key)).Nodup → L.length + R.length < N →
    Chain (layAll ps R) N h (L ++ R)
  | [], ps, N, h, L, c, _, _, _ => by rw [List.append_nil]; exact c
  | p :: R, ps, N, h, L, c, hp, hn, hl => by
    simp only [List.length_cons] at hl
    obtain ⟨tp, rp, kp⟩ := hp p List.mem_cons_self
    have ha : ∀ q ∈ L, q.key ≠ p.key := by
      rw [List.map_append, List.nodup_append] at hn
      exact fun q hq => hn.2.2 _ (List.mem_map_of_mem hq) _ (List.mem_map_of_mem List.mem_cons_self)
    have c1 := c.lay tp rp kp ha (by omega)
    have := Chain.layAll R c1 (fun q hq => hp q (List.mem_cons_of_mem _ hq)) (by rw [List.append_assoc]; exact hn) (by simp; omega)
    rw [List.append_assoc] at this
    exact this
theorem Chain.start {N h : Nat} (hN : h < N) : Chain (List.replicate N Pl.none_) N h [] := by
  have a : ∀ i, at_ (List.replicate N Pl.none_) i = Pl.none_ := by
    intro i
    rcases Nat.lt_or_ge i N with h | h
    · exact at_of_get (by simp [h])
    · exact at_beyond (by simpa using h)
  have t : ∀ i, (at_ (List.replicate N Pl.none_) i).taken = true → False := fun i hi => by rw [a] at hi; cases hi
  refine ⟨⟨⟨0, by simp; omega, by rw [a]; rfl⟩, fun i _ _ => a i, fun i _ hi => (t i hi).elim, fun i j _ _ hi _ _ => (t i hi).elim, fun i _ hi => (t i hi).elim⟩, by simp, hN, by simp; omega, ?_, fun j q hj => by simp at hj, fun j _ _ => a _, fun q hq => by simp at hq, by simp⟩
  unfold Go.Proofs.Ytajphhalneaihaa.cnt
  rw [List.countP_replicate]
  rfl
theorem Chain.put {ps : List Pl} {N h : Nat} {L : List Pl} (c : Chain ps N h L) {key : Int} (n : Int) (h0 : 0 ≤ key ∧ key ≤ 1048576) (hk : hm N key = h) (ha : ∀ q ∈ L, q.key ≠ key) (hc : L.length + 1 < N) :
    (putP ps key n).2 = 0 ∧ Chain (putP ps key n).1 N h (L ++ [⟨true, key, n⟩]) := by
  have e : putP ps key n = (lay1 ps ⟨true, key, n⟩, 0) := by
    unfold putP
    rw [if_neg (by omega), if_neg (by rw [c.cnt, c.len]; omega)]
    rfl
  rw [e]
  exact ⟨rfl, c.lay rfl h0 hk ha hc⟩
theorem Chain.del {ps : List Pl} {N h : Nat} {L : List Pl} (c : Chain ps N h L) {k : Nat} {q : Pl} (hk : L[k]? = some q) :
    hasP ps q.key = true ∧ Chain (delP ps q.key) N h (L.take k ++ L.drop (k + 1)) := by
  obtain ⟨f1, f2, f3⟩ := c.find hk
  obtain ⟨lk, ek⟩ := List.getElem?_eq_some_iff.1 hk
  have few := c.few
  have hN := c.hN
  have len := c.len
  refine ⟨f3, ?_⟩
  have hi := findP_lt q.key c.good.gap
  obtain ⟨z, em0⟩ := emptied c.good hi f3 (Nat.le_refl _)
  have e : delP ps q.key = Go.Proofs.Ytajphhalneaihaa.layAll (gone ps (findP ps q.key)).2 (gone ps (findP ps q.key)).1 := by unfold delP; rw [if_pos f3]
  rw [e]
  have em : Emptied ps (findP ps q.key) (gone ps (findP ps q.key)).1 (gone ps (findP ps q.key)).2 z := em0
  clear em0 e
  have gT := em.good c.good hi
  obtain ⟨a1, a2, _, _, _⟩ := em.all c.good hi f3
  obtain ⟨tl, gn, sm, was⟩ := em.cell hi
  have fa := em.far
  have zt := em.zt
  have az := em.atz
  generalize (gone ps (findP ps q.key)).1 = R at *
  generalize (gone ps (findP ps q.key)).2 = T at *
  rw [f2, len] at gn sm was az
  rw [len] at fa tl
  have on : ∀ e, k + e < N → sl N (sl N h k) e = sl N h (k + e) := fun e he => sl_sl hN (by omega) (by omega)
  have r1 : R.length ≤ L.length - (k + 1) := by
    rcases Nat.lt_or_ge (L.length - (k + 1)) R.length with d | d
    · obtain ⟨w, t⟩ := was (L.length - (k + 1)) R[L.length - (k + 1)] (List.getElem?_eq_getElem d)
      rw [on _ (by omega), show k + (L.length - (k + 1) + 1) = L.length by omega, c.rest _ (Nat.le_refl _) few] at w
      rw [← w] at t
      cases t
    · exact d
  have r2 : R.length = L.length - (k + 1) := by
    rcases Nat.lt_or_ge R.length (L.length - (k + 1)) with d | d
    · rw [on _ (by omega)] at az
      have hj : L[k + (R.length + 1)]? = some L[k + (R.length + 1)] := List.getElem?_eq_getElem (by omega)
      have w := c.lies _ _ hj
      rw [az] at w
      rw [w] at zt
      rw [(c.same _ (List.mem_of_getElem? hj)).1] at zt
      cases zt
    · omega
  have eR : R = L.drop (k + 1) := by
    apply List.ext_getElem?
    intro e
    rcases Nat.lt_or_ge e R.length with d | d
    · obtain ⟨w, t⟩ := was e R[e] (List.getElem?_eq_getElem d)
      rw [on _ (by omega)] at w
      rw [List.getElem?_eq_getElem d, List.getElem?_drop, List.getElem?_eq_getElem (show k + 1 + e < L.length by omega)]
      rw [← w]
      exact congrArg some (c.lies (k + (e + 1)) _ (by rw [show k + (e + 1) = k + 1 + e by omega]; exact List.getElem?_eq_getElem (by omega)))
    · rw [List.getElem?_eq_none d, List.getElem?_eq_none (by simp; omega)]
  have cT : Chain T N h (L.take k) := by
    refine ⟨gT, tl, hN, by simp; omega, by rw [List.length_take]; have := c.cnt; omega, ?_, ?_, ?_, ?_⟩
    · intro j p hj
      have lj : j < k := by
        rcases Nat.lt_or_ge j k with d | d
        · exact d
        · rw [List.getElem?_take_eq_none d] at hj; cases hj
      rw [List.getElem?_take_of_lt lj] at hj
      rw [sm _ (fun e he q => by rw [on e (by omega)] at q; have := sl_inj hN (by omega) (by omega) q; omega)]
      exact c.lies j p hj
    · intro j h1 h2
      rw [List.length_take] at h1
      rcases Nat.lt_or_ge j L.length with d | d
      · have := gn (j - k) (by omega)
        rwa [on _ (by omega), show k + (j - k) = j by omega] at this
      · rw [sm _ (fun e he q => by rw [on e (by omega)] at q; have := sl_inj hN (by omega) (by omega) q; omega)]
        exact c.rest j d h2
    · exact fun p hp => c.same p (List.mem_of_mem_take hp)
    · rw [List.map_take]
      exact c.once.sublist (List.take_sublist _ _)
  rw [eR] at a2 ⊢
  refine Chain.layAll _ cT (fun p hp => ⟨(a2 p hp).1, (a2 p hp).2, (c.same p (List.mem_of_mem_drop hp)).2⟩) ?_ (by simp; omega)
  refine c.once.sublist (List.Sublist.map _ ?_)
  have : L = L.take k ++ L.drop k := (List.take_append_drop k L).symm
  have s : (L.take k ++ L.drop (k + 1)).Sublist (L.take k ++ L.drop k) := List.Sublist.append_left (by rw [← List.drop_drop]; exact List.drop_sublist _ _) _
  rw [← this] at s
  exact s
/-- so many keys, each a table's size behind the other -/
def LL (N : Nat) (f : Int) (m : Nat) : List Pl := (List.range m).map (fun i : Nat => ⟨true, f + (i : Int) * N, i⟩)
theorem LL_len (N : Nat) (f : Int) (m : Nat) : (LL N f m).length = m := by unfold LL; simp
theorem LL_at {N : Nat} {f : Int} {m j : Nat} (h : j < m) : (LL N f m)[j]? = some ⟨true, f + (j : Int) * N, j⟩ := by
  unfold LL
  rw [List.getElem?_map, List.getElem?_range h]
  rfl
theorem LL_more (N : Nat) (f : Int) (m : Nat) : LL N f (m + 1) = LL N f m ++ [⟨true, f + (m : Int) * N, m⟩] := by
  unfold LL
  rw [List.range_succ, List.map_append]
  rfl
theorem LL_mem {N : Nat} {f : Int} {m : Nat} {q : Pl} (h : q ∈ LL N f m) : ∃ j, j < m ∧ q = ⟨true, f + (j : Int) * N, j⟩ := by
  unfold LL at h
  obtain ⟨j, hj, rfl⟩ := List.mem_map.1 h
  exact ⟨j, List.mem_range.1 hj, rfl⟩
theorem home_same (N : Nat) (f : Int) (i : Nat) : hm N (f + (i : Int) * N) = hm N f := by
  unfold hm
  rw [Int.add_mul_emod_self_right]
theorem key_inj {N : Nat} {f : Int} (hN : 0 < N) {i j : Nat} (h : f + (i : Int) * N = f + (j : Int) * N) : i = j := by
  have : (i : Int) * N = j * N := by omega
  have := Int.eq_of_mul_eq_mul_right (by omega) this
  omega
theorem home_bd {k P : Nat} (hk : k ≤ 256) (h1 : P ≤ 256) : 0 ≤ (k : Int) * (P : Int) ∧ (k : Int) * (P : Int) ≤ 65536 := by
  refine ⟨Int.mul_nonneg (by omega) (by omega), ?_⟩
  have a1 : (k : Int) * P ≤ 256 * P := Int.mul_le_mul_of_nonneg_right (by omega) (by omega)
  omega
theorem Chain.far {ps : List Pl} {N h : Nat} {L : List Pl} (c : Chain ps N h L) {j : Nat} {q : Pl} (hj : L[j]? = some q) : farP ps q.key = j := by
  obtain ⟨f1, f2, f3⟩ := c.find hj
  unfold farP hasP
  rw [if_pos f3, f1]
theorem Chain.nofar {ps : List Pl} {N h : Nat} {L : List Pl} (c : Chain ps N h L) {key : Int} (hk : hm N key = h) (ha : ∀ q ∈ L, q.key ≠ key) : farP ps key = -1 ∧ hasP ps key = false := by
  obtain ⟨f1, f2⟩ := c.lacks hk ha
  have : hasP ps key = false := by unfold hasP; rw [f2]; rfl
  refine ⟨?_, this⟩
  unfold farP
  rw [this]
  rfl
theorem LL_put {ps : List Pl} {N h m : Nat} {f : Int} (c : Chain ps N h (LL N f m)) (hf : hm N f = h) (hm_ : m + 1 < N) (h0 : 0 ≤ f + (m : Int) * N ∧ f + (m : Int) * N ≤ 1048576) :
    (putP ps (f + (m : Int) * N) m).2 = 0 ∧ Chain (putP ps (f + (m : Int) * N) m).1 N h (LL N f (m + 1)) ∧ farP (putP ps (f + (m : Int) * N) m).1 (f + (m : Int) * N) = m := by
  obtain ⟨a, b⟩ := c.put (key := f + (m : Int) * N) m h0 (by rw [home_same]; exact hf) (fun q hq e => by
    obtain ⟨j, hj, rfl⟩ := LL_mem hq
    have := key_inj (by omega) e
    omega) (by rw [LL_len]; exact hm_)
  rw [← LL_more] at b
  refine ⟨a, b, ?_⟩
  have := b.far (LL_at (show m < m + 1 by omega))
  exact this
theorem LL_gone {ps : List Pl} {N h m k : Nat} {f : Int} (hN : 0 < N) (hf : hm N f = h) (hk : k < m) (c : Chain ps N h ((LL N f m).take k ++ (LL N f m).drop (k + 1))) {i : Nat} (hi : i < m) :
    farP ps (f + (i : Int) * N) = if i = k then -1 else if k < i then (i : Int) - 1 else i := by
  rcases Nat.lt_trichotomy i k with d | d | d
  · rw [if_neg (by omega), if_neg (by omega)]
    have e : ((LL N f m).take k ++ (LL N f m).drop (k + 1))[i]? = some ⟨true, f + (i : Int) * N, i⟩ := by
      rw [List.getElem?_append_left (by rw [List.length_take, LL_len]; omega), List.getElem?_take_of_lt d]
      exact LL_at hi
    exact c.far e
  · subst d
    rw [if_pos rfl]
    refine (c.nofar (by rw [home_same]; exact hf) (fun q hq e => ?_)).1
    rcases List.mem_append.1 hq with a | a
    · obtain ⟨j, hj, ej⟩ := List.getElem_of_mem a
      rw [List.length_take, LL_len] at hj
      have := LL_at (N := N) (f := f) (show j < m by omega)
      have e2 : ((LL N f m).take i)[j]? = some q := by rw [List.getElem?_eq_getElem (by rw [List.length_take, LL_len]; omega), ej]
      rw [List.getElem?_take_of_lt (by omega), this] at e2
      injection e2 with e2
      rw [← e2] at e
      have := key_inj hN e
      omega
    · obtain ⟨j, hj, ej⟩ := List.getElem_of_mem a
      rw [List.length_drop, LL_len] at hj
      have := LL_at (N := N) (f := f) (show i + 1 + j < m by omega)
      have e2 : ((LL N f m).drop (i + 1))[j]? = some q := by rw [List.getElem?_eq_getElem (by rw [List.length_drop, LL_len]; omega), ej]
      rw [List.getElem?_drop, this] at e2
      injection e2 with e2
      rw [← e2] at e
      have := key_inj hN e
      omega
  · rw [if_neg (by omega), if_pos d]
    have e : ((LL N f m).take k ++ (LL N f m).drop (k + 1))[i - 1]? = some ⟨true, f + (i : Int) * N, i⟩ := by
      rw [List.getElem?_append_right (by rw [List.length_take, LL_len]; omega), List.length_take, LL_len, List.getElem?_drop, show k + 1 + (i - 1 - min k m) = i by omega]
      exact LL_at hi
    have := c.far e
    simp only at this
    rw [this]
    omega
theorem del_none {ps : List Pl} {key : Int} (h : hasP ps key = false) : delP ps key = ps := by
  unfold hasP at h
  unfold delP
  rw [h]
  rfl
end Go.Proofs.Ytajphhalneaihaa

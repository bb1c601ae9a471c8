/- Who reads one block behind the other, told by lists: plain facts. -/
import Derived.Test.YtfmmmiiohaaegaaTap
import Derived.Test.YtfmmmiiohaaegaaAmpTune
namespace Go.Proofs.Ytfmmmiiohaaegaa
set_option linter.unusedVariables false

/-- a stream: its number, its pace, which access used it last -/
structure Sm where
  id : Nat
  f : Fl
  used : Nat
  deriving DecidableEq
instance : Inhabited Sm := ⟨⟨0, ⟨0, 0, 0, 0⟩, 0⟩⟩
def Sm.cells (s : Sm) : List Value := [.int .i64 s.id, .int .i64 s.f.n, .int .i64 s.f.a, .int .i64 s.f.p, .int .i64 s.f.g, .int .i64 s.used]
theorem sm6 : ∀ s : Sm, s.cells.length = 6 := fun _ => rfl

/-- what a tracker is made of -/
structure Cf where
  most : Nat
  size : Nat
  life : Nat
  deg : Nat
  blk : Nat
structure Cf.Ok (c : Cf) : Prop where
  m1 : 1 ≤ c.most
  m16 : c.most ≤ 16
  s1 : 1 ≤ c.size
  s32 : c.size ≤ 32
  l1 : 1 ≤ c.life
  l64 : c.life ≤ 64
  d1 : 1 ≤ c.deg
  d16 : c.deg ≤ 16
  b1 : 1 ≤ c.blk
  b256 : c.blk ≤ 256

/-- a tracker: its streams, its table, how many accesses there were, how many streams -/
structure Tr where
  ss : List Sm
  es : List En
  uses : Nat
  begun : Nat

/-- an access that may be -/
def mayAcc (b : Nat) (f c : Int) : Bool := decide (1 ≤ c ∧ c ≤ 8 ∧ 0 ≤ f ∧ f + c ≤ b)
theorem mayAcc_iff {b : Nat} {f c : Int} : mayAcc b f c = true ↔ 1 ≤ c ∧ c ≤ 8 ∧ 0 ≤ f ∧ f + c ≤ b := by
  unfold mayAcc; simp
def fits (x : Int) (s : Sm) : Bool := s.f.n == x
/-- of those that fit the one that was used last -/
def topOf (ss : List Sm) (x : Int) : Option Nat := ss.findIdx? (fun s => fits x s && ss.all (fun t => !fits x t || decide (t.used ≤ s.used)))
/-- the one that was used longest ago -/
def lowOf (ss : List Sm) : Option Nat := ss.findIdx? (fun s => ss.all (fun t => decide (s.used ≤ t.used)))
/-- the one that has a number -/
def idOf (ss : List Sm) (i : Int) : Option Nat := ss.findIdx? (fun s => (s.id : Int) == i)

theorem idx_is {α : Type} {l : List α} {p : α → Bool} {k : Nat} {a : α} (h : l[k]? = some a) (hp : p a = true) (hn : ∀ j b, j < k → l[j]? = some b → p b = false) : l.findIdx? p = some k := by
  have hk := lt_of_get h
  rw [List.findIdx?_eq_some_iff_getElem]
  refine ⟨hk, ?_, fun j hj => ?_⟩
  · rw [List.getElem?_eq_getElem hk] at h
    injection h with h
    rw [h]; exact hp
  · have := hn j l[j] hj (List.getElem?_eq_getElem (by omega))
    simp [this]
theorem idx_of {α : Type} {l : List α} {p : α → Bool} {k : Nat} (h : l.findIdx? p = some k) : ∃ a, l[k]? = some a ∧ p a = true ∧ ∀ j b, j < k → l[j]? = some b → p b = false := by
  rw [List.findIdx?_eq_some_iff_getElem] at h
  obtain ⟨hk, h1, h2⟩ := h
  refine ⟨l[k], List.getElem?_eq_getElem hk, h1, fun j b hj hb => ?_⟩
  have := h2 j hj
  rw [List.getElem?_eq_getElem (by omega)] at hb
  injection hb with hb
  rw [hb] at this
  simpa using this
theorem idx_none {α : Type} {l : List α} {p : α → Bool} (h : ∀ (j : Nat) b, l[j]? = some b → p b = false) : l.findIdx? p = none := by
  rw [List.findIdx?_eq_none_iff]
  intro a ha
  obtain ⟨j, hj, rfl⟩ := List.getElem_of_mem ha
  exact h j _ (List.getElem?_eq_getElem hj)
theorem idx_no {α : Type} {l : List α} {p : α → Bool} (h : l.findIdx? p = none) : ∀ (j : Nat) b, l[j]? = some b → p b = false := by
  rw [List.findIdx?_eq_none_iff] at h
  intro j b hb
  exact h b (List.mem_of_getElem? hb)

/-- numbers rise; uses are apart -/
structure Ranks (ss : List Sm) : Prop where
  rise : ss.Pairwise (fun a b => a.id < b.id)
  apart : ss.Pairwise (fun a b => a.used ≠ b.used)
theorem pair_at {α : Type} {R : α → α → Prop} {l : List α} (h : l.Pairwise R) {i j : Nat} {a b : α} (hi : l[i]? = some a) (hj : l[j]? = some b) (k : i < j) : R a b := by
  have li := lt_of_get hi
  have lj := lt_of_get hj
  rw [List.getElem?_eq_getElem li] at hi
  rw [List.getElem?_eq_getElem lj] at hj
  injection hi with hi
  injection hj with hj
  subst hi; subst hj
  exact List.pairwise_iff_getElem.1 h i j li lj k
theorem used_one {ss : List Sm} (h : ss.Pairwise (fun a b => a.used ≠ b.used)) {i j : Nat} {a b : Sm} (hi : ss[i]? = some a) (hj : ss[j]? = some b) (k : a.used = b.used) : i = j := by
  rcases Nat.lt_trichotomy i j with q | q | q
  · exact absurd k (pair_at h hi hj q)
  · exact q
  · exact absurd k.symm (pair_at h hj hi q)
theorem id_one {ss : List Sm} (h : ss.Pairwise (fun a b => a.id < b.id)) {i j : Nat} {a b : Sm} (hi : ss[i]? = some a) (hj : ss[j]? = some b) (k : a.id = b.id) : i = j := by
  rcases Nat.lt_trichotomy i j with q | q | q
  · have := pair_at h hi hj q; omega
  · exact q
  · have := pair_at h hj hi q; omega

theorem top_is {ss : List Sm} {x : Int} {k : Nat} {s : Sm} (h : ss.Pairwise (fun a b => a.used ≠ b.used)) (hk : ss[k]? = some s) (hx : s.f.n = x) (hm : ∀ (j : Nat) t, ss[j]? = some t → t.f.n = x → t.used ≤ s.used) : topOf ss x = some k := by
  unfold topOf
  refine idx_is hk ?_ ?_
  · simp only [Bool.and_eq_true, List.all_eq_true, fits]
    refine ⟨by simp [hx], fun t ht => ?_⟩
    obtain ⟨j, hj⟩ := List.mem_iff_getElem?.1 ht
    by_cases e : t.f.n = x
    · have := hm j t hj e
      simp [this]
    · simp [e]
  · intro j b hj hb
    rw [Bool.eq_false_iff]
    simp only [ne_eq, Bool.and_eq_true, List.all_eq_true, fits, not_and]
    intro e q
    have e : b.f.n = x := by simpa using e
    have h1 := q s (List.mem_of_getElem? hk)
    simp [hx] at h1
    have h2 := hm j b hb e
    have := used_one h hb hk (by omega)
    omega
theorem top_none {ss : List Sm} {x : Int} (h : ∀ (j : Nat) t, ss[j]? = some t → t.f.n ≠ x) : topOf ss x = none :=
  idx_none (fun j b hb => by
    have := h j b hb
    simp [fits, this])
theorem top_of {ss : List Sm} {x : Int} {k : Nat} (h : topOf ss x = some k) : ∃ s, ss[k]? = some s ∧ s.f.n = x ∧ ∀ (j : Nat) t, ss[j]? = some t → t.f.n = x → t.used ≤ s.used := by
  obtain ⟨s, hs, hp, _⟩ := idx_of h
  simp only [Bool.and_eq_true, List.all_eq_true, fits] at hp
  refine ⟨s, hs, by simpa using hp.1, fun j t ht e => ?_⟩
  have := hp.2 t (List.mem_of_getElem? ht)
  simpa [e] using this
/-- of some there is one that is greatest -/
theorem some_top : ∀ {ss : List Sm} {p : Sm → Bool}, (∃ s ∈ ss, p s = true) → ∃ s ∈ ss, p s = true ∧ ∀ t ∈ ss, p t = true → t.used ≤ s.used
  | [], _, ⟨_, h, _⟩ => by cases h
  | a :: r, p, h => by
    by_cases k : ∃ s ∈ r, p s = true
    · obtain ⟨s, hs, hp, hm⟩ := some_top k
      by_cases q : p a = true ∧ s.used ≤ a.used
      · refine ⟨a, by simp, q.1, fun t ht e => ?_⟩
        rcases List.mem_cons.1 ht with rfl | ht
        · exact Nat.le_refl _
        · exact Nat.le_trans (hm t ht e) q.2
      · refine ⟨s, by simp [hs], hp, fun t ht e => ?_⟩
        rcases List.mem_cons.1 ht with rfl | ht
        · exact Nat.le_of_lt (Nat.lt_of_not_le (fun u => q ⟨e, u⟩))
        · exact hm t ht e
    · obtain ⟨s, hs, hp⟩ := h
      rcases List.mem_cons.1 hs with rfl | hs
      · refine ⟨s, by simp, hp, fun t ht e => ?_⟩
        rcases List.mem_cons.1 ht with rfl | ht
        · exact Nat.le_refl _
        · exact absurd ⟨t, ht, e⟩ k
      · exact absurd ⟨s, hs, hp⟩ k
theorem top_no {ss : List Sm} {x : Int} (h : topOf ss x = none) : ∀ (j : Nat) t, ss[j]? = some t → t.f.n ≠ x := by
  intro j t ht e
  obtain ⟨s, hs, hp, hm⟩ := some_top (p := fits x) ⟨t, List.mem_of_getElem? ht, by simp [fits, e]⟩
  obtain ⟨i, hi⟩ := List.mem_iff_getElem?.1 hs
  have := idx_no h i s hi
  rw [Bool.eq_false_iff] at this
  apply this
  simp only [Bool.and_eq_true, List.all_eq_true]
  refine ⟨hp, fun u hu => ?_⟩
  by_cases q : fits x u = true
  · simp [hm u hu q]
  · simp [q]
theorem low_is {ss : List Sm} {k : Nat} {s : Sm} (h : ss.Pairwise (fun a b => a.used ≠ b.used)) (hk : ss[k]? = some s) (hm : ∀ (j : Nat) t, ss[j]? = some t → s.used ≤ t.used) : lowOf ss = some k := by
  unfold lowOf
  refine idx_is hk ?_ ?_
  · simp only [List.all_eq_true, decide_eq_true_eq]
    intro t ht
    obtain ⟨j, hj⟩ := List.mem_iff_getElem?.1 ht
    exact hm j t hj
  · intro j b hj hb
    rw [Bool.eq_false_iff]
    simp only [ne_eq, List.all_eq_true, decide_eq_true_eq]
    intro q
    have h1 := q s (List.mem_of_getElem? hk)
    have h2 := hm j b hb
    have := used_one h hb hk (by omega)
    omega
theorem low_of {ss : List Sm} {k : Nat} (h : lowOf ss = some k) : ∃ s, ss[k]? = some s ∧ ∀ (j : Nat) t, ss[j]? = some t → s.used ≤ t.used := by
  obtain ⟨s, hs, hp, _⟩ := idx_of h
  simp only [List.all_eq_true, decide_eq_true_eq] at hp
  exact ⟨s, hs, fun j t ht => hp t (List.mem_of_getElem? ht)⟩
theorem id_is {ss : List Sm} {i : Int} {k : Nat} {s : Sm} (hk : ss[k]? = some s) (hi : (s.id : Int) = i) (hn : ∀ (j : Nat) t, j < k → ss[j]? = some t → (t.id : Int) ≠ i) : idOf ss i = some k :=
  idx_is hk (by simp [hi]) (fun j b hj hb => by simpa using hn j b hj hb)
theorem id_none {ss : List Sm} {i : Int} (h : ∀ (j : Nat) t, ss[j]? = some t → (t.id : Int) ≠ i) : idOf ss i = none := idx_none (fun j b hb => by simpa using h j b hb)
theorem id_of {ss : List Sm} {i : Int} {k : Nat} (h : idOf ss i = some k) : ∃ s, ss[k]? = some s ∧ (s.id : Int) = i := by
  obtain ⟨s, hs, hp, _⟩ := idx_of h
  exact ⟨s, hs, by simpa using hp⟩
theorem id_no {ss : List Sm} {i : Int} (h : idOf ss i = none) : ∀ (j : Nat) t, ss[j]? = some t → (t.id : Int) ≠ i := fun j t ht => by simpa using idx_no h j t ht

/-- with room for one more -/
def fewer (most : Nat) (ss : List Sm) : List Sm := if most ≤ ss.length then ss.eraseIdx ((lowOf ss).getD 0) else ss
/-- a stream behind an access -/
def usedBy (c : Cf) (s : Sm) (n : Int) (u : Nat) : Sm := ⟨s.id, s.f.readF n c.deg c.blk, u⟩
/-- an access -/
def accS (c : Cf) (t : Tr) (f n : Int) : Tr :=
  if mayAcc c.blk f n then
    match topOf t.ss f with
    | some k => ⟨t.ss.set k (usedBy c (t.ss[k]?.getD default) n (t.uses + 1)), t.es, t.uses + 1, t.begun⟩
    | none => if lookB c.size c.life t.es f n then ⟨fewer c.most t.ss ++ [usedBy c ⟨t.begun + 1, Fl.start f, 0⟩ n (t.uses + 1)], lookT c.size c.life t.es f n, t.uses + 1, t.begun + 1⟩
      else ⟨t.ss, lookT c.size c.life t.es f n, t.uses + 1, t.begun⟩
  else t
def accI (c : Cf) (t : Tr) (f n : Int) : Nat :=
  if mayAcc c.blk f n then
    match topOf t.ss f with
    | some k => (t.ss[k]?.getD default).id
    | none => if lookB c.size c.life t.es f n then t.begun + 1 else 0
  else 0
def accR (c : Cf) (t : Tr) (f n : Int) : Rn :=
  if mayAcc c.blk f n then
    match topOf t.ss f with
    | some k => (t.ss[k]?.getD default).f.readR n c.deg c.blk
    | none => if lookB c.size c.life t.es f n then (Fl.start f).readR n c.deg c.blk else ⟨0, 0⟩
  else ⟨0, 0⟩
def accC (b : Nat) (f n : Int) : Int := if mayAcc b f n then 0 else 1
/-- what is told of a stream -/
def Sm.tune (s : Sm) (late : Bool) : Sm := ⟨s.id, if late then s.f.late else s.f.waste, s.used⟩
def tuneS (t : Tr) (i : Int) (late : Bool) : Tr :=
  match idOf t.ss i with
  | some k => ⟨t.ss.set k ((t.ss[k]?.getD default).tune late), t.es, t.uses, t.begun⟩
  | none => t
def tuneB (t : Tr) (i : Int) : Bool := (idOf t.ss i).isSome

/-- what a tracker is -/
structure Fine10 (c : Cf) (t : Tr) : Prop where
  ok : c.Ok
  rank : Ranks t.ss
  ids : ∀ s ∈ t.ss, 1 ≤ s.id ∧ s.id ≤ t.begun
  uses : ∀ s ∈ t.ss, 1 ≤ s.used ∧ s.used ≤ t.uses
  may : ∀ s ∈ t.ss, s.f.May c.deg c.blk
  few : t.ss.length ≤ c.most
  tab : Fine8 c.size c.life t.es
  beg : t.begun ≤ t.uses

theorem May.wf {f : Fl} {d b : Int} (h : f.May d b) : f.Wf := by
  obtain ⟨n, a, p, g⟩ := f
  obtain ⟨h1, h2, h3, h4, h5, h6, h7, h8, h9, h10, h11⟩ := h
  simp only at *
  constructor <;> (try dsimp only) <;> omega
theorem start_may {d b : Nat} {f : Int} (h1 : 1 ≤ d ∧ d ≤ 16) (h2 : 1 ≤ b ∧ b ≤ 256) (h3 : 0 ≤ f ∧ f ≤ b) : (Fl.start f).May d b := by
  unfold Fl.start
  constructor <;> (try dsimp only) <;> omega
theorem late_may {f : Fl} {d b : Int} (h : f.May d b) : f.late.May d b := by
  unfold Fl.late
  split
  · obtain ⟨h1, h2, h3, h4, h5, h6, h7, h8, h9, h10, h11⟩ := h
    constructor <;> (try dsimp only) <;> omega
  · exact h
theorem waste_may {f : Fl} {d b : Int} (h : f.May d b) : f.waste.May d b := by
  unfold Fl.waste
  split
  · obtain ⟨h1, h2, h3, h4, h5, h6, h7, h8, h9, h10, h11⟩ := h
    constructor <;> (try dsimp only) <;> omega
  · exact h
theorem read_code {f : Fl} {n d b : Int} (h : f.May d b) (h1 : 1 ≤ n) (h8 : n ≤ 8) (hb : f.n + n ≤ b) : f.readC n d b = 0 := by
  unfold Fl.readC
  rw [if_pos ⟨h, h1, h8⟩, if_pos hb]
theorem read_may {f : Fl} {n d b : Int} (h : f.May d b) (h1 : 1 ≤ n) (h8 : n ≤ 8) (hb : f.n + n ≤ b) : (f.readF n d b).May d b := by
  unfold Fl.readF
  rw [if_pos (read_code h h1 h8 hb)]
  exact ask_may (moved_may h h1 h8 hb)

theorem ranks_set {ss : List Sm} {k : Nat} {s s' : Sm} (h : Ranks ss) (hk : ss[k]? = some s) (hi : s'.id = s.id) (hu : ∀ (j : Nat) t, j ≠ k → ss[j]? = some t → t.used ≠ s'.used) : Ranks (ss.set k s') := by
  have hl := lt_of_get hk
  constructor
  · rw [List.pairwise_iff_getElem]
    intro i j li lj hij
    simp only [List.length_set] at li lj
    have h1 := fun (x : Nat) (lx : x < ss.length) => show (ss.set k s')[x]'(by simpa using lx) = if k = x then s' else ss[x] from List.getElem_set ..
    rw [h1 i li, h1 j lj]
    have q := List.pairwise_iff_getElem.1 h.rise
    have e : ss[k] = s := by rw [List.getElem?_eq_getElem hl] at hk; injection hk
    split
    · rename_i e1
      split
      · omega
      · have := q k j hl lj (by omega)
        rw [e] at this
        show s'.id < _
        omega
    · split
      · rename_i e1 e2
        have := q i k li hl (by omega)
        rw [e] at this
        show _ < s'.id
        omega
      · exact q i j li lj hij
  · rw [List.pairwise_iff_getElem]
    intro i j li lj hij
    simp only [List.length_set] at li lj
    have h1 := fun (x : Nat) (lx : x < ss.length) => show (ss.set k s')[x]'(by simpa using lx) = if k = x then s' else ss[x] from List.getElem_set ..
    rw [h1 i li, h1 j lj]
    split
    · rename_i e1
      split
      · omega
      · exact (hu j _ (by omega) (List.getElem?_eq_getElem lj)).symm
    · split
      · exact hu i _ (by omega) (List.getElem?_eq_getElem li)
      · exact List.pairwise_iff_getElem.1 h.apart i j li lj hij
theorem Ranks.sub {ss ts : List Sm} (h : Ranks ss) (s : ts.Sublist ss) : Ranks ts := ⟨h.rise.sublist s, h.apart.sublist s⟩
theorem fewer_sub (most : Nat) (ss : List Sm) : (fewer most ss).Sublist ss := by
  unfold fewer
  split
  · exact List.eraseIdx_sublist _ _
  · exact List.Sublist.refl _
theorem low_lt {ss : List Sm} (h : ss ≠ []) : (lowOf ss).getD 0 < ss.length := by
  cases q : lowOf ss with
  | none => exact List.length_pos_iff.2 h
  | some k =>
    obtain ⟨s, hs, _⟩ := low_of q
    exact lt_of_get hs
theorem fewer_len {most : Nat} {ss : List Sm} (h : ss.length ≤ most) (h1 : 1 ≤ most) : (fewer most ss).length + 1 ≤ most := by
  unfold fewer
  split
  · rename_i q
    have hne : ss ≠ [] := fun e => by rw [e] at q; simp at q; omega
    rw [List.length_eraseIdx, if_pos (low_lt hne)]
    have := List.length_pos_iff.2 hne
    omega
  · omega
theorem mem_set {ss : List Sm} {k : Nat} {s' t : Sm} (h : t ∈ ss.set k s') : t = s' ∨ t ∈ ss := (List.mem_or_eq_of_mem_set h).symm

theorem accS_fine {c : Cf} {t : Tr} (h : Fine10 c t) (f n : Int) : Fine10 c (accS c t f n) := by
  unfold accS
  split
  · rename_i hm
    have hm := mayAcc_iff.1 hm
    have hok := h.ok
    split
    · rename_i k hk
      obtain ⟨s, hs, hx, _⟩ := top_of hk
      have hmem := List.mem_of_getElem? hs
      rw [hs]
      refine ⟨h.ok, ranks_set h.rank hs rfl (fun j t' hj ht' => ?_), ?_, ?_, ?_, ?_, h.tab, ?_⟩
      · have := (h.uses t' (List.mem_of_getElem? ht')).2
        show t'.used ≠ t.uses + 1
        omega
      · intro u hu
        rcases mem_set hu with rfl | hu
        · exact h.ids s hmem
        · exact h.ids u hu
      · intro u hu
        rcases mem_set hu with rfl | hu
        · show 1 ≤ t.uses + 1 ∧ t.uses + 1 ≤ t.uses + 1
          omega
        · have := h.uses u hu
          show 1 ≤ u.used ∧ u.used ≤ t.uses + 1
          omega
      · intro u hu
        rcases mem_set hu with rfl | hu
        · exact read_may (h.may s hmem) hm.1 hm.2.1 (by show s.f.n + n ≤ _; omega)
        · exact h.may u hu
      · show (t.ss.set _ _).length ≤ _
        rw [List.length_set]; exact h.few
      · show t.begun ≤ t.uses + 1
        have := h.beg
        omega
    · split
      · have hsub := fewer_sub c.most t.ss
        refine ⟨h.ok, ⟨?_, ?_⟩, ?_, ?_, ?_, ?_, lookT_fine h.tab, ?_⟩
        · show (fewer c.most t.ss ++ [_]).Pairwise _
          rw [List.pairwise_append]
          refine ⟨(h.rank.sub hsub).rise, List.pairwise_singleton _ _, fun a ha b hb => ?_⟩
          have := (h.ids a (hsub.subset ha)).2
          rw [List.mem_singleton.1 hb]
          show a.id < t.begun + 1
          omega
        · show (fewer c.most t.ss ++ [_]).Pairwise _
          rw [List.pairwise_append]
          refine ⟨(h.rank.sub hsub).apart, List.pairwise_singleton _ _, fun a ha b hb => ?_⟩
          have := (h.uses a (hsub.subset ha)).2
          rw [List.mem_singleton.1 hb]
          show a.used ≠ t.uses + 1
          omega
        · intro u hu
          rcases List.mem_append.1 hu with hu | hu
          · have := h.ids u (hsub.subset hu)
            show 1 ≤ u.id ∧ u.id ≤ t.begun + 1
            omega
          · rw [List.mem_singleton.1 hu]
            show 1 ≤ t.begun + 1 ∧ t.begun + 1 ≤ t.begun + 1
            omega
        · intro u hu
          rcases List.mem_append.1 hu with hu | hu
          · have := h.uses u (hsub.subset hu)
            show 1 ≤ u.used ∧ u.used ≤ t.uses + 1
            omega
          · rw [List.mem_singleton.1 hu]
            show 1 ≤ t.uses + 1 ∧ t.uses + 1 ≤ t.uses + 1
            omega
        · intro u hu
          rcases List.mem_append.1 hu with hu | hu
          · exact h.may u (hsub.subset hu)
          · rw [List.mem_singleton.1 hu]
            exact read_may (start_may ⟨hok.d1, hok.d16⟩ ⟨hok.b1, hok.b256⟩ ⟨hm.2.2.1, by omega⟩) hm.1 hm.2.1 hm.2.2.2
        · show (fewer c.most t.ss ++ [_]).length ≤ _
          have := fewer_len h.few hok.m1
          simp
          omega
        · show t.begun + 1 ≤ t.uses + 1
          have := h.beg
          omega
      · refine ⟨h.ok, h.rank, h.ids, fun s hs => ?_, h.may, h.few, lookT_fine h.tab, ?_⟩
        · have := h.uses s hs
          show 1 ≤ s.used ∧ s.used ≤ t.uses + 1
          omega
        · show t.begun ≤ t.uses + 1
          have := h.beg
          omega
  · exact h
theorem tuneS_fine {c : Cf} {t : Tr} (h : Fine10 c t) (i : Int) (late : Bool) : Fine10 c (tuneS t i late) := by
  unfold tuneS
  split
  · rename_i k hk
    obtain ⟨s, hs, _⟩ := id_of hk
    have hmem := List.mem_of_getElem? hs
    rw [hs]
    refine ⟨h.ok, ranks_set h.rank hs rfl (fun j t' hj ht' e => hj (used_one h.rank.apart ht' hs e)), ?_, ?_, ?_, ?_, h.tab, h.beg⟩
    · intro u hu
      rcases mem_set hu with rfl | hu
      · exact h.ids s hmem
      · exact h.ids u hu
    · intro u hu
      rcases mem_set hu with rfl | hu
      · exact h.uses s hmem
      · exact h.uses u hu
    · intro u hu
      rcases mem_set hu with rfl | hu
      · show Fl.May (if late then s.f.late else s.f.waste) _ _
        split
        · exact late_may (h.may s hmem)
        · exact waste_may (h.may s hmem)
      · exact h.may u hu
    · show (t.ss.set _ _).length ≤ _
      rw [List.length_set]; exact h.few
  · exact h
theorem new_fine {c : Cf} (h : c.Ok) : Fine10 c ⟨[], [], 0, 0⟩ :=
  ⟨h, ⟨List.Pairwise.nil, List.Pairwise.nil⟩, fun _ k => (by cases k), fun _ k => (by cases k), fun _ k => (by cases k), Nat.zero_le _, nil_fine h.s1 h.s32 h.l1 h.l64, Nat.zero_le _⟩
end Go.Proofs.Ytfmmmiiohaaegaa

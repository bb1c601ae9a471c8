/- A table of what is expected, told by a list: plain facts. -/
import Derived.Test.YtfmmmiiohaaegaaHeap
namespace Go.Proofs.Ytfmmmiiohaaegaa

/-- an entry: which block, how many looks ago -/
structure En where
  next : Int
  age : Nat
  deriving DecidableEq
instance : Inhabited En := ⟨⟨0, 0⟩⟩
def En.cells (e : En) : List Value := [.int .i64 e.next, .int .i64 e.age]
theorem en2 : ∀ e : En, e.cells.length = 2 := fun _ => rfl

/-- one look on: each is one older, those older than the life go -/
def older (life : Nat) (es : List En) : List En := (es.filter (fun e => decide (e.age + 1 ≤ life))).map (fun e => ⟨e.next, e.age + 1⟩)
def hasE (es : List En) (x : Int) : Bool := es.any (fun e => e.next == x)
def cut (es : List En) (x : Int) : List En := es.filter (fun e => !(e.next == x))
def mayLook (f c : Int) : Bool := decide (0 ≤ f ∧ f ≤ 1048576 ∧ 1 ≤ c ∧ c ≤ 8)
/-- room for one more -/
def room (size : Nat) (es : List En) (x : Int) : List En := if hasE es x then cut es x else if es.length ≥ size then es.dropLast else es
def noteE (size : Nat) (es : List En) (x : Int) : List En := ⟨x, 0⟩ :: room size es x
/-- a look -/
def lookE (size life : Nat) (es : List En) (f c : Int) : List En × Bool :=
  if hasE (older life es) f then (cut (older life es) f, true) else (noteE size (older life es) (f + c), false)
def lookT (size life : Nat) (es : List En) (f c : Int) : List En := if mayLook f c then (lookE size life es f c).1 else es
def lookB (size life : Nat) (es : List En) (f c : Int) : Bool := mayLook f c && (lookE size life es f c).2
def lookC (f c : Int) : Int := if mayLook f c then 0 else 1

structure Good8 (life : Nat) (es : List En) : Prop where
  rise : es.Pairwise (fun a b => a.age < b.age)
  apart : es.Pairwise (fun a b => a.next ≠ b.next)
  young : ∀ e ∈ es, e.age ≤ life
  in_ : ∀ e ∈ es, 0 ≤ e.next ∧ e.next ≤ 1048584
/-- what a table is -/
structure Fine8 (size life : Nat) (es : List En) : Prop extends Good8 life es where
  few : es.length ≤ size
  s1 : 1 ≤ size
  s32 : size ≤ 32
  l1 : 1 ≤ life
  l64 : life ≤ 64

theorem Good8.sub {life : Nat} {es fs : List En} (h : Good8 life es) (s : fs.Sublist es) : Good8 life fs :=
  ⟨h.rise.sublist s, h.apart.sublist s, fun e he => h.young e (s.subset he), fun e he => h.in_ e (s.subset he)⟩
theorem cut_sub (es : List En) (x : Int) : (cut es x).Sublist es := List.filter_sublist
theorem room_sub (size : Nat) (es : List En) (x : Int) : (room size es x).Sublist es := by
  unfold room
  split
  · exact cut_sub _ _
  · split
    · exact List.dropLast_sublist _
    · exact List.Sublist.refl _
theorem older_good {life : Nat} {es : List En} (h : Good8 life es) : Good8 life (older life es) := by
  have g := h.sub (fs := es.filter (fun e => decide (e.age + 1 ≤ life))) List.filter_sublist
  refine ⟨?_, ?_, ?_, ?_⟩
  · unfold older
    rw [List.pairwise_map]
    exact g.rise.imp (fun {a b} k => by show a.age + 1 < b.age + 1; omega)
  · unfold older
    rw [List.pairwise_map]
    exact g.apart
  · intro e he
    obtain ⟨a, ha, rfl⟩ := List.mem_map.1 he
    have := (List.mem_filter.1 ha).2
    simpa using this
  · intro e he
    obtain ⟨a, ha, rfl⟩ := List.mem_map.1 he
    exact g.in_ a ha
theorem older_pos {life : Nat} {es : List En} : ∀ e ∈ older life es, 1 ≤ e.age := by
  intro e he
  obtain ⟨a, ha, rfl⟩ := List.mem_map.1 he
  show 1 ≤ a.age + 1
  omega
theorem older_len (life : Nat) (es : List En) : (older life es).length ≤ es.length := by
  unfold older
  rw [List.length_map]
  exact List.length_filter_le _ _
theorem older_fine {size life : Nat} {es : List En} (h : Fine8 size life es) : Fine8 size life (older life es) :=
  ⟨older_good h.toGood8, Nat.le_trans (older_len _ _) h.few, h.s1, h.s32, h.l1, h.l64⟩
theorem not_in_room {size : Nat} {es : List En} {x : Int} : ∀ e ∈ room size es x, e.next ≠ x := by
  intro e he
  unfold room at he
  split at he
  · have := (List.mem_filter.1 he).2
    simpa using this
  · rename_i hh
    have hm : e ∈ es := by
      split at he
      · exact (List.dropLast_sublist _).subset he
      · exact he
    intro k
    apply hh
    unfold hasE
    rw [List.any_eq_true]
    exact ⟨e, hm, by simp [k]⟩
theorem cut_len {es : List En} {x : Int} (h : hasE es x = true) : (cut es x).length + 1 ≤ es.length := by
  unfold cut
  unfold hasE at h
  rw [List.any_eq_true] at h
  obtain ⟨e, he, hx⟩ := h
  have : (es.filter (fun e => !(e.next == x))).length ≠ es.length := by
    intro k
    rw [List.length_filter_eq_length_iff] at k
    have := k e he
    simp [hx] at this
  have := List.length_filter_le (fun e : En => !(e.next == x)) es
  omega
theorem room_len {size : Nat} {es : List En} (x : Int) (h : es.length ≤ size) (h1 : 1 ≤ size) : (room size es x).length + 1 ≤ size := by
  unfold room
  split
  · rename_i hh
    have := cut_len hh
    omega
  · split
    · rw [List.length_dropLast]; omega
    · omega
theorem note_fine {size life : Nat} {es : List En} {x : Int} (h : Fine8 size life es) (hp : ∀ e ∈ es, 1 ≤ e.age) (hx : 0 ≤ x ∧ x ≤ 1048584) : Fine8 size life (noteE size es x) := by
  have g := h.toGood8.sub (room_sub size es x)
  refine ⟨⟨?_, ?_, ?_, ?_⟩, ?_, h.s1, h.s32, h.l1, h.l64⟩
  · refine List.pairwise_cons.2 ⟨fun a ha => ?_, g.rise⟩
    have := hp a ((room_sub size es x).subset ha)
    show 0 < a.age
    omega
  · exact List.pairwise_cons.2 ⟨fun a ha k => not_in_room a ha k.symm, g.apart⟩
  · intro e he
    rcases List.mem_cons.1 he with rfl | k
    · exact Nat.zero_le _
    · exact g.young e k
  · intro e he
    rcases List.mem_cons.1 he with rfl | k
    · exact hx
    · exact g.in_ e k
  · exact room_len x h.few h.s1
theorem cut_fine {size life : Nat} {es : List En} (x : Int) (h : Fine8 size life es) : Fine8 size life (cut es x) :=
  ⟨h.toGood8.sub (cut_sub es x), Nat.le_trans (cut_sub es x).length_le h.few, h.s1, h.s32, h.l1, h.l64⟩
theorem mayLook_iff {f c : Int} : mayLook f c = true ↔ 0 ≤ f ∧ f ≤ 1048576 ∧ 1 ≤ c ∧ c ≤ 8 := by
  unfold mayLook
  simp
theorem lookT_fine {size life : Nat} {es : List En} {f c : Int} (h : Fine8 size life es) : Fine8 size life (lookT size life es f c) := by
  unfold lookT
  split
  · rename_i hm
    have hm := mayLook_iff.1 hm
    unfold lookE
    split
    · exact cut_fine _ (older_fine h)
    · exact note_fine (older_fine h) older_pos (by omega)
  · exact h
theorem nil_fine {size life : Nat} (h1 : 1 ≤ size) (h2 : size ≤ 32) (h3 : 1 ≤ life) (h4 : life ≤ 64) : Fine8 size life [] :=
  ⟨⟨List.Pairwise.nil, List.Pairwise.nil, fun _ h => (by cases h), fun _ h => (by cases h)⟩, Nat.zero_le _, h1, h2, h3, h4⟩

theorem next_inj {es : List En} (h : es.Pairwise (fun a b => a.next ≠ b.next)) {a b : En} (ha : a ∈ es) (hb : b ∈ es) (k : a.next = b.next) : a = b := by
  induction es with
  | nil => cases ha
  | cons y r ih =>
    obtain ⟨h1, h2⟩ := List.pairwise_cons.1 h
    rcases List.mem_cons.1 ha with rfl | ha'
    · rcases List.mem_cons.1 hb with rfl | hb'
      · rfl
      · exact absurd k (h1 b hb')
    · rcases List.mem_cons.1 hb with rfl | hb'
      · exact absurd k.symm (h1 a ha')
      · exact ih h2 ha' hb'
/-- the one that came in first is the last -/
theorem last_cut {es : List En} {e : En} (h : es.Pairwise (fun a b => a.age < b.age)) (hn : es.Pairwise (fun a b => a.next ≠ b.next)) (he : e ∈ es) (hm : ∀ a ∈ es, a.age ≤ e.age) : cut es e.next = es.dropLast := by
  have hne : es ≠ [] := fun k => by rw [k] at he; cases he
  obtain ⟨l, z, rfl⟩ : ∃ l z, es = l ++ [z] := ⟨es.dropLast, es.getLast hne, (List.dropLast_concat_getLast hne).symm⟩
  have hz : e = z := by
    rcases List.mem_append.1 he with k | k
    · have := (List.pairwise_append.1 h).2.2 e k z (by simp)
      have := hm z (by simp)
      omega
    · simpa using k
  subst hz
  rw [List.dropLast_concat]
  unfold cut
  rw [List.filter_append]
  have h1 : l.filter (fun a => !(a.next == e.next)) = l := by
    rw [List.filter_eq_self]
    intro a ha
    have := (List.pairwise_append.1 hn).2.2 a ha e (by simp)
    simp [this]
  rw [h1]
  simp
theorem hasE_iff {es : List En} {x : Int} : hasE es x = true ↔ ∃ e ∈ es, e.next = x := by
  unfold hasE
  rw [List.any_eq_true]
  constructor
  · rintro ⟨e, he, k⟩
    exact ⟨e, he, by simpa using k⟩
  · rintro ⟨e, he, k⟩
    exact ⟨e, he, by simpa using k⟩
theorem cut_none {es : List En} {x : Int} (h : hasE es x = false) : cut es x = es := by
  unfold cut
  rw [List.filter_eq_self]
  intro a ha
  unfold hasE at h
  rw [List.any_eq_false] at h
  have := h a ha
  simpa using this
/-- the place of the entry that expects a block -/
def atE (es : List En) (x : Int) : Nat := es.findIdx (fun e => e.next == x)
def atI (es : List En) (x : Int) : Int := if hasE es x then (atE es x : Int) else -1
theorem atE_lt {es : List En} {x : Int} (h : hasE es x = true) : atE es x < es.length := by
  unfold atE
  rw [List.findIdx_lt_length]
  obtain ⟨e, he, k⟩ := hasE_iff.1 h
  exact ⟨e, he, by simpa using k⟩
theorem cut_at {es : List En} {x : Int} (hn : es.Pairwise (fun a b => a.next ≠ b.next)) (h : hasE es x = true) : es.take (atE es x) ++ es.drop (atE es x + 1) = cut es x := by
  induction es with
  | nil => cases h
  | cons y r ih =>
    obtain ⟨h1, h2⟩ := List.pairwise_cons.1 hn
    by_cases k : y.next = x
    · have e0 : atE (y :: r) x = 0 := by unfold atE; rw [List.findIdx_cons]; simp [k]
      rw [e0]
      unfold cut
      rw [List.filter_cons]
      simp only [k, beq_self_eq_true, Bool.not_true, Bool.false_eq_true, if_false, List.take_zero, List.drop_succ_cons, List.drop_zero, List.nil_append]
      rw [List.filter_eq_self.2]
      intro a ha
      have := h1 a ha
      rw [k] at this
      simpa using fun q : a.next = x => this q.symm
    · have kf : (y.next == x) = false := by simp [k]
      have e0 : atE (y :: r) x = atE r x + 1 := by unfold atE; rw [List.findIdx_cons, kf]; rfl
      have hr : hasE r x = true := by
        unfold hasE at h ⊢
        rw [List.any_cons] at h
        simpa [k] using h
      rw [e0, List.take_succ_cons, List.drop_succ_cons, List.cons_append, ih h2 hr]
      unfold cut
      rw [List.filter_cons]
      simp [k]
theorem older_take {life : Nat} {es : List En} {k : Nat} {e : En} (h : es[k]? = some e) : older life (es.take (k + 1)) = older life (es.take k) ++ (if e.age + 1 ≤ life then [⟨e.next, e.age + 1⟩] else []) := by
  have hk : k < es.length := lt_of_get h
  rw [List.take_add_one, h]
  unfold older
  rw [List.filter_append, List.map_append]
  congr 1
  simp only [Option.toList_some, List.filter_cons, List.filter_nil]
  split
  · rename_i q; simp at q; rw [if_pos q]; rfl
  · rename_i q; simp at q; rw [if_neg (by omega)]; rfl
end Go.Proofs.Ytfmmmiiohaaegaa

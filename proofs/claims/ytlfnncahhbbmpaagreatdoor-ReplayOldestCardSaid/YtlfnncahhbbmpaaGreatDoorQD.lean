/- Texts of the layers below, one behind the other. -/
import Derived.Test.YtlfnncahhbbmpaaGreatDoorQA
import Derived.Test.YtlfnncahhbbmpaaGreatDoorChecked
import Derived.WalkLawsBesides
import Derived.Laws.StructEq
import Derived.Lib.MinMax
import Derived.Deep.RegionHeld3
import Derived.Deep.RegionWith
namespace Go.Proofs.YtlfnncahhbbmpaaGreatDoor
set_option maxRecDepth 100000

/-- an entry: which block, how many looks ago -/
structure En where
  next : Int
  age : Nat
  deriving DecidableEq
instance : Inhabited En := ⟨⟨0, 0⟩⟩
def En.cells (e : En) : List Value := [.int .i64 e.next, .int .i64 e.age]
theorem en2 : ∀ e : En, e.cells.length = 2 := fun _ => rfl

/-- one look on: each is one older, those older than the life go -/
def older (life : Nat) (es : List En) : List En := (es.filter (fun e => decide (e.age + 1 ≤ life))).map (fun e => ⟨e.next, e.age + 1⟩)
def hasE (es : List En) (x : Int) : Bool := es.any (fun e => e.next == x)
def cut (es : List En) (x : Int) : List En := es.filter (fun e => !(e.next == x))
def mayLook (f c : Int) : Bool := decide (0 ≤ f ∧ f ≤ 1048576 ∧ 1 ≤ c ∧ c ≤ 8)
/-- room for one more -/
def room (size : Nat) (es : List En) (x : Int) : List En := if hasE es x then cut es x else if es.length ≥ size then es.dropLast else es
def noteE (size : Nat) (es : List En) (x : Int) : List En := ⟨x, 0⟩ :: room size es x
/-- a look -/
def lookE (size life : Nat) (es : List En) (f c : Int) : List En × Bool :=
  if hasE (older life es) f then (cut (older life es) f, true) else (noteE size (older life es) (f + c), false)
def lookT (size life : Nat) (es : List En) (f c : Int) : List En := if mayLook f c then (lookE size life es f c).1 else es
def lookB (size life : Nat) (es : List En) (f c : Int) : Bool := mayLook f c && (lookE size life es f c).2
def lookC (f c : Int) : Int := if mayLook f c then 0 else 1

structure Good8 (life : Nat) (es : List En) : Prop where
  rise : es.Pairwise (fun a b => a.age < b.age)
  apart : es.Pairwise (fun a b => a.next ≠ b.next)
  young : ∀ e ∈ es, e.age ≤ life
  in_ : ∀ e ∈ es, 0 ≤ e.next ∧ e.next ≤ 1048584
/-- what a table is -/
structure Fine8 (size life : Nat) (es : List En) : Prop extends Good8 life es where
  few : es.length ≤ size
  s1 : 1 ≤ size
  s32 : size ≤ 32
  l1 : 1 ≤ life
  l64 : life ≤ 64

theorem Good8.sub {life : Nat} {es fs : List En} (h : Good8 life es) (s : fs.Sublist es) : Good8 life fs :=
  ⟨h.rise.sublist s, h.apart.sublist s, fun e he => h.young e (s.subset he), fun e he => h.in_ e (s.subset he)⟩
theorem cut_sub (es : List En) (x : Int) : (cut es x).Sublist es := List.filter_sublist
theorem room_sub (size : Nat) (es : List En) (x : Int) : (room size es x).Sublist es := by
  unfold room
  split
  · exact cut_sub _ _
  · split
    · exact List.dropLast_sublist _
    · exact List.Sublist.refl _
theorem older_good {life : Nat} {es : List En} (h : Good8 life es) : Good8 life (older life es) := by
  have g := h.sub (fs := es.filter (fun e => decide (e.age + 1 ≤ life))) List.filter_sublist
  refine ⟨?_, ?_, ?_, ?_⟩
  · unfold older
    rw [List.pairwise_map]
    exact g.rise.imp (fun {a b} k => by show a.age + 1 < b.age + 1; omega)
  · unfold older
    rw [List.pairwise_map]
    exact g.apart
  · intro e he
    obtain ⟨a, ha, rfl⟩ := List.mem_map.1 he
    have := (List.mem_filter.1 ha).2
    simpa using this
  · intro e he
    obtain ⟨a, ha, rfl⟩ := List.mem_map.1 he
    exact g.in_ a ha
theorem older_pos {life : Nat} {es : List En} : ∀ e ∈ older life es, 1 ≤ e.age := by
  intro e he
  obtain ⟨a, ha, rfl⟩ := List.mem_map.1 he
  show 1 ≤ a.age + 1
  omega
theorem older_len (life : Nat) (es : List En) : (older life es).length ≤ es.length := by
  unfold older
  rw [List.length_map]
  exact List.length_filter_le _ _
theorem older_fine {size life : Nat} {es : List En} (h : Fine8 size life es) : Fine8 size life (older life es) :=
  ⟨older_good h.toGood8, Nat.le_trans (older_len _ _) h.few, h.s1, h.s32, h.l1, h.l64⟩
theorem not_in_room {size : Nat} {es : List En} {x : Int} : ∀ e ∈ room size es x, e.next ≠ x := by
  intro e he
  unfold room at he
  split at he
  · have := (List.mem_filter.1 he).2
    simpa using this
  · rename_i hh
    have hm : e ∈ es := by
      split at he
      · exact (List.dropLast_sublist _).subset he
      · exact he
    intro k
    apply hh
    unfold hasE
    rw [List.any_eq_true]
    exact ⟨e, hm, by simp [k]⟩
theorem cut_len {es : List En} {x : Int} (h : hasE es x = true) : (cut es x).length + 1 ≤ es.length := by
  unfold cut
  unfold hasE at h
  rw [List.any_eq_true] at h
  obtain ⟨e, he, hx⟩ := h
  have : (es.filter (fun e => !(e.next == x))).length ≠ es.length := by
    intro k
    rw [List.length_filter_eq_length_iff] at k
    have := k e he
    simp [hx] at this
  have := List.length_filter_le (fun e : En => !(e.next == x)) es
  omega
theorem room_len {size : Nat} {es : List En} (x : Int) (h : es.length ≤ size) (h1 : 1 ≤ size) : (room size es x).length + 1 ≤ size := by
  unfold room
  split
  · rename_i hh
    have := cut_len hh
    omega
  · split
    · rw [List.length_dropLast]; omega
    · omega
theorem note_fine {size life : Nat} {es : List En} {x : Int} (h : Fine8 size life es) (hp : ∀ e ∈ es, 1 ≤ e.age) (hx : 0 ≤ x ∧ x ≤ 1048584) : Fine8 size life (noteE size es x) := by
  have g := h.toGood8.sub (room_sub size es x)
  refine ⟨⟨?_, ?_, ?_, ?_⟩, ?_, h.s1, h.s32, h.l1, h.l64⟩
  · refine List.pairwise_cons.2 ⟨fun a ha => ?_, g.rise⟩
    have := hp a ((room_sub size es x).subset ha)
    show 0 < a.age
    omega
  · exact List.pairwise_cons.2 ⟨fun a ha k => not_in_room a ha k.symm, g.apart⟩
  · intro e he
    rcases List.mem_cons.1 he with rfl | k
    · exact Nat.zero_le _
    · exact g.young e k
  · intro e he
    rcases List.mem_cons.1 he with rfl | k
    · exact hx
    · exact g.in_ e k
  · exact room_len x h.few h.s1
theorem cut_fine {size life : Nat} {es : List En} (x : Int) (h : Fine8 size life es) : Fine8 size life (cut es x) :=
  ⟨h.toGood8.sub (cut_sub es x), Nat.le_trans (cut_sub es x).length_le h.few, h.s1, h.s32, h.l1, h.l64⟩
theorem mayLook_iff {f c : Int} : mayLook f c = true ↔ 0 ≤ f ∧ f ≤ 1048576 ∧ 1 ≤ c ∧ c ≤ 8 := by
  unfold mayLook
  simp
theorem lookT_fine {size life : Nat} {es : List En} {f c : Int} (h : Fine8 size life es) : Fine8 size life (lookT size life es f c) := by
  unfold lookT
  split
  · rename_i hm
    have hm := mayLook_iff.1 hm
    unfold lookE
    split
    · exact cut_fine _ (older_fine h)
    · exact note_fine (older_fine h) older_pos (by omega)
  · exact h
theorem nil_fine {size life : Nat} (h1 : 1 ≤ size) (h2 : size ≤ 32) (h3 : 1 ≤ life) (h4 : life ≤ 64) : Fine8 size life [] :=
  ⟨⟨List.Pairwise.nil, List.Pairwise.nil, fun _ h => (by cases h), fun _ h => (by cases h)⟩, Nat.zero_le _, h1, h2, h3, h4⟩

theorem next_inj {es : List En} (h : es.Pairwise (fun a b => a.next ≠ b.next)) {a b : En} (ha : a ∈ es) (hb : b ∈ es) (k : a.next = b.next) : a = b := by
  induction es with
  | nil => cases ha
  | cons y r ih =>
    obtain ⟨h1, h2⟩ := List.pairwise_cons.1 h
    rcases List.mem_cons.1 ha with rfl | ha'
    · rcases List.mem_cons.1 hb with rfl | hb'
      · rfl
      · exact absurd k (h1 b hb')
    · rcases List.mem_cons.1 hb with rfl | hb'
      · exact absurd k.symm (h1 a ha')
      · exact ih h2 ha' hb'
/-- the one that came in first is the last -/
theorem last_cut {es : List En} {e : En} (h : es.Pairwise (fun a b => a.age < b.age)) (hn : es.Pairwise (fun a b => a.next ≠ b.next)) (he : e ∈ es) (hm : ∀ a ∈ es, a.age ≤ e.age) : cut es e.next = es.dropLast := by
  have hne : es ≠ [] := fun k => by rw [k] at he; cases he
  obtain ⟨l, z, rfl⟩ : ∃ l z, es = l ++ [z] := ⟨es.dropLast, es.getLast hne, (List.dropLast_concat_getLast hne).symm⟩
  have hz : e = z := by
    rcases List.mem_append.1 he with k | k
    · have := (List.pairwise_append.1 h).2.2 e k z (by simp)
      have := hm z (by simp)
      omega
    · simpa using k
  subst hz
  rw [List.dropLast_concat]
  unfold cut
  rw [List.filter_append]
  have h1 : l.filter (fun a => !(a.next == e.next)) = l := by
    rw [List.filter_eq_self]
    intro a ha
    have := (List.pairwise_append.1 hn).2.2 a ha e (by simp)
    simp [this]
  rw [h1]
  simp
theorem hasE_iff {es : List En} {x : Int} : hasE es x = true ↔ ∃ e ∈ es, e.next = x := by
  unfold hasE
  rw [List.any_eq_true]
  constructor
  · rintro ⟨e, he, k⟩
    exact ⟨e, he, by simpa using k⟩
  · rintro ⟨e, he, k⟩
    exact ⟨e, he, by simpa using k⟩
theorem cut_none {es : List En} {x : Int} (h : hasE es x = false) : cut es x = es := by
  unfold cut
  rw [List.filter_eq_self]
  intro a ha
  unfold hasE at h
  rw [List.any_eq_false] at h
  have := h a ha
  simpa using this
/-- the place of the entry that expects a block -/
def atE (es : List En) (x : Int) : Nat := es.findIdx (fun e => e.next == x)
def atI (es : List En) (x : Int) : Int := if hasE es x then (atE es x : Int) else -1
theorem atE_lt {es : List En} {x : Int} (h : hasE es x = true) : atE es x < es.length := by
  unfold atE
  rw [List.findIdx_lt_length]
  obtain ⟨e, he, k⟩ := hasE_iff.1 h
  exact ⟨e, he, by simpa using k⟩
theorem cut_at {es : List En} {x : Int} (hn : es.Pairwise (fun a b => a.next ≠ b.next)) (h : hasE es x = true) : es.take (atE es x) ++ es.drop (atE es x + 1) = cut es x := by
  induction es with
  | nil => cases h
  | cons y r ih =>
    obtain ⟨h1, h2⟩ := List.pairwise_cons.1 hn
    by_cases k : y.next = x
    · have e0 : atE (y :: r) x = 0 := by unfold atE; rw [List.findIdx_cons]; simp [k]
      rw [e0]
      unfold cut
      rw [List.filter_cons]
      simp only [k, beq_self_eq_true, Bool.not_true, Bool.false_eq_true, if_false, List.take_zero, List.drop_succ_cons, List.drop_zero, List.nil_append]
      rw [List.filter_eq_self.2]
      intro a ha
      have := h1 a ha
      rw [k] at this
      simpa using fun q : a.next = x => this q.symm
    · have kf : (y.next == x) = false := by simp [k]
      have e0 : atE (y :: r) x = atE r x + 1 := by unfold atE; rw [List.findIdx_cons, kf]; rfl
      have hr : hasE r x = true := by
        unfold hasE at h ⊢
        rw [List.any_cons] at h
        simpa [k] using h
      rw [e0, List.take_succ_cons, List.drop_succ_cons, List.cons_append, ih h2 hr]
      unfold cut
      rw [List.filter_cons]
      simp [k]
theorem older_take {life : Nat} {es : List En} {k : Nat} {e : En} (h : es[k]? = some e) : older life (es.take (k + 1)) = older life (es.take k) ++ (if e.age + 1 ≤ life then [⟨e.next, e.age + 1⟩] else []) := by
  have hk : k < es.length := lt_of_get h
  rw [List.take_add_one, h]
  unfold older
  rw [List.filter_append, List.map_append]
  congr 1
  simp only [Option.toList_some, List.filter_cons, List.filter_nil]
  split
  · rename_i q; simp at q; rw [if_pos q]; rfl
  · rename_i q; simp at q; rw [if_neg (by omega)]; rfl
end Go.Proofs.YtlfnncahhbbmpaaGreatDoor

namespace Go.Proofs.YtlfnncahhbbmpaaGreatDoor
open Go.RowKit
set_option maxRecDepth 100000

/-- a panic of a code -/
abbrev left (c : Int) : Ending := .panicked [{ v := .iface 27 (.int .i64 c), recovered := false }]

theorem unless_yes (c : Value) (w : World) : Calls Tryz.prog 45 #[.bool true, c] w fun e w' => e = .returned (.tuple #[]) ∧ w = w' := by
  go_enter Tryz.func45, Tryz.ntmps45
  go_wp2
  go_end0
  exact ⟨rfl, rfl⟩
theorem unless_no (c : Int) (w : World) : Calls Tryz.prog 45 #[.bool false, .int .i64 c] w fun e w' => e = left c ∧ w = w' := by
  go_enter Tryz.func45, Tryz.ntmps45
  go_wp2
  exact ⟨rfl, rfl, rfl⟩

theorem run_assert_code (c : Int) (w : World) : (Instr.typeAssert (.iface 27 (.int .i64 c)) 20 27 true).run Tryz.prog w = .ok (.tuple #[.int .i64 c, .bool true]) w := by kernel_rfl

/-- what Catch's closure does: it is done, or leaves by a panic of a code; a new block of the caller's own stays as it is -/
theorem taken_back (p : Addr) (c : Int) (older : List PanicEntry) (w : World) (v0 : Value) (hc : w.cell? p = some v0) (hz : w.frozen? p = false) :
    CallsD Tryz.prog 44 #[.pointer (some p)] (.panicking ({ v := .iface 27 (.int .i64 c), recovered := false } :: older)) w fun e u' w' =>
      e = .returned (.tuple #[]) ∧ u' = .panicking ({ v := .iface 27 (.int .i64 c), recovered := true } :: older) ∧ w' = w.setCell p (.int .i64 c) := by
  have ta := run_assert_code
  refine callsD_of_wpS Tryz.func44 rfl fun c₀ cs hu => ?_
  apply wpS_seq
  apply wpS_region
  simp [wpOpsS, go_sem, recoverD, hu, Tryz.ntmps44, Exit.thenS]
  simp only [show Array.replicate 10 undef = #[undef, undef, undef, undef, undef, undef, undef, undef, undef, undef] from rfl]
  simp
  apply wpS_of_wp
  go_wp2
  simp [bodyPostS, results, Tryz.results44]

theorem idle_back (p : Addr) (w : World) :
    CallsD Tryz.prog 44 #[.pointer (some p)] .returning w fun e u' w' => e = .returned (.tuple #[]) ∧ u' = .returning ∧ w' = w := by
  refine callsD_of_wpS Tryz.func44 rfl fun c₀ cs hu => ?_
  apply wpS_seq
  apply wpS_region
  simp [wpOpsS, go_sem, recoverD, hu, Tryz.ntmps44, Exit.thenS]
  simp only [show Array.replicate 10 undef = #[undef, undef, undef, undef, undef, undef, undef, undef, undef, undef] from rfl]
  simp
  apply wpS_of_wp
  go_wp2
  cases c₀
  simp_all [bodyPostS, results, Tryz.results44]

/-- how what Catch is handed ends: it is done, or leaves by a panic of a code -/
def done : Option Int → Ending
  | none => .returned (.tuple #[])
  | some c => left c

set_option maxHeartbeats 400000 in
theorem catch_any (G : FuncId) (caps : Array Value) (w : World) (R : Option Int → World → Prop) (hG : ∀ w, (callFunc G caps).run Tryz.prog w = .ok (.enter G caps) w)
    (h : Calls Tryz.prog G caps (w.alloc (.cells #[.int .i64 0] 27)) fun e w' => ∃ r, e = done r ∧ R r w' ∧ Row w' w.heap.size 27 #[.int .i64 0]) :
    Calls Tryz.prog 26 #[.func (.func G) #[] caps] w fun e w' => ∃ r w1, e = .returned (.int .i64 (r.getD 0)) ∧ R r w1 ∧ Row w1 w.heap.size 27 #[.int .i64 0] ∧ w' = w1.setCell ⟨w.heap.size, 0, none⟩ (.int .i64 (r.getD 0)) := by
  have hmf : ∀ (fn : Fn) (first cap : Array Value) (w : World), (Instr.makeFunc fn first cap).run Tryz.prog w = .ok (.func fn first cap) w := fun _ _ _ _ => rfl
  have H := Lib.hid h
  clear h
  go_enter_defers Tryz.func26, Tryz.ntmps26
  go_wp2_with fail
  (with_reducible refine H.out.mono ?_)
  rintro e w1 ⟨r, rfl, hR, hrow⟩
  have c1 := hrow.cell 0
  have c2 := hrow.frozen 0
  simp only [List.getElem?_toArray, List.getElem?_cons_zero] at c1
  rcases r with _ | c
  · simp only [done]
    go_wp2_with fail
    refine leaves_cons (f := 44) (args := #[.pointer (some ⟨w.heap.size, 0, none⟩)]) (by simp) (by simp [go_sem]) ?_
    refine (idle_back ⟨w.heap.size, 0, none⟩ _).mono ?_
    rintro e u' w'' ⟨rfl, rfl, rfl⟩
    simp only [Leaves, settle]
    refine ⟨.int .i64 0, by simp [results, Tryz.results26, go_sem, c1], none, _, rfl, hR, hrow, rfl⟩
  · simp only [done, left]
    go_wp2_with fail
    refine leaves_cons (f := 44) (args := #[.pointer (some ⟨w.heap.size, 0, none⟩)]) (by simp) (by simp [go_sem]) ?_
    refine (taken_back ⟨w.heap.size, 0, none⟩ c [] _ _ c1 c2).mono ?_
    rintro e u' w'' ⟨rfl, rfl, rfl⟩
    simp only [Leaves, settle, List.dropWhile]
    refine ⟨.int .i64 c, by simp [results, Tryz.results26, go_sem, c1], some c, _, rfl, hR, hrow, rfl⟩

theorem catch_code (G : FuncId) (caps : Array Value) (w : World) (S : Nat → Prop) (Q : Option Int → World → Prop) (hG : ∀ w, (callFunc G caps).run Tryz.prog w = .ok (.enter G caps) w) (hS : ¬ S w.heap.size)
    (hQ : ∀ r w1 v, Only S (w.alloc (.cells #[.int .i64 0] 27)) w1 → Q r w1 → Q r (w1.setCell ⟨w.heap.size, 0, none⟩ v))
    (h : Calls Tryz.prog G caps (w.alloc (.cells #[.int .i64 0] 27)) fun e w' => ∃ r, e = done r ∧ Q r w' ∧ Only S (w.alloc (.cells #[.int .i64 0] 27)) w') :
    Calls Tryz.prog 26 #[.func (.func G) #[] caps] w fun e w' => ∃ r, e = .returned (.int .i64 (r.getD 0)) ∧ Q r w' ∧ Only S w w' := by
  refine (catch_any G caps w (fun r w' => Q r w' ∧ Only S (w.alloc (.cells #[.int .i64 0] 27)) w') hG (h.mono ?_)).mono ?_
  · rintro e w' ⟨r, he, hq, ho⟩
    exact ⟨r, he, ⟨hq, ho⟩, ho.row (Row.fresh _ _ _) hS⟩
  · rintro e w' ⟨r, w1, he, ⟨hq, ho⟩, _, rfl⟩
    exact ⟨r, he, hQ r w1 _ ho hq, (((Only.refl S w).alloc _).same ho).put (fun k => by simp at k) _⟩
end Go.Proofs.YtlfnncahhbbmpaaGreatDoor

namespace Go.Proofs.YtlfnncahhbbmpaaGreatDoor
open Go.RowKit
set_option linter.unusedVariables false
set_option maxRecDepth 100000

/-- a pace -/
structure Fl where
  n : Int
  a : Int
  p : Int
  g : Int
  deriving DecidableEq

namespace Fl
def val (f : Fl) : Value := .agg #[.int .i64 f.n, .int .i64 f.a, .int .i64 f.p, .int .i64 f.g]
def cells (f : Fl) : Array Value := #[.int .i64 f.n, .int .i64 f.a, .int .i64 f.p, .int .i64 f.g]

/-- each number is one of 64 bits -/
structure Wf (f : Fl) : Prop where
  n0 : -9223372036854775808 ≤ f.n
  n1 : f.n ≤ 9223372036854775807
  a0 : -9223372036854775808 ≤ f.a
  a1 : f.a ≤ 9223372036854775807
  p0 : -9223372036854775808 ≤ f.p
  p1 : f.p ≤ 9223372036854775807
  g0 : -9223372036854775808 ≤ f.g
  g1 : f.g ≤ 9223372036854775807

/-- its numbers within their bounds -/
def held (f : Fl) (d : Int) : Fl := ⟨f.n, f.a, min (max f.p 1) d, min (max f.g 0) (min (max f.p 1) d - 1)⟩
def within (f : Fl) (d b : Int) : Fl := ⟨min (max f.n 0) (min (max f.a 0) b), min (max f.a 0) b, (f.held d).p, (f.held d).g⟩

/-- a pace that may be -/
structure May (f : Fl) (d b : Int) : Prop where
  d0 : 1 ≤ d
  d1 : d ≤ 16
  b0 : 1 ≤ b
  b1 : b ≤ 256
  n0 : 0 ≤ f.n
  na : f.n ≤ f.a
  ab : f.a ≤ b
  p0 : 1 ≤ f.p
  pd : f.p ≤ d
  g0 : 0 ≤ f.g
  gp : f.g ≤ f.p - 1
instance (f : Fl) (d b : Int) : Decidable (f.May d b) :=
  decidable_of_iff ((1 ≤ d ∧ d ≤ 16 ∧ 1 ≤ b ∧ b ≤ 256) ∧ (0 ≤ f.n ∧ f.n ≤ f.a ∧ f.a ≤ b) ∧ (1 ≤ f.p ∧ f.p ≤ d ∧ 0 ≤ f.g ∧ f.g ≤ f.p - 1))
    ⟨fun ⟨⟨a, b, c, d⟩, ⟨e, f, g⟩, ⟨h, i, j, k⟩⟩ => ⟨a, b, c, d, e, f, g, h, i, j, k⟩, fun h => ⟨⟨h.d0, h.d1, h.b0, h.b1⟩, ⟨h.n0, h.na, h.ab⟩, ⟨h.p0, h.pd, h.g0, h.gp⟩⟩⟩
end Fl

theorem within_iff (f : Fl) (d b : Int) (h : 1 ≤ d ∧ d ≤ 16 ∧ 1 ≤ b ∧ b ≤ 256) : f.May d b ↔ f = f.within d b := by
  obtain ⟨n, a, p, g⟩ := f
  unfold Fl.within Fl.held
  constructor
  · rintro ⟨_, _, _, _, h1, h2, h3, h4, h5, h6, h7⟩
    simp only [Fl.mk.injEq]
    simp only at h1 h2 h3 h4 h5 h6 h7
    omega
  · intro e
    simp only [Fl.mk.injEq] at e
    constructor <;> (try dsimp only) <;> omega

theorem fl_eq (f g : Fl) : decide (f = g) = (f.n == g.n && (f.a == g.a && (f.p == g.p && f.g == g.g))) := by
  obtain ⟨a, b, c, d⟩ := f
  obtain ⟨a', b', c', d'⟩ := g
  rw [Bool.eq_iff_iff]
  simp
theorem eq_fl (f g : Fl) (w : World) : (Op.equalIn 10000 102 (.agg #[.int .i64 f.n, .int .i64 f.a, .int .i64 f.p, .int .i64 f.g]) (.agg #[.int .i64 g.n, .int .i64 g.a, .int .i64 g.p, .int .i64 g.g])).run Tryz.prog w = .ok (decide (f = g)) w := by
  rw [fl_eq]
  simp [go_sem]
  by_cases h1 : f.n = g.n <;> by_cases h2 : f.a = g.a <;> by_cases h3 : f.p = g.p <;> by_cases h4 : f.g = g.g <;> simp [h1, h2, h3, h4]

/-- two new blocks -/
def Two (w w' : World) : Prop := ∃ o1 o2, w' = (w.alloc o1).alloc o2
theorem Two.only {w w' : World} (h : Two w w') : Only none_ w w' := by
  obtain ⟨o1, o2, rfl⟩ := h
  exact ((Only.refl none_ w).alloc _).alloc _

set_option maxHeartbeats 400000 in
theorem pheld_any (f : Fl) (d : Int) (w : World) (hd : 1 ≤ d) (hd2 : d ≤ 9223372036854775807) :
    Calls Tryz.prog 140 #[f.val, .int .i64 d] w fun e w' => e = .returned (f.held d).val ∧ Two w w' := by
  have h : IntKind.i64.wrap (min (max f.p 1) d - 1) = min (max f.p 1) d - 1 := by rw [IntKind.wrap_i64]; omega
  clear hd hd2
  go_enter Tryz.func140, Tryz.ntmps140
  unfold Fl.val
  go_wp2
  exact bodyPost_ret (v := .agg #[.int .i64 f.n, .int .i64 f.a, .int .i64 (min (max f.p 1) d), .int .i64 (min (max f.g 0) (min (max f.p 1) d - 1))]) (by simp [results, Tryz.results140, go_sem]) rfl ⟨rfl, _, _, rfl⟩

set_option maxHeartbeats 400000 in
theorem within_any (f : Fl) (d b : Int) (w : World) (hd : 1 ≤ d) (hd2 : d ≤ 9223372036854775807) :
    Calls Tryz.prog 109 #[f.val, .int .i64 d, .int .i64 b] w fun e w' => e = .returned (f.within d b).val ∧ Only none_ w w' := by
  have H := Lib.hid (fun w => pheld_any f d w hd hd2)
  clear hd hd2
  go_enter Tryz.func109, Tryz.ntmps109
  unfold Fl.val at H ⊢
  go_wp2_with fail
  (with_reducible refine (H.out _).mono ?_)
  rintro e w1 ⟨rfl, o1, o2, rfl⟩
  have P := Lib.hid (show (f.within d b).p = (f.held d).p from rfl)
  have G := Lib.hid (show (f.within d b).g = (f.held d).g from rfl)
  generalize (f.held d).p = p at *
  generalize (f.held d).g = g at *
  dsimp only [Fl.held]
  clear H
  go_wp2_with fail
  exact bodyPost_ret (v := .agg #[.int .i64 (min (max f.n 0) (min (max f.a 0) b)), .int .i64 (min (max f.a 0) b), .int .i64 p, .int .i64 g]) (by simp [results, Tryz.results109, go_sem]) rfl
    ⟨by rw [P.out, G.out]; rfl, ((((Only.refl none_ w).alloc _).alloc _).alloc _).alloc _⟩

theorem admit_deg (f : Fl) (d b : Int) (w : World) (h : d < 1 ∨ 16 < d) :
    Calls Tryz.prog 72 #[f.val, .int .i64 d, .int .i64 b] w fun e w' => e = left 1 ∧ Only none_ w w' := by
  unfold Fl.val
  have t : decide (1 ≤ d) = false ∨ (decide (1 ≤ d) = true ∧ decide (d ≤ 16) = false) := by simp; omega
  clear h
  rcases t with t | ⟨t1, t2⟩
  all_goals
    go_enter Tryz.func72, Tryz.ntmps72
    go_wp2_with fail
    (with_reducible refine (unless_no _ _).mono ?_)
    rintro e w' ⟨rfl, rfl⟩
    go_wp2_with fail
    exact ⟨rfl, rfl, (Only.refl none_ w).alloc _⟩
theorem admit_blk (f : Fl) (d b : Int) (w : World) (h : 1 ≤ d ∧ d ≤ 16) (hb : b < 1 ∨ 256 < b) :
    Calls Tryz.prog 72 #[f.val, .int .i64 d, .int .i64 b] w fun e w' => e = left 1 ∧ Only none_ w w' := by
  unfold Fl.val
  have t : decide (1 ≤ b) = false ∨ (decide (1 ≤ b) = true ∧ decide (b ≤ 256) = false) := by simp; omega
  have t1 : decide (1 ≤ d) = true := by simp; omega
  have t2 : decide (d ≤ 16) = true := by simp; omega
  clear h hb
  rcases t with t | ⟨t3, t4⟩
  all_goals
    go_enter Tryz.func72, Tryz.ntmps72
    go_wp2_with fail
    (with_reducible refine (unless_yes _ _).mono ?_)
    rintro e w' ⟨rfl, rfl⟩
    go_wp2_with fail
    (with_reducible refine (unless_no _ _).mono ?_)
    rintro e w' ⟨rfl, rfl⟩
    go_wp2_with fail
    exact ⟨rfl, rfl, (Only.refl none_ w).alloc _⟩

set_option maxHeartbeats 400000 in
theorem admit_in (f : Fl) (d b : Int) (w : World) (h : 1 ≤ d ∧ d ≤ 16 ∧ 1 ≤ b ∧ b ≤ 256) (r : Bool) (hr : decide (f.May d b) = r) :
    Calls Tryz.prog 72 #[f.val, .int .i64 d, .int .i64 b] w fun e w' => e = done (if r then none else some 1) ∧ Only none_ w w' := by
  have t1 : decide (1 ≤ d) = true := by simp; omega
  have t2 : decide (d ≤ 16) = true := by simp; omega
  have t3 : decide (1 ≤ b) = true := by simp; omega
  have t4 : decide (b ≤ 256) = true := by simp; omega
  have H := Lib.hid (fun w => within_any f d b w (by omega) (by omega))
  have EQ := fun w => eq_fl f (f.within d b) w
  have e0 : decide (f = f.within d b) = r := by rw [← hr]; exact decide_eq_decide.2 (within_iff f d b h).symm
  rw [e0] at EQ
  clear h hr e0
  unfold Fl.val at H ⊢
  go_enter Tryz.func72, Tryz.ntmps72
  go_wp2_with fail
  (with_reducible refine (unless_yes _ _).mono ?_)
  rintro e w' ⟨rfl, rfl⟩
  go_wp2_with fail
  (with_reducible refine (unless_yes _ _).mono ?_)
  rintro e w' ⟨rfl, rfl⟩
  go_wp2_with fail
  have r0 := Lib.hid (Row.fresh w 102 #[.int .i64 f.n, .int .i64 f.a, .int .i64 f.p, .int .i64 f.g])
  have OA := Lib.hid ((Only.refl none_ w).alloc (.cells #[.int .i64 f.n, .int .i64 f.a, .int .i64 f.p, .int .i64 f.g] 102))
  generalize w.alloc (.cells #[.int .i64 f.n, .int .i64 f.a, .int .i64 f.p, .int .i64 f.g] 102) = w0 at *
  have OD := Lib.hid (Only.refl none_ w0).drew
  obtain ⟨c0, c1, c2, c3⟩ := (OD.out.still r0.out).four
  have RF := Lib.hid (fun w' (o : Only none_ w0 w') => (o.still r0.out).four)
  cases r
  · refine wp_region_any (by kernel_rfl) ?_
    change wpAny _ _ _ _ _ _ _ (World.drew _)
    refine wpAny_take (i := 2) (v := ?_) rfl (by kernel_rfl) (by kernel_rfl) (by kernel_rfl) (fun _ _ _ h => h) (Or.inl ⟨by rfl, ?_⟩) ?_
    rotate_left
    · intro w; go_simp
      with_reducible rfl
    refine wpAny_take (i := 3) (v := ?_) rfl (by kernel_rfl) (by kernel_rfl) (by kernel_rfl) (fun _ _ _ h => h) (Or.inl ⟨by rfl, ?_⟩) ?_
    rotate_left
    · intro w; go_simp
      with_reducible rfl
    refine wpAny_ready (rs := [0, 1]) (by kernel_rfl) (by simp) ?_
    refine AllReady.cons rfl (fun K hK => ?_) (AllReady.cons rfl (fun K hK => ?_) AllReady.nil)
    · go_simp
      refine hK _ _ ?_; clear hK K
      refine wpAny_ready (rs := [1]) (by kernel_rfl) (by simp) ?_
      refine AllReady.cons rfl (fun K hK => ?_) AllReady.nil
      go_simp
      refine hK _ _ ?_; clear hK K
      refine wpAny_ready (rs := [4]) (by kernel_rfl) (by simp) ?_
      refine AllReady.cons rfl (fun K hK => ?_) AllReady.nil
      go_simp
      go_wp2_with fail
      (with_reducible refine (H.out _).mono ?_)
      rintro e w1 ⟨rfl, o1⟩
      have O1 := Lib.hid (OD.out.same o1)
      obtain ⟨e0, e1, e2, e3⟩ := RF.out _ O1.out
      go_simp
      refine hK _ _ ?_; clear hK K
      refine wpAny_ready (rs := [5]) (by kernel_rfl) (by simp) ?_
      refine AllReady.cons rfl (fun K hK => ?_) AllReady.nil
      go_simp
      refine hK _ _ ?_; clear hK K
      refine wpAny_ready (rs := [6]) (by kernel_rfl) (by simp) ?_
      refine AllReady.cons rfl (fun K hK => ?_) AllReady.nil
      go_simp
      go_wp2_with fail
      (with_reducible refine (unless_no _ _).mono ?_)
      rintro e w2 ⟨rfl, rfl⟩
      exact ⟨rfl, rfl, OA.out.same O1.out⟩
    · go_simp
      refine hK _ _ ?_; clear hK K
      refine wpAny_ready (rs := [0, 4]) (by kernel_rfl) (by simp) ?_
      refine AllReady.cons rfl (fun K hK => ?_) (AllReady.cons rfl (fun K hK => ?_) AllReady.nil)
      · go_simp
        refine hK _ _ ?_; clear hK K
        refine wpAny_ready (rs := [4]) (by kernel_rfl) (by simp) ?_
        refine AllReady.cons rfl (fun K hK => ?_) AllReady.nil
        go_simp
        go_wp2_with fail
        (with_reducible refine (H.out _).mono ?_)
        rintro e w1 ⟨rfl, o1⟩
        have O1 := Lib.hid (OD.out.same o1)
        obtain ⟨e0, e1, e2, e3⟩ := RF.out _ O1.out
        go_simp
        refine hK _ _ ?_; clear hK K
        refine wpAny_ready (rs := [5]) (by kernel_rfl) (by simp) ?_
        refine AllReady.cons rfl (fun K hK => ?_) AllReady.nil
        go_simp
        refine hK _ _ ?_; clear hK K
        refine wpAny_ready (rs := [6]) (by kernel_rfl) (by simp) ?_
        refine AllReady.cons rfl (fun K hK => ?_) AllReady.nil
        go_simp
        go_wp2_with fail
        (with_reducible refine (unless_no _ _).mono ?_)
        rintro e w2 ⟨rfl, rfl⟩
        exact ⟨rfl, rfl, OA.out.same O1.out⟩
      · go_simp
        go_wp2_with fail
        (with_reducible refine (H.out _).mono ?_)
        rintro e w1 ⟨rfl, o1⟩
        have O1 := Lib.hid (OD.out.same o1)
        obtain ⟨e0, e1, e2, e3⟩ := RF.out _ O1.out
        go_simp
        refine hK _ _ ?_; clear hK K
        refine wpAny_ready (rs := [0]) (by kernel_rfl) (by simp) ?_
        refine AllReady.cons rfl (fun K hK => ?_) AllReady.nil
        go_simp
        refine hK _ _ ?_; clear hK K
        refine wpAny_ready (rs := [5]) (by kernel_rfl) (by simp) ?_
        refine AllReady.cons rfl (fun K hK => ?_) AllReady.nil
        go_simp
        refine hK _ _ ?_; clear hK K
        refine wpAny_ready (rs := [6]) (by kernel_rfl) (by simp) ?_
        refine AllReady.cons rfl (fun K hK => ?_) AllReady.nil
        go_simp
        go_wp2_with fail
        (with_reducible refine (unless_no _ _).mono ?_)
        rintro e w2 ⟨rfl, rfl⟩
        exact ⟨rfl, rfl, OA.out.same O1.out⟩
  · go_region_held3 (fun w' => w'.cell? ⟨w.heap.size, 0, none⟩ = some (.int .i64 f.n) ∧ w'.cell? ⟨w.heap.size, 1, none⟩ = some (.int .i64 f.a) ∧ w'.cell? ⟨w.heap.size, 2, none⟩ = some (.int .i64 f.p) ∧ w'.cell? ⟨w.heap.size, 3, none⟩ = some (.int .i64 f.g))
      (first
        | (with_reducible exact RF.out _ O1.out)
        | (with_reducible exact RF.out _ OD.out)
        | fail)
      (first
        | (go_at_call 109; (with_reducible refine (H.out _).mono ?_); rintro e w1 ⟨rfl, o1⟩; have O1 := Lib.hid (OD.out.same o1))
        | (go_at_call 45; (with_reducible refine (unless_yes _ _).mono ?_); rintro e w2 ⟨rfl, rfl⟩)
        | fail)
    go_wp2_with fail
    go_end0
    exact ⟨rfl, OA.out.same O1.out⟩
end Go.Proofs.YtlfnncahhbbmpaaGreatDoor

namespace Go.Proofs.YtlfnncahhbbmpaaGreatDoor
open Go.RowKit
set_option linter.unusedVariables false
set_option maxRecDepth 100000

/-- a run -/
structure Rn where
  f : Int
  c : Int
  deriving DecidableEq
def Rn.cells (r : Rn) : Array Value := #[.int .i64 r.f, .int .i64 r.c]
def Rn.val (r : Rn) : Value := .agg #[.int .i64 r.f, .int .i64 r.c]

namespace Fl
def moved (f : Fl) (c d : Int) : Fl := ⟨f.n + c, max f.a (f.n + c), if f.n < f.a ∧ f.a ≤ f.n + c then min (f.p + 1) d else f.p, f.g⟩
def room (f : Fl) (b : Int) : Int := min f.p (b - f.a)
def askF (f : Fl) (b : Int) : Fl := if f.a - f.n ≤ f.g ∧ f.room b ≠ 0 then ⟨f.n, f.a + f.room b, f.p, f.g⟩ else f
def askR (f : Fl) (b : Int) : Rn := if f.a - f.n ≤ f.g ∧ f.room b ≠ 0 then ⟨f.a, f.room b⟩ else ⟨0, 0⟩
/-- a read's code -/
def readC (f : Fl) (c d b : Int) : Int := if f.May d b ∧ 1 ≤ c ∧ c ≤ 8 then if f.n + c ≤ b then 0 else 6 else 1
def readF (f : Fl) (c d b : Int) : Fl := if f.readC c d b = 0 then (f.moved c d).askF b else ⟨0, 0, 0, 0⟩
def readR (f : Fl) (c d b : Int) : Rn := if f.readC c d b = 0 then (f.moved c d).askR b else ⟨0, 0⟩
end Fl

theorem moved_may {f : Fl} {c d b : Int} (h : f.May d b) (h1 : 1 ≤ c) (h8 : c ≤ 8) (hb : f.n + c ≤ b) : (f.moved c d).May d b := by
  obtain ⟨x1, x2, x3, x4, x5, x6, x7, x8, x9, x10, x11⟩ := h
  unfold Fl.moved
  constructor <;> (try dsimp only) <;> (try split) <;> omega
theorem ask_may {f : Fl} {d b : Int} (h : f.May d b) : (f.askF b).May d b := by
  obtain ⟨x1, x2, x3, x4, x5, x6, x7, x8, x9, x10, x11⟩ := h
  unfold Fl.askF Fl.room
  split
  · constructor <;> (try dsimp only) <;> omega
  · exact ⟨x1, x2, x3, x4, x5, x6, x7, x8, x9, x10, x11⟩

set_option maxHeartbeats 400000 in
theorem moved_any (f : Fl) (c d b : Int) (w : World) (h : f.May d b) (h1 : 1 ≤ c) (h8 : c ≤ 8) (hb : f.n + c ≤ b) :
    Calls Tryz.prog 163 #[f.val, .int .i64 c, .int .i64 d] w fun e w' => e = .returned (f.moved c d).val ∧ Only none_ w w' := by
  obtain ⟨x1, x2, x3, x4, x5, x6, x7, x8, x9, x10, x11⟩ := h
  have v1 : IntKind.i64.wrap (f.n + c) = f.n + c := by rw [IntKind.wrap_i64]; omega
  have v2 : IntKind.i64.wrap (f.p + 1) = f.p + 1 := by rw [IntKind.wrap_i64]; omega
  have HH := Lib.hid (fun g w => pheld_any g d w (by omega) (by omega))
  have MV := Lib.hid (show f.moved c d = if f.n < f.a ∧ f.a ≤ f.n + c then (Fl.mk (f.n + c) (max f.a (f.n + c)) (f.p + 1) f.g).held d else (Fl.mk (f.n + c) (max f.a (f.n + c)) f.p f.g).held d from by
    unfold Fl.moved Fl.held
    by_cases hc : f.n < f.a ∧ f.a ≤ f.n + c
    · simp only [if_pos hc, Fl.mk.injEq, true_and]; omega
    · simp only [if_neg hc, Fl.mk.injEq, true_and]; omega)
  have t : (decide (f.n < f.a) = false ∨ (decide (f.n < f.a) = true ∧ decide (f.a ≤ f.n + c) = false)) ∨ (decide (f.n < f.a) = true ∧ decide (f.a ≤ f.n + c) = true) := by simp; omega
  clear x1 x2 x3 x4 x5 x6 x7 x8 x9 x10 x11 h1 h8 hb
  rcases t with t | ⟨t1, t2⟩
  · replace MV := Lib.hid (show f.moved c d = (Fl.mk (f.n + c) (max f.a (f.n + c)) f.p f.g).held d from by
      rw [MV.out, if_neg]; simp only [decide_eq_false_iff_not, decide_eq_true_eq] at t; omega)
    rcases t with t | ⟨t1, t2⟩
    all_goals
      go_enter Tryz.func163, Tryz.ntmps163
      unfold Fl.val at HH ⊢
      go_wp2_with fail
      (with_reducible refine (HH.out ⟨f.n + c, max f.a (f.n + c), f.p, f.g⟩ _).mono ?_)
      rintro e w1 ⟨rfl, o1, o2, rfl⟩
      have MV' := Lib.hid MV.out.symm
      generalize (Fl.mk (f.n + c) (max f.a (f.n + c)) f.p f.g).held d = q at *
      go_wp2_with fail
      exact bodyPost_ret (v := .agg #[.int .i64 q.n, .int .i64 q.a, .int .i64 q.p, .int .i64 q.g]) (by simp [results, Tryz.results163, go_sem]) rfl
        ⟨by rw [MV.out], ((((Only.refl none_ w).alloc _).alloc _).alloc _).alloc _⟩
  · replace MV := Lib.hid (show f.moved c d = (Fl.mk (f.n + c) (max f.a (f.n + c)) (f.p + 1) f.g).held d from by
      rw [MV.out, if_pos]; simp only [decide_eq_true_eq] at t1 t2; omega)
    go_enter Tryz.func163, Tryz.ntmps163
    unfold Fl.val at HH ⊢
    go_wp2_with fail
    (with_reducible refine (HH.out ⟨f.n + c, max f.a (f.n + c), f.p + 1, f.g⟩ _).mono ?_)
    rintro e w1 ⟨rfl, o1, o2, rfl⟩
    generalize (Fl.mk (f.n + c) (max f.a (f.n + c)) (f.p + 1) f.g).held d = q at *
    go_wp2_with fail
    exact bodyPost_ret (v := .agg #[.int .i64 q.n, .int .i64 q.a, .int .i64 q.p, .int .i64 q.g]) (by simp [results, Tryz.results163, go_sem]) rfl
      ⟨by rw [MV.out], ((((Only.refl none_ w).alloc _).alloc _).alloc _).alloc _⟩

set_option maxHeartbeats 400000 in
theorem ask_any (f : Fl) (d b : Int) (w : World) (h : f.May d b) :
    Calls Tryz.prog 162 #[f.val, .int .i64 b] w fun e w' => e = .returned (.tuple #[(f.askF b).val, (f.askR b).val]) ∧ Only none_ w w' := by
  obtain ⟨x1, x2, x3, x4, x5, x6, x7, x8, x9, x10, x11⟩ := h
  have v1 : IntKind.i64.wrap (b - f.a) = b - f.a := by rw [IntKind.wrap_i64]; omega
  have v2 : IntKind.i64.wrap (f.a - f.n) = f.a - f.n := by rw [IntKind.wrap_i64]; omega
  have v3 : IntKind.i64.wrap (f.a + min f.p (b - f.a)) = f.a + min f.p (b - f.a) := by rw [IntKind.wrap_i64]; omega
  have t : (decide (f.g < f.a - f.n) = true ∨ (decide (f.g < f.a - f.n) = false ∧ (min f.p (b - f.a) == 0) = true)) ∨ (decide (f.g < f.a - f.n) = false ∧ (min f.p (b - f.a) == 0) = false) := by simp; omega
  clear x1 x2 x3 x4 x5 x6 x7 x8 x9 x10 x11
  rcases t with t | ⟨t1, t2⟩
  · have A := Lib.hid (show f.askF b = f from by unfold Fl.askF Fl.room; rw [if_neg]; simp only [beq_iff_eq, decide_eq_false_iff_not, decide_eq_true_eq] at t; omega)
    have B := Lib.hid (show f.askR b = ⟨0, 0⟩ from by unfold Fl.askR Fl.room; rw [if_neg]; simp only [beq_iff_eq, decide_eq_false_iff_not, decide_eq_true_eq] at t; omega)
    rcases t with t | ⟨t1, t2⟩
    all_goals
      go_enter Tryz.func162, Tryz.ntmps162
      unfold Fl.val Rn.val
      go_wp2_with fail
      exact bodyPost_ret (v := .tuple #[.agg #[.int .i64 f.n, .int .i64 f.a, .int .i64 f.p, .int .i64 f.g], .agg #[.int .i64 0, .int .i64 0]]) (by simp [results, Tryz.results162, go_sem]) rfl
        ⟨by rw [A.out, B.out], ((((Only.refl none_ w).alloc _).alloc _).alloc _).alloc _⟩
  · have A := Lib.hid (show f.askF b = ⟨f.n, f.a + min f.p (b - f.a), f.p, f.g⟩ from by unfold Fl.askF Fl.room; rw [if_pos]; simp only [beq_eq_false_iff_ne, decide_eq_false_iff_not] at t1 t2; omega)
    have B := Lib.hid (show f.askR b = ⟨f.a, min f.p (b - f.a)⟩ from by unfold Fl.askR Fl.room; rw [if_pos]; simp only [beq_eq_false_iff_ne, decide_eq_false_iff_not] at t1 t2; omega)
    go_enter Tryz.func162, Tryz.ntmps162
    unfold Fl.val Rn.val
    go_wp2_with fail
    go_region
    all_goals
      go_wp2_with fail
      exact bodyPost_ret (v := .tuple #[.agg #[.int .i64 f.n, .int .i64 (f.a + min f.p (b - f.a)), .int .i64 f.p, .int .i64 f.g], .agg #[.int .i64 f.a, .int .i64 (min f.p (b - f.a))]]) (by simp [results, Tryz.results162, go_sem]) rfl
        ⟨by rw [A.out, B.out], (((((Only.refl none_ w).alloc _).alloc _).alloc _).alloc _).drew⟩
end Go.Proofs.YtlfnncahhbbmpaaGreatDoor

/- Lanes in memory: a row of slices, one for each block, and a map of where tickets stand; New, and what only reads. -/
import Derived.Test.YtjeiaialnanemaaMd11
import Derived.Test.YtjeiaialnanemaaInt11
import Derived.Test.YtjeiaialnanemaaRl
namespace Go.Proofs.Ytjeiaialnanemaa
open Go.RowKit Go.Maps
set_option linter.unusedVariables false

/-- lanes at block p: their slices at block r, the map at block b; all their blocks are among M -/
structure LL (w : World) (p r b : Nat) (vs : List Value) (M : Nat → Prop) (n room : Nat) (ss : List Sd) : Prop where
  row : Row w p 55 #[.slice (some ⟨r, 0, none⟩) n n, .int .i64 room, .map (some b)]
  rows : Row w r 57 vs.toArray
  len : vs.length = n
  lanes : ∀ (i : Nat) v, vs[i]? = some v → OwnsInts w 0 v (laneL ss (i : Int))
  apart : ∀ (i j : Nat) u v g, vs[i]? = some u → vs[j]? = some v → u.ownBlock = some g → v.ownBlock = some g → i = j
  md : Md w b ss
  once : Once ss
  inb : ∀ s ∈ ss, 0 ≤ s.b ∧ s.b < n
  mp : M p
  mr : M r
  mb : M b
  mv : ∀ (i : Nat) v g, vs[i]? = some v → v.ownBlock = some g → M g
  lt : ∀ g, M g → g < w.heap.size
theorem LL.keep {w w' : World} {p r b : Nat} {vs : List Value} {M : Nat → Prop} {n room : Nat} {ss : List Sd} (h : LL w p r b vs M n room ss) {S : Nat → Prop} (o : Only S w w') (hn : ∀ g, M g → ¬ S g) : LL w' p r b vs M n room ss :=
  ⟨o.row h.row (hn p h.mp), o.row h.rows (hn r h.mr), h.len, fun i v hv => (h.lanes i v hv).keep o (fun g hg => hn g (h.mv i v g hv hg)), h.apart, h.md.keep o (hn b h.mb), h.once, h.inb, h.mp, h.mr, h.mb, h.mv, fun g hg => Nat.lt_of_lt_of_le (h.lt g hg) o.size⟩
theorem LL.still {w w' : World} {p r b : Nat} {vs : List Value} {M : Nat → Prop} {n room : Nat} {ss : List Sd} (h : LL w p r b vs M n room ss) (o : Only none_ w w') : LL w' p r b vs M n room ss := h.keep o (fun _ _ s => s)
theorem LL.out {w : World} {p r b : Nat} {vs : List Value} {M : Nat → Prop} {n room : Nat} {ss : List Sd} (h : LL w p r b vs M n room ss) {x : Int} (hx : ¬ (0 ≤ x ∧ x < n)) : laneL ss x = [] := by
  unfold laneL
  rw [List.map_eq_nil_iff, List.filter_eq_nil_iff]
  intro s hs e
  have e : s.b = x := by simpa using e
  have := h.inb s hs
  omega
/-- lanes at block p, wherever their parts lie -/
def Ln (w : World) (p : Nat) (M : Nat → Prop) (n room : Nat) (ss : List Sd) : Prop := ∃ r b vs, LL w p r b vs M n room ss
theorem Ln.keep {w w' : World} {p : Nat} {M : Nat → Prop} {n room : Nat} {ss : List Sd} (h : Ln w p M n room ss) {S : Nat → Prop} (o : Only S w w') (hn : ∀ g, M g → ¬ S g) : Ln w' p M n room ss := by
  obtain ⟨r, b, vs, h⟩ := h
  exact ⟨r, b, vs, h.keep o hn⟩
theorem Ln.still {w w' : World} {p : Nat} {M : Nat → Prop} {n room : Nat} {ss : List Sd} (h : Ln w p M n room ss) (o : Only none_ w w') : Ln w' p M n room ss := h.keep o (fun _ _ s => s)
/-- behind a call: its blocks are those that it had, and new ones -/
def LnTo (w : World) (p : Nat) (M : Nat → Prop) (n room : Nat) (ss : List Sd) (w' : World) : Prop := (∃ M' : Nat → Prop, Ln w' p M' n room ss ∧ ∀ g, M' g → M g ∨ w.heap.size ≤ g) ∧ Only M w w'
theorem Ln.to {w w' : World} {p : Nat} {M : Nat → Prop} {n room : Nat} {ss : List Sd} (h : Ln w p M n room ss) (o : Only none_ w w') : LnTo w p M n room ss w' := ⟨⟨M, h.still o, fun g hg => .inl hg⟩, o.more (fun _ _ k => k.elim)⟩

theorem nil1 (v : Value) : ([v] : List Value).length = 1 := rfl
theorem info_row : (Try.prog.info? 57).map (fun i => (i.zero, i.size, i.bytes)) = some (some (.slice none 0 0), 1, 24) := by kernel_rfl
set_option maxHeartbeats 1000000 in
theorem lnew_yes (n room : Nat) (w : World) (h1 : 1 ≤ n) (h2 : n ≤ 256) (h3 : 1 ≤ room) (h4 : room ≤ 128) :
    Calls Try.prog 9 #[.int .i64 n, .int .i64 room] w fun e w' => ∃ p, e = .returned (.tuple #[.pointer (some ⟨p, 0, none⟩), .int .i64 0]) ∧ (∃ M : Nat → Prop, Ln w' p M n room [] ∧ ∀ g, M g → w.heap.size ≤ g) ∧ Only none_ w w' := by
  have hmm := @run_makeMap Try.prog
  obtain ⟨i0, hi0, hz0, hz1, hz2⟩ := info_parts info_row
  have MK := run_make_flat (P := Try.prog) (c := fun v : Value => [v]) (.slice none 0 0) nil1 (by decide) 52 57 i0 (.slice none 0 0) Try.underlying52 hi0 hz0 hz1 rfl .i64 .i64 n (by rw [hz2]; omega) (by omega)
  have d1 : decide ((n : Int) < 1) = false := by simp; omega
  have d2 : decide ((256 : Int) < (n : Int)) = false := by simp; omega
  have d3 : decide ((room : Int) < 1) = false := by simp; omega
  have d4 : decide ((128 : Int) < (room : Int)) = false := by simp; omega
  have FL := Lib.hid (show flat (fun v : Value => [v]) (List.replicate n (.slice none 0 0)) = (List.replicate n (.slice none 0 0)).toArray from by unfold flat; simp)
  rw [FL.out] at MK
  clear h1 h2 h3 h4 hi0 hz0 hz1 hz2
  generalize hVS : List.replicate n (Value.slice none 0 0) = vs at MK
  have VS := Lib.hid hVS
  clear hVS FL
  go_enter Try.func9, Try.ntmps9
  go_wp2
  go_ret2
  have r0 := Row.fresh w 57 vs.toArray
  have o0 := World.ownsMap_made (H := Unit) (w.alloc (.cells vs.toArray 57)) Try.prog 3 (plainElem Try.prog 3)
  have r1 := Row.fresh ((w.alloc (.cells vs.toArray 57)).alloc (.map #[] 0)) 55 #[.slice (some ⟨w.heap.size, 0, none⟩) n n, .int .i64 room, .map (some (w.heap.size + 1))]
  simp only [World.size_alloc] at r1 o0
  have ev : ∀ (i : Nat) v, vs[i]? = some v → v = .slice none 0 0 := fun i v hv => by
    rw [← VS.out] at hv
    exact List.eq_of_mem_replicate (List.mem_of_getElem? hv)
  refine ⟨w.heap.size + 1 + 1, rfl, ⟨fun g => w.heap.size ≤ g ∧ g < w.heap.size + 3, ⟨w.heap.size, w.heap.size + 1, vs, ?_⟩, fun g hg => hg.1⟩, (((Only.refl _ _).alloc _).alloc _).alloc _⟩
  exact {
    row := r1
    rows := (r0.alloc _).alloc _
    len := by rw [← VS.out]; simp
    lanes := fun i v hv => by rw [ev i v hv]; exact Owns.start _ _ _ _ _
    apart := fun i j u v g hu hv k _ => by rw [ev i u hu] at k; cases k
    md := ⟨_, o0.alloc _, Reads11.nil⟩
    once := List.Pairwise.nil
    inb := fun s hs => by cases hs
    mp := by constructor <;> omega
    mr := by constructor <;> omega
    mb := by constructor <;> omega
    mv := fun i v g hv k => by rw [ev i v hv] at k; cases k
    lt := fun g hg => by simp only [World.size_alloc]; omega }
theorem lnew_no (n room : Int) (w : World) (h : may11 n room = false) :
    Calls Try.prog 9 #[.int .i64 n, .int .i64 room] w fun e w' => e = .returned (.tuple #[.pointer none, .int .i64 1]) ∧ w = w' := by
  have h := of_decide_eq_false h
  by_cases h1 : n < 1
  · have d1 : decide (n < 1) = true := by simpa using h1
    clear h h1
    go_enter Try.func9, Try.ntmps9
    go_wp2
    go_ret2
    exact ⟨rfl, rfl⟩
  · have d1 : decide (n < 1) = false := by simpa using h1
    by_cases h2 : 256 < n
    · have d2 : decide (256 < n) = true := by simpa using h2
      clear h h1 h2
      go_enter Try.func9, Try.ntmps9
      go_wp2
      go_ret2
      exact ⟨rfl, rfl⟩
    · have d2 : decide (256 < n) = false := by simpa using h2
      by_cases h3 : room < 1
      · have d3 : decide (room < 1) = true := by simpa using h3
        clear h h1 h2 h3
        go_enter Try.func9, Try.ntmps9
        go_wp2
        go_ret2
        exact ⟨rfl, rfl⟩
      · have d3 : decide (room < 1) = false := by simpa using h3
        have d4 : decide (128 < room) = true := by simp; omega
        clear h h1 h2 h3
        go_enter Try.func9, Try.ntmps9
        go_wp2
        go_ret2
        exact ⟨rfl, rfl⟩
end Go.Proofs.Ytjeiaialnanemaa

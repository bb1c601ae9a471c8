/- Texts of the layers below, side by side. -/
import Derived.WalkKit
import Derived.Lib.Hide
import Derived.Deep.QuietTactic
import Derived.BigQuiet
import Derived.Test.YtfbpjobobdidiaaGreatDoorChecked
import Derived.ProofKit
import Derived.OpenShut
import Derived.Deep.Slices
import Derived.Deep.Fields
import Derived.OwnWalk
import Derived.Laws.OwnMore
import Derived.Maps.AppendAt
import Derived.Deep.RegionLaw
import Derived.WalkLawsBesides
import Derived.Test.YtfbpjobobdidiaaGreatDoorProg
import Derived.BigRegion
import Derived.Maps.RangeWalk
import Derived.Maps.OwnSet
import Derived.Maps.OwnOps
/- Plain facts of memory: a block known whole, which blocks may have turned, rows of structs. No condition but what each says. -/
namespace Go.Proofs.YtfbpjobobdidiaaGreatDoor
open Go.RowKit

/-- block g holds just these cells, of elements of type t, none frozen -/
def Row (w : World) (g : Nat) (t : TypeId) (cs : Array Value) : Prop := w.heap[g]? = some (.cells cs t (0, 0))

theorem Row.lt {w : World} {g : Nat} {t : TypeId} {cs : Array Value} (h : Row w g t cs) : g < w.heap.size := by
  rcases Nat.lt_or_ge g w.heap.size with k | k
  · exact k
  · have h' := h
    unfold Row at h'
    rw [Array.getElem?_eq_none k] at h'
    cases h'
theorem Row.cell {w : World} {g : Nat} {t : TypeId} {cs : Array Value} (h : Row w g t cs) (i : Nat) : w.cell? ⟨g, i, none⟩ = cs[i]? := by
  unfold Row at h
  simp [World.cell?, h]
theorem Row.frozen {w : World} {g : Nat} {t : TypeId} {cs : Array Value} (h : Row w g t cs) (i : Nat) : w.frozen? ⟨g, i, none⟩ = false := by
  unfold Row at h
  simp [World.frozen?, h]
theorem Row.fresh (w : World) (t : TypeId) (cs : Array Value) : Row (w.alloc (.cells cs t)) w.heap.size t cs := by
  show (w.heap.push _)[w.heap.size]? = _
  simp
theorem Row.put {w : World} {g : Nat} {t : TypeId} {cs : Array Value} (h : Row w g t cs) (i : Nat) (v : Value) : Row (w.setCell ⟨g, i, none⟩ v) g t (cs.setIfInBounds i v) := by
  unfold Row at h ⊢
  simp [World.setCell, Array.getElem?_modify, h]
theorem Row.far {w : World} {g : Nat} {t : TypeId} {cs : Array Value} (h : Row w g t cs) {p : Addr} (hp : g ≠ p.block) (v : Value) : Row (w.setCell p v) g t cs :=
  (Below.heap_setCell w p v g hp).trans h
theorem Row.alloc {w : World} {g : Nat} {t : TypeId} {cs : Array Value} (h : Row w g t cs) (o : Obj) : Row (w.alloc o) g t cs :=
  (Below.heap_alloc w o g h.lt).trans h
theorem Row.drew {w : World} {g : Nat} {t : TypeId} {cs : Array Value} (h : Row w g t cs) : Row w.drew g t cs := h
theorem Row.drewN {w : World} {g : Nat} {t : TypeId} {cs : Array Value} (h : Row w g t cs) (n : Nat) : Row (w.drewN n) g t cs := h
theorem Row.five {w : World} {g : Nat} {t : TypeId} {a b c d e : Value} (h : Row w g t #[a, b, c, d, e]) : w.cell? ⟨g, 0, none⟩ = some a ∧ w.cell? ⟨g, 1, none⟩ = some b ∧ w.cell? ⟨g, 2, none⟩ = some c ∧ w.cell? ⟨g, 3, none⟩ = some d ∧ w.cell? ⟨g, 4, none⟩ = some e := by
  refine ⟨?_, ?_, ?_, ?_, ?_⟩ <;> (rw [h.cell]; rfl)
theorem Row.put5 {w : World} {g : Nat} {t : TypeId} {a b c d e : Value} (h : Row w g t #[a, b, c, d, e]) (a' b' c' d' e' : Value) :
    Row (((((w.setCell ⟨g, 0, none⟩ a').setCell ⟨g, 1, none⟩ b').setCell ⟨g, 2, none⟩ c').setCell ⟨g, 3, none⟩ d').setCell ⟨g, 4, none⟩ e') g t #[a', b', c', d', e'] :=
  ((((h.put 0 a').put 1 b').put 2 c').put 3 d').put 4 e'
theorem Row.four {w : World} {g : Nat} {t : TypeId} {a b c d : Value} (h : Row w g t #[a, b, c, d]) : w.cell? ⟨g, 0, none⟩ = some a ∧ w.cell? ⟨g, 1, none⟩ = some b ∧ w.cell? ⟨g, 2, none⟩ = some c ∧ w.cell? ⟨g, 3, none⟩ = some d := by
  refine ⟨?_, ?_, ?_, ?_⟩ <;> (rw [h.cell]; rfl)
theorem Row.three {w : World} {g : Nat} {t : TypeId} {a b c : Value} (h : Row w g t #[a, b, c]) : w.cell? ⟨g, 0, none⟩ = some a ∧ w.cell? ⟨g, 1, none⟩ = some b ∧ w.cell? ⟨g, 2, none⟩ = some c := by
  refine ⟨?_, ?_, ?_⟩ <;> (rw [h.cell]; rfl)
theorem Row.two {w : World} {g : Nat} {t : TypeId} {a b : Value} (h : Row w g t #[a, b]) : w.cell? ⟨g, 0, none⟩ = some a ∧ w.cell? ⟨g, 1, none⟩ = some b := by
  refine ⟨?_, ?_⟩ <;> (rw [h.cell]; rfl)
theorem Row.one {w : World} {g : Nat} {t u : TypeId} {cs ds : Array Value} (h : Row w g t cs) (k : Row w g u ds) : t = u ∧ cs = ds := by
  unfold Row at h k
  rw [h] at k
  injection k with k
  injection k with k1 k2
  exact ⟨k2, k1⟩
theorem Row.apart {w : World} {g g' : Nat} {t u : TypeId} {cs ds : Array Value} (h : Row w g t cs) (k : Row w g' u ds) (hne : t ≠ u) : g ≠ g' := by
  rintro rfl
  exact hne (h.one k).1

/-- the streams are as they were; of the blocks that were there just those of S may have turned -/
structure Only (S : Nat → Prop) (w w' : World) : Prop where
  os : w'.os = w.os
  tape : w'.tape = w.tape
  output : w'.output = w.output
  size : w.heap.size ≤ w'.heap.size
  block : ∀ k, k < w.heap.size → ¬ S k → w'.heap[k]? = w.heap[k]?

/-- nothing that was there has turned -/
def none_ : Nat → Prop := fun _ => False

theorem Only.refl (S : Nat → Prop) (w : World) : Only S w w := ⟨rfl, rfl, rfl, Nat.le_refl _, fun _ _ _ => rfl⟩
theorem Only.trans {S S' : Nat → Prop} {a b c : World} (h : Only S a b) (k : Only S' b c) (hs : ∀ i, i < a.heap.size → S' i → S i) : Only S a c :=
  ⟨k.os.trans h.os, k.tape.trans h.tape, k.output.trans h.output, Nat.le_trans h.size k.size,
    fun i hi hn => (k.block i (Nat.lt_of_lt_of_le hi h.size) (fun s => hn (hs i hi s))).trans (h.block i hi hn)⟩
theorem Only.more {S S' : Nat → Prop} {a b : World} (h : Only S a b) (hs : ∀ i, i < a.heap.size → S i → S' i) : Only S' a b :=
  ⟨h.os, h.tape, h.output, h.size, fun i hi hn => h.block i hi (fun s => hn (hs i hi s))⟩
theorem Only.same {S : Nat → Prop} {a b c : World} (h : Only S a b) (k : Only S b c) : Only S a c := h.trans k (fun _ _ s => s)
theorem Only.idle {S : Nat → Prop} {a b c : World} (h : Only S a b) (k : Only none_ b c) : Only S a c := h.trans k (fun _ _ s => s.elim)
theorem Only.up {S : Nat → Prop} {a b : World} (h : Only none_ a b) : Only S a b := h.more (fun _ _ s => s.elim)
theorem Only.then_ {S : Nat → Prop} {a b c : World} (h : Only none_ a b) (k : Only S b c) : Only S a c := h.up.same k
theorem Only.alloc {S : Nat → Prop} {a w : World} (h : Only S a w) (o : Obj) : Only S a (w.alloc o) :=
  h.trans (S' := none_) ⟨rfl, rfl, rfl, by simp, fun k hk _ => Below.heap_alloc _ _ _ hk⟩ (fun _ _ s => s.elim)
theorem Only.put {S : Nat → Prop} {a w : World} (h : Only S a w) {p : Addr} (hp : p.block < a.heap.size → S p.block) (v : Value) : Only S a (w.setCell p v) :=
  h.trans (S' := fun k => k = p.block) ⟨rfl, rfl, rfl, by simp [World.setCell], fun k _ hn => Below.heap_setCell _ _ _ _ hn⟩ (fun i hi s => by subst s; exact hp hi)
theorem Only.into {S : Nat → Prop} {a w : World} (h : Only S a w) {b : Nat} (hb : S b) (i : Nat) (v : Value) : Only S a (w.setCell ⟨b, i, none⟩ v) := h.put (p := ⟨b, i, none⟩) (fun _ => hb) v
theorem Only.new {S : Nat → Prop} {a w : World} (h : Only S a w) {b : Nat} (hb : a.heap.size ≤ b) (i : Nat) (v : Value) : Only S a (w.setCell ⟨b, i, none⟩ v) := h.put (p := ⟨b, i, none⟩) (fun k => absurd k (by show ¬ b < _; omega)) v
theorem only5 (w : World) (n : Nat) (a b c d e : Value) : Only (fun k => k = n) w (((((w.setCell ⟨n, 0, none⟩ a).setCell ⟨n, 1, none⟩ b).setCell ⟨n, 2, none⟩ c).setCell ⟨n, 3, none⟩ d).setCell ⟨n, 4, none⟩ e) :=
  ((((((Only.refl (fun k => k = n) w).into rfl 0 a).into rfl 1 b).into rfl 2 c).into rfl 3 d).into rfl 4 e)
theorem Only.drew {S : Nat → Prop} {a w : World} (h : Only S a w) : Only S a w.drew := ⟨h.os, h.tape, h.output, h.size, h.block⟩
theorem Only.drewN {S : Nat → Prop} {a w : World} (h : Only S a w) (n : Nat) : Only S a (w.drewN n) := ⟨h.os, h.tape, h.output, h.size, h.block⟩
theorem Only.row {S : Nat → Prop} {a b : World} (h : Only S a b) {g : Nat} {t : TypeId} {cs : Array Value} (k : Row a g t cs) (hn : ¬ S g) : Row b g t cs :=
  (h.block g k.lt hn).trans k
theorem Only.still {a b : World} (h : Only none_ a b) {g : Nat} {t : TypeId} {cs : Array Value} (k : Row a g t cs) : Row b g t cs := h.row k (fun s => s)
theorem Only.below {S : Nat → Prop} {a b : World} (h : Only S a b) {B : Nat} (hB : B ≤ a.heap.size) (hs : ∀ i, i < B → ¬ S i) : Below B a b :=
  ⟨h.os, h.tape, h.output, h.size, fun k hk => h.block k (Nat.lt_of_lt_of_le hk hB) (hs k hk)⟩
theorem Only.of_below {B : Nat} {a b : World} (h : Below B a b) : Only (fun k => B ≤ k) a b :=
  ⟨h.os, h.tape, h.output, h.size, fun k _ hn => h.block k (Nat.lt_of_not_le hn)⟩
theorem below_n {B : Nat} {a w : World} (h : Below B a w) (n : Nat) : Below B a (w.drewN n) := ⟨h.os, h.tape, h.output, h.size, h.block⟩
theorem Only.cell {S : Nat → Prop} {a b : World} (h : Only S a b) {p : Addr} {v : Value} (hc : a.cell? p = some v) (hn : ¬ S p.block) : b.cell? p = some v := by
  rcases Nat.lt_or_ge p.block a.heap.size with k | k
  · rw [World.cell?_of_block (w := a) (h.block p.block k hn)]; exact hc
  · simp [World.cell?, Array.getElem?_eq_none k] at hc
theorem Only.below_to {S : Nat → Prop} {a b c : World} {B : Nat} (h : Below B a b) (k : Only S b c) (hB : B ≤ a.heap.size) (hs : ∀ i, i < B → ¬ S i) : Below B a c :=
  h.trans (k.below (Nat.le_trans hB h.size) hs)

/-- structs one behind the other -/
def flat {α : Type} (c : α → List Value) (l : List α) : Array Value := (l.flatMap c).toArray

theorem flat_drop {α : Type} {c : α → List Value} {k : Nat} (hk : ∀ a, (c a).length = k) : ∀ (l : List α) (i : Nat) (a : α), l[i]? = some a → (l.flatMap c).drop (i * k) = c a ++ (l.drop (i + 1)).flatMap c := by
  intro l
  induction l with
  | nil => intro i a h; simp at h
  | cons x l ih =>
    intro i a h
    cases i with
    | zero =>
      simp at h
      subst h
      simp
    | succ i =>
      simp at h
      have := ih i a h
      rw [List.flatMap_cons, show (i + 1) * k = (c x).length + i * k by rw [hk, Nat.succ_mul, Nat.add_comm], ← List.drop_drop, List.drop_left]
      simpa using this
theorem flat_get {α : Type} {c : α → List Value} {k : Nat} (hk : ∀ a, (c a).length = k) {l : List α} {i : Nat} {a : α} (h : l[i]? = some a) {j : Nat} (hj : j < k) : (flat c l)[i * k + j]? = (c a)[j]? := by
  unfold flat
  rw [List.getElem?_toArray, ← List.getElem?_drop, flat_drop hk l i a h, List.getElem?_append_left (by rw [hk]; exact hj)]
theorem flat_size {α : Type} {c : α → List Value} {k : Nat} (hk : ∀ a, (c a).length = k) (l : List α) : (flat c l).size = l.length * k := by
  unfold flat
  rw [List.size_toArray, List.length_flatMap]
  induction l with
  | nil => simp
  | cons x l ih => simp [hk, Nat.succ_mul, Nat.add_comm] at ih ⊢; omega
theorem flat_set {α : Type} {c : α → List Value} {k : Nat} (hk : ∀ a, (c a).length = k) : ∀ (l : List α) (i : Nat) (a a' : α) (j : Nat) (v : Value), l[i]? = some a → j < k → c a' = (c a).set j v →
    (l.flatMap c).set (i * k + j) v = (l.set i a').flatMap c := by
  intro l
  induction l with
  | nil => intro i a a' j v h; simp at h
  | cons x l ih =>
    intro i a a' j v h hj e
    cases i with
    | zero =>
      simp at h
      subst h
      rw [List.flatMap_cons, show (0 : Nat) * k + j = j by omega, List.set_append_left _ _ (by rw [hk]; exact hj), ← e]
      simp
    | succ i =>
      simp at h
      rw [List.flatMap_cons, List.set_append_right _ _ (by rw [hk, Nat.succ_mul]; omega), hk, show (i + 1) * k + j - k = i * k + j by rw [Nat.succ_mul]; omega, ih i a a' j v h hj e]
      simp
theorem flat_put {α : Type} {c : α → List Value} {k : Nat} (hk : ∀ a, (c a).length = k) {l : List α} {i : Nat} {a a' : α} {j : Nat} {v : Value} (h : l[i]? = some a) (hj : j < k) (e : c a' = (c a).set j v) :
    (flat c l).setIfInBounds (i * k + j) v = flat c (l.set i a') := by
  unfold flat
  rw [List.setIfInBounds_toArray, flat_set hk l i a a' j v h hj e]
theorem flat_made {α : Type} {c : α → List Value} (a : α) {z : Array Value} (hz : z.toList = c a) {k : Nat} (hk : ∀ a, (c a).length = k) (h0 : 0 < k) (n : Nat) : madeCells z (n * k) = flat c (List.replicate n a) := by
  have hs : z.size = k := by rw [← Array.length_toList, hz, hk]
  apply Array.ext
  · rw [size_madeCells, flat_size hk, List.length_replicate]
  · intro i h1 h2
    rw [size_madeCells] at h1
    have hq : i / k < n := (Nat.div_lt_iff_lt_mul h0).2 h1
    have hr : i % k < k := Nat.mod_lt _ h0
    have hg : (List.replicate n a)[i / k]? = some a := by simp [hq]
    have e := flat_get hk hg hr
    rw [show i / k * k + i % k = i by rw [Nat.mul_comm]; exact Nat.div_add_mod i k] at e
    rw [Array.getElem?_eq_getElem h2] at e
    have e2 : (c a)[i % k]? = some (z[i % k]!) := by
      rw [← hz, Array.getElem?_toList, Array.getElem?_eq_getElem (by omega), getElem!_pos z (i % k) (by omega)]
    rw [e2] at e
    injection e with e
    rw [e]
    simp [madeCells, hs]
/-- structs made in a row -/
theorem run_make_flat {α : Type} {P : Program} {c : α → List Value} (a : α) {k : Nat} (hk : ∀ a, (c a).length = k) (h0 : 0 < k) (t e : TypeId) (i : TypeInfo) (z : Value) (ht : P.underlying t = some (.slice e)) (hi : P.info? e = some i) (hz : i.zero = some z) (hs : i.size = k) (hc : z.cells.toList = c a)
    (kl kc : IntKind) (n : Nat) (hb : i.bytes * n ≤ 281474976710656) (h63 : n ≤ 9223372036854775807) (w : World) :
    (Instr.makeSlice t (.int kl (n : Int)) (.int kc (n : Int))).run P w = .ok (.slice (some ⟨w.heap.size, 0, none⟩) n n) (w.alloc (.cells (flat c (List.replicate n a)) e)) := by
  have h := run_make (P := P) w t e i z ht hi hz kl kc n n (by omega) (Int.le_refl _) (by rw [← Int.natCast_mul]; omega) (by omega)
  rw [h]
  simp only [Int.toNat_natCast, hs]
  rw [flat_made a hc hk h0]
theorem get_set {α : Type} {l : List α} {i : Nat} {a a' : α} (h : l[i]? = some a) : (l.set i a')[i]? = some a' := by
  have : i < l.length := by
    rcases Nat.lt_or_ge i l.length with k | k
    · exact k
    · rw [List.getElem?_eq_none k] at h; cases h
  simp [this]
theorem lt_of_get {α : Type} {l : List α} {i : Nat} {a : α} (h : l[i]? = some a) : i < l.length := by
  rcases Nat.lt_or_ge i l.length with k | k
  · exact k
  · rw [List.getElem?_eq_none k] at h; cases h
end Go.Proofs.YtfbpjobobdidiaaGreatDoor


/- Arguments that are slices, opened to cells: whatever their elements are. -/
namespace Go.Proofs.YtfbpjobobdidiaaGreatDoor
open Go.RowKit Go.ChangeShapes Go.WideShapes Go.Deep
set_option linter.unusedVariables false
set_option maxRecDepth 100000

/-- what a slice that came in holds: elements of so many cells each -/
def Holds {α : Type} (w : World) (A : Option Addr) (k : Nat) (c : α → List Value) (xs : List α) : Prop :=
  ∀ i a, xs[i]? = some a → ∃ b o, A = some ⟨b, o, none⟩ ∧ b < w.heap.size ∧ ∀ j v, (c a)[j]? = some v → w.cell? ⟨b, o + (i * k + j), none⟩ = some v

theorem spot_of {w : World} {a : Addr} {v : Value} (h : w.cell? a = some v) : a.spot = none := by
  unfold World.cell? at h
  split at h
  · split at h
    · cases h
    · rename_i k; simpa using k
  · cases h

theorem open_rows {H : Type} {enc : TypeId × Value → H} {P : Program} {W : World} {t e : TypeId} {α : Type} {k : Nat} {c : α → List Value} {wf : α → Prop} [Inhabited α]
    (ht : P.underlying t = some (.slice e)) (hC : P.cellsOf e = k) (h0 : 0 < k) (hk : ∀ a, (c a).length = k)
    (hp : ∀ n cs x, DataW.trod enc P W 0 (fun _ => true) true n e cs = some x → ∃ a, cs = c a ∧ wf a)
    {fuel : Nat} {A : Option Addr} {len cap : Nat} {x : DataW H × List MemPlace} (h : DataW.trod enc P W 0 (fun _ => true) true fuel t [.slice A len cap] = some x) :
    len ≤ maxLen ∧ ∃ xs : List α, xs.length = len ∧ Holds W A k c xs ∧ ∀ a ∈ xs, wf a := by
  rcases open_slice ht h with ⟨e1, _⟩ | ⟨a, len', cap', m, n, D, Pl, e1, _, hl, hm, hmm, _, hi⟩
  · simp at e1
    obtain ⟨rfl, rfl, rfl⟩ := e1
    exact ⟨Nat.zero_le _, [], rfl, fun i a h => by simp at h, fun a h => by cases h⟩
  · simp at e1
    obtain ⟨rfl, rfl, rfl⟩ := e1
    simp only [if_true] at hmm
    subst hmm
    have hx : ∀ i, i < len → ∃ y : α, W.cells? 0 (a.add (i * k)) k = some (c y) ∧ wf y := by
      intro i hlt
      obtain ⟨cs, hc, htr⟩ := hi i (by omega)
      obtain ⟨y, rfl, hw⟩ := hp _ _ _ htr
      rw [hC] at hc
      exact ⟨y, hc, hw⟩
    obtain ⟨f, hf⟩ := choose_lt hx
    refine ⟨by omega, (List.range len).map f, by simp, ?_, ?_⟩
    · intro i y hy
      have hlt : i < len := by have := lt_of_get hy; simpa using this
      simp [hlt] at hy
      subst hy
      have sp : a.spot = none := by
        obtain ⟨hc, _⟩ := hf 0 (by omega)
        obtain ⟨_, hcl, hat⟩ := World.cells?_some hc
        have h1 := hat 0 h0
        obtain ⟨v0, hv0⟩ : ∃ v, (c (f 0))[0]? = some v := ⟨_, List.getElem?_eq_getElem (by rw [hk]; exact h0)⟩
        rw [hv0] at h1
        have := spot_of h1
        simpa [Addr.add] using this
      obtain ⟨hc, _⟩ := hf i hlt
      obtain ⟨_, hcl, hat⟩ := World.cells?_some hc
      obtain ⟨b, o, spot⟩ := a
      simp only at sp
      subst sp
      have add_ : ∀ b o n, (Addr.mk b o none).add n = ⟨b, o + n, none⟩ := fun b o n => by
        unfold Addr.add
        split
        · rename_i z; rw [z]; rfl
        · rfl
      have cell : ∀ j v, (c (f i))[j]? = some v → W.cell? ⟨b, o + (i * k + j), none⟩ = some v := fun j v hv => by
        have : j < k := by have := lt_of_get hv; rw [hk] at this; exact this
        have h1 := hat j this
        rw [add_, add_, hv] at h1
        rw [← Nat.add_assoc]; exact h1
      obtain ⟨v0, hv0⟩ : ∃ v, (c (f i))[0]? = some v := ⟨_, List.getElem?_eq_getElem (by rw [hk]; exact h0)⟩
      exact ⟨b, o, rfl, World.block_lt_of_cell? W _ (cell 0 v0 hv0), cell⟩
    · intro y hy
      obtain ⟨i, hi', rfl⟩ := List.mem_map.1 hy
      exact (hf i (List.mem_range.1 hi')).2

/-- a struct of fields of one cell each: its cells, each with its own reading -/
theorem open_fields {H : Type} {enc : TypeId × Value → H} {P : Program} {W : World} {e : TypeId} {fs : Array Field} (he : P.underlying e = some (.struct fs)) (hone : oneCellFields P fs = true) (hC : P.cellsOf e = fs.size)
    {n : Nat} {cs : List Value} {x : DataW H × List MemPlace} (h : DataW.trod enc P W 0 (fun _ => true) true n e cs = some x) :
    cs.length = fs.size ∧ ∃ m, ∀ (j : Nat) (f : Field), fs[j]? = some f → ∃ v y, cs[j]? = some v ∧ DataW.trod enc P W 0 (fun _ => true) true m f.type [v] = some y := by
  obtain ⟨ys, m, _, _, hlen, hyl, hf⟩ := DataW.trod_struct he h
  refine ⟨by omega, m, fun j f hj => ?_⟩
  obtain ⟨ho, hk⟩ := hone_of hone j f hj
  have hjl : j < fs.size := (Array.getElem?_eq_some_iff.1 hj).1
  have h1 := hf j f hj
  rw [ho, hk] at h1
  rw [show (cs.drop j).take 1 = [cs[j]'(by omega)] by rw [List.drop_eq_getElem_cons (by omega)]; rfl, List.getElem?_eq_getElem (show j < ys.length by omega)] at h1
  exact ⟨_, _, List.getElem?_eq_getElem (by omega), h1⟩

theorem Holds.below {α : Type} {w w' : World} {A : Option Addr} {k : Nat} {c : α → List Value} {xs : List α} (h : Holds w A k c xs) (hb : Below w.heap.size w w') : Holds w' A k c xs := fun i a hi => by
  obtain ⟨b, o, rfl, hlt, hc⟩ := h i a hi
  exact ⟨b, o, rfl, Nat.lt_of_lt_of_le hlt hb.size, fun j v hv => (hb.cell (p := ⟨b, o + (i * k + j), none⟩) hlt).trans (hc j v hv)⟩
theorem Holds.at_ {α : Type} {w w' : World} {A : Option Addr} {k : Nat} {c : α → List Value} {xs : List α} (h : Holds w A k c xs) (hb : Below w.heap.size w w') {i : Nat} {a : α} (hi : xs[i]? = some a) :
    ∃ b o, A = some ⟨b, o, none⟩ ∧ b < w.heap.size ∧ ∀ j v, (c a)[j]? = some v → w'.cell? ⟨b, o + (i * k + j), none⟩ = some v := by
  obtain ⟨b, o, rfl, hlt, hc⟩ := h i a hi
  exact ⟨b, o, rfl, hlt, fun j v hv => (hb.cell (p := ⟨b, o + (i * k + j), none⟩) hlt).trans (hc j v hv)⟩
end Go.Proofs.YtfbpjobobdidiaaGreatDoor


/- A slice that the call itself appends to: whatever its elements are. -/
namespace Go.Proofs.YtfbpjobobdidiaaGreatDoor
open Go.RowKit
set_option linter.unusedVariables false
set_option maxRecDepth 100000

/-- v is a slice of the call's own: it has the elements xs, of k cells each; its row lies at block base or behind -/
def Owns {α : Type} (w : World) (base : Nat) (e : TypeId) (k : Nat) (c : α → List Value) (v : Value) (xs : List α) : Prop := w.ownsRow base e k v xs.length (xs.flatMap c)

theorem Owns.start {α : Type} (w : World) (base : Nat) (e : TypeId) (k : Nat) (c : α → List Value) : Owns w base e k c (.slice none 0 0) [] := World.ownsRow_nil _ _ _ _
theorem Owns.base_le {α : Type} {w : World} {base : Nat} {e : TypeId} {k : Nat} {c : α → List Value} {v : Value} {xs : List α} (h : Owns w base e k c v xs) {g : Nat} (hg : v.ownBlock = some g) : base ≤ g ∧ g < w.heap.size := World.ownsRow.lt h g hg
theorem Owns.keep {α : Type} {w w' : World} {base : Nat} {e : TypeId} {k : Nat} {c : α → List Value} {v : Value} {xs : List α} (h : Owns w base e k c v xs) {S : Nat → Prop} (o : Only S w w') (hn : ∀ g, v.ownBlock = some g → ¬ S g) : Owns w' base e k c v xs := by
  refine ⟨h.1, ?_⟩
  rcases h.2 with h2 | ⟨g, cap, cur, hv, hg, hh, r⟩
  · exact .inl h2
  · refine .inr ⟨g, cap, cur, hv, hg, ?_, r⟩
    rw [o.block g (Array.getElem?_eq_some_iff.1 hh).1 (hn g (by rw [hv]; rfl))]
    exact hh
theorem Owns.still {α : Type} {w w' : World} {base : Nat} {e : TypeId} {k : Nat} {c : α → List Value} {v : Value} {xs : List α} (h : Owns w base e k c v xs) (o : Only none_ w w') : Owns w' base e k c v xs := h.keep o (fun _ _ s => s)
/-- its form -/
theorem Owns.form {α : Type} {w : World} {base : Nat} {e : TypeId} {k : Nat} {c : α → List Value} {v : Value} {xs : List α} (h : Owns w base e k c v xs) (hx : xs ≠ []) :
    ∃ g cap, v = .slice (some ⟨g, 0, none⟩) xs.length cap ∧ base ≤ g ∧ g < w.heap.size ∧ xs.length ≤ cap ∧ cap ≤ maxLen := by
  rcases h.2 with ⟨hv, h2⟩ | ⟨g, cap, cur, hv, hg, hh, h3, h4, _⟩
  · exact absurd (List.eq_nil_of_length_eq_zero h2) hx
  · exact ⟨g, cap, hv, hg, (Array.getElem?_eq_some_iff.1 hh).1, h3, h4⟩
theorem Owns.cell {α : Type} {w : World} {base : Nat} {e : TypeId} {k : Nat} {c : α → List Value} {xs : List α} {g cap : Nat} (h : Owns w base e k c (.slice (some ⟨g, 0, none⟩) xs.length cap) xs) (hk : ∀ a, (c a).length = k) {i : Nat} {a : α} (hi : xs[i]? = some a) {j : Nat} (hj : j < k) :
    w.cell? ⟨g, i * k + j, none⟩ = (c a)[j]? := by
  have hl := lt_of_get hi
  have hb : i * k + j < xs.length * k := by
    have : (i + 1) * k ≤ xs.length * k := Nat.mul_le_mul_right k hl
    rw [Nat.succ_mul] at this
    omega
  rw [World.ownsRow.cellAt h (i * k + j) hb, ← flat_get hk hi hj]
  unfold flat
  rw [List.getElem?_toArray]
theorem Owns.frozen {α : Type} {w : World} {base : Nat} {e : TypeId} {k : Nat} {c : α → List Value} {xs : List α} {n g cap : Nat} (h : Owns w base e k c (.slice (some ⟨g, 0, none⟩) n cap) xs) (j : Nat) : w.frozen? ⟨g, j, none⟩ = false := by
  rcases h.2 with ⟨h', _⟩ | ⟨g', cap', cur, h', _, hg, _⟩
  · simp at h'
  · simp only [Value.slice.injEq, Option.some.injEq, Addr.mk.injEq, and_true] at h'
    obtain ⟨rfl, _⟩ := h'
    simp [World.frozen?, hg]

/-- what an append turns: the slice's own row, and new blocks -/
theorem Only.of_grown {w w' : World} {row : Option Nat} (h : w.grownBy w' row) : Only (fun k => some k = row) w w' := ⟨h.os, h.tape, h.output, h.size, h.block⟩

/-- append of one element, which lies at the head of a block -/
theorem wpList_append_one {α : Type} {P : Program} {w : World} {ops : Array Oper} {rest : List Oper} {o : Oper} {a : Act} {Q : Exit → Act → World → Prop} (hgd : o.guard = none) (s x : Operand) (t : TypeId)
    (ho : o.op = .call { callee := .builtin .append, args := #[s, x], argTypes := #[t, t] })
    {base : Nat} {e : TypeId} {k : Nat} {c : α → List Value} (i : TypeInfo) (z : Value) (bytes : Nat) (ht : P.underlying t = some (.slice e)) (hi : P.info? e = some i) (hz : i.zero = some z)
    (hsize : i.size = k) (hby : i.bytes = bytes) (hzs : z.cells.size = k) (hk0 : 0 < k) (hk : ∀ y, (c y).length = k) (h1 : ∀ y, ∀ u ∈ c y, u.oneCell' = true)
    {v : Value} {xs : List α} (hs : a.eval s = v) (hown : Owns w base e k c v xs)
    {g cc : Nat} {y : α} (hx : a.eval x = .slice (some ⟨g, 0, none⟩) 1 cc) (hrow : Row w g e (c y).toArray)
    (hlen : xs.length < 9223372036854775807) (hbytes : (xs.length + 1) * bytes ≤ 140737488355328) (hbase : base ≤ w.heap.size)
    (h : ∀ v' w', Owns w' base e k c v' (xs ++ [y]) → Only (fun j => base ≤ j) w w' → wpList P ops Q rest (a.put o.dst v') w') : wpList P ops Q (o :: rest) a w := by
  refine wpList_append_own w hgd s x t ho base e i z k bytes ht hi hz hsize hby hzs hk0 v xs.length (xs.flatMap c) hs hown ⟨g, 0, none⟩ 1 cc (c y) hx (by rw [hk]; omega) ?_ (h1 y) (by unfold maxLen; omega) hbytes hbase ?_
  · intro j u hj
    have : (Addr.mk g 0 none).add j = ⟨g, j, none⟩ := by
      unfold Addr.add
      split
      · rename_i q; rw [q]
      · simp
    rw [this, hrow.cell, List.getElem?_toArray]
    exact hj
  · intro v' w' h2 h3 _
    refine h v' w' ?_ ?_
    · unfold Owns
      rw [List.flatMap_append, List.length_append]
      simpa using h2
    · exact (Only.of_grown h3).more (fun j _ e => (hown.base_le e.symm).1)
end Go.Proofs.YtfbpjobobdidiaaGreatDoor


/- append of a slice that comes from anywhere, nil too, to a slice of the call's own. -/
namespace Go.Proofs.YtfbpjobobdidiaaGreatDoor
open Go.RowKit
set_option linter.unusedVariables false
set_option maxRecDepth 100000

/-- a slice of m elements that lie in memory as these cells; it may be nil -/
def Src (w : World) (v : Value) (m : Nat) (news : List Value) : Prop := (v = .slice none 0 0 ∧ m = 0 ∧ news = []) ∨ ∃ ad c, v = .slice (some ad) m c ∧ ∀ j u, news[j]? = some u → w.cell? (ad.add j) = some u
theorem Src.still {w w' : World} {v : Value} {m : Nat} {news : List Value} (h : Src w v m news) (o : Only none_ w w') : Src w' v m news := by
  rcases h with h | ⟨ad, c, hv, hc⟩
  · exact .inl h
  · exact .inr ⟨ad, c, hv, fun j u hj => o.cell (hc j u hj) (fun s => s)⟩
/-- a slice of the call's own is one -/
theorem Src.own {α : Type} {w : World} {base : Nat} {e : TypeId} {k : Nat} {c : α → List Value} {v : Value} {xs : List α} (h : Owns w base e k c v xs) : Src w v xs.length (xs.flatMap c) := by
  rcases h.2 with ⟨hv, h2⟩ | ⟨g, cap, cur, hv, _⟩
  · have : xs = [] := List.eq_nil_of_length_eq_zero h2
    subst this
    exact .inl ⟨hv, rfl, rfl⟩
  · exact .inr ⟨⟨g, 0, none⟩, cap, hv, World.ownsRow.cells h (by rw [hv]; rfl)⟩
theorem run_append_nil {P : Program} {w : World} {base : Nat} {t ty e : TypeId} {i : TypeInfo} {size : Nat} (ht : P.underlying t = some (.slice e)) (hi : P.info? e = some i) {v : Value} {n : Nat} {xs : List Value} (hown : w.ownsRow base e size v n xs) :
    (Builtin.append_ #[t, t] ty #[v, .slice none 0 0]).run P w = .ok v w := by
  rcases hown.2 with ⟨rfl, rfl⟩ | ⟨g, cap, cur, rfl, _, _, h3, _⟩
  · simp [Builtin.append_, run_underlying ht, sizeOf, run_typeInfo w hi, Builtin.lenOf, Builtin.firstCells]
  · simp [Builtin.append_, run_underlying ht, sizeOf, run_typeInfo w hi, Builtin.lenOf, Builtin.firstCells, h3, storeCells]
theorem run_append_src {P : Program} {w : World} (base : Nat) (t ty e : TypeId) (i : TypeInfo) (z : Value) (size bytes : Nat) (ht : P.underlying t = some (.slice e)) (hi : P.info? e = some i) (hz : i.zero = some z)
    (hsize : i.size = size) (hby : i.bytes = bytes) (hzs : z.cells.size = size) (hsz : 0 < size)
    (v : Value) (n : Nat) (xs : List Value) (hown : w.ownsRow base e size v n xs)
    (x : Value) (m : Nat) (news : List Value) (hx : Src w x m news) (hl : news.length = m * size) (h1 : ∀ u ∈ news, u.oneCell' = true)
    (h63 : n + m ≤ maxLen) (hbytes : (n + m) * bytes ≤ 140737488355328) (hbase : base ≤ w.heap.size) :
    ∃ v' w', (Builtin.append_ #[t, t] ty #[v, x]).run P w = .ok v' w' ∧ w'.ownsRow base e size v' (n + m) (xs ++ news) ∧ w.grownBy w' v.ownBlock ∧ (v'.ownBlock = v.ownBlock ∨ v'.ownBlock = some w.heap.size) := by
  rcases hx with ⟨rfl, rfl, rfl⟩ | ⟨ad, c, rfl, hc⟩
  · refine ⟨v, w, run_append_nil ht hi hown, ?_, ⟨rfl, rfl, rfl, Nat.le_refl _, fun _ _ _ => rfl⟩, .inl rfl⟩
    simpa using hown
  · obtain ⟨v', w', r1, r2, r3, _, r5⟩ := run_append_own_at (P := P) (w := w) base t ty e i z size bytes ht hi hz hsize hby hzs hsz v n xs hown ad m c news hl hc h1 h63 hbytes hbase
    exact ⟨v', w', r1, r2, r3, r5⟩
/-- append of such a slice -/
theorem wpList_append_src {P : Program} (w : World) {ops : Array Oper} {rest : List Oper} {o : Oper} {a : Act} {Q : Exit → Act → World → Prop} (hgd : o.guard = none) (s x : Operand) (t : TypeId)
    (ho : o.op = .call { callee := .builtin .append, args := #[s, x], argTypes := #[t, t] })
    (base : Nat) (e : TypeId) (i : TypeInfo) (z : Value) (size bytes : Nat) (ht : P.underlying t = some (.slice e)) (hi : P.info? e = some i) (hz : i.zero = some z)
    (hsize : i.size = size) (hby : i.bytes = bytes) (hzs : z.cells.size = size) (hsz : 0 < size)
    (v : Value) (n : Nat) (xs : List Value) (hs : a.eval s = v) (hown : w.ownsRow base e size v n xs)
    (vx : Value) (m : Nat) (news : List Value) (hx : a.eval x = vx) (hsrc : Src w vx m news) (hl : news.length = m * size) (h1 : ∀ u ∈ news, u.oneCell' = true)
    (h63 : n + m ≤ maxLen) (hbytes : (n + m) * bytes ≤ 140737488355328) (hbase : base ≤ w.heap.size)
    (h : ∀ v' w', w'.ownsRow base e size v' (n + m) (xs ++ news) → w.grownBy w' v.ownBlock → (v'.ownBlock = v.ownBlock ∨ v'.ownBlock = some w.heap.size) → wpList P ops Q rest (a.put o.dst v') w') : wpList P ops Q (o :: rest) a w := by
  refine wpList_plain hgd fun K hK => ?_
  obtain ⟨v', w', hr, h2, h3, h4⟩ := run_append_src (P := P) (w := w) base t o.type e i z size bytes ht hi hz hsize hby hzs hsz v n xs hown vx m news hsrc hl h1 h63 hbytes hbase
  unfold Oper.wp execOp
  simp only [ho, resolve, invoke, builtin, Sem.run_bind, Sem.run_pure, Result.andThen_ok, List.map_toArray, List.map_cons, List.map_nil, hs, hx, hr]
  exact hK _ _ (h v' w' h2 h3 h4)
/-- .. as one step of a region that draws -/
theorem step_append_src {P : Program} {ops : Array Oper} {o : Oper} {a : Act} {w : World} {K : Act → World → Prop} {Q : Exit → Act → World → Prop} {E : Prop}
    (hg : o.guard = none) (s x : Operand) (t : TypeId) (hop : o.op = Op.call { callee := Callee.builtin Builtin.append, args := #[s, x], argTypes := #[t, t] })
    (base : Nat) (e : TypeId) (i : TypeInfo) (z : Value) (size bytes : Nat) (h1 : P.underlying t = some (.slice e)) (h2 : P.info? e = some i) (h3 : i.zero = some z) (h4 : i.size = size) (h5 : i.bytes = bytes) (h6 : z.cells.size = size) (h7 : 0 < size)
    (v : Value) (k : Nat) (xs : List Value) (hs : a.eval s = v) (hown : w.ownsRow base e size v k xs)
    (vx : Value) (m : Nat) (news : List Value) (hx : a.eval x = vx) (hsrc : Src w vx m news) (hn : news.length = m * size) (h1c : ∀ u ∈ news, u.oneCell' = true)
    (b1 : k + m ≤ maxLen) (b2 : (k + m) * bytes ≤ 140737488355328) (b3 : base ≤ w.heap.size)
    (hK : ∀ v' w', w'.ownsRow base e size v' (k + m) (xs ++ news) → w.grownBy w' v.ownBlock → K (a.put o.dst v') w') :
    if Region.wanted o (yielded ops a.tmps) = true then Oper.wp P o a w K Q else E := by
  have hw : Region.wanted o (yielded ops a.tmps) = true := by simp [Region.wanted, hg]
  rw [if_pos hw]
  obtain ⟨v', w', hrun, r1, r2, _⟩ := run_append_src (P := P) (w := w) base t o.type e i z size bytes h1 h2 h3 h4 h5 h6 h7 v k xs hown vx m news hsrc hn h1c b1 b2 b3
  unfold Oper.wp
  simp [execOp, hop, resolve, invoke, builtin, hs, hx, hrun, Result.andThen]
  exact hK v' w' r1 r2
end Go.Proofs.YtfbpjobobdidiaaGreatDoor


/- What package refuse answers: Unless leaves by a panic of its code; Catch is OK, or the code by which what it was handed left. -/
namespace Go.Proofs.YtfbpjobobdidiaaGreatDoor
open Go.RowKit

/-- a panic of a code -/
abbrev left (c : Int) : Ending := .panicked [{ v := .iface 28 (.int .i64 c), recovered := false }]

theorem unless_yes (c : Value) (w : World) : Calls Tryz.prog 79 #[.bool true, c] w fun e w' => e = .returned (.tuple #[]) ∧ w = w' := by
  go_enter Tryz.func79, Tryz.ntmps79
  go_wp2
  go_end0
  exact ⟨rfl, rfl⟩
theorem unless_no (c : Int) (w : World) : Calls Tryz.prog 79 #[.bool false, .int .i64 c] w fun e w' => e = left c ∧ w = w' := by
  go_enter Tryz.func79, Tryz.ntmps79
  go_wp2
  exact ⟨rfl, rfl, rfl⟩

theorem run_assert_code (c : Int) (w : World) : (Instr.typeAssert (.iface 28 (.int .i64 c)) 20 28 true).run Tryz.prog w = .ok (.tuple #[.int .i64 c, .bool true]) w := by kernel_rfl

/-- what Catch's closure does: it is done, or leaves by a panic of a code; a new block of the caller's own stays as it is -/
theorem taken_back (p : Addr) (c : Int) (older : List PanicEntry) (w : World) (v0 : Value) (hc : w.cell? p = some v0) (hz : w.frozen? p = false) :
    CallsD Tryz.prog 124 #[.pointer (some p)] (.panicking ({ v := .iface 28 (.int .i64 c), recovered := false } :: older)) w fun e u' w' =>
      e = .returned (.tuple #[]) ∧ u' = .panicking ({ v := .iface 28 (.int .i64 c), recovered := true } :: older) ∧ w' = w.setCell p (.int .i64 c) := by
  have ta := run_assert_code
  refine callsD_of_wpS Tryz.func124 rfl fun c₀ cs hu => ?_
  apply wpS_seq
  apply wpS_region
  simp [wpOpsS, go_sem, recoverD, hu, Tryz.ntmps124, Exit.thenS]
  simp only [show Array.replicate 10 undef = #[undef, undef, undef, undef, undef, undef, undef, undef, undef, undef] from rfl]
  simp
  apply wpS_of_wp
  go_wp2
  simp [bodyPostS, results, Tryz.results124]

theorem idle_back (p : Addr) (w : World) :
    CallsD Tryz.prog 124 #[.pointer (some p)] .returning w fun e u' w' => e = .returned (.tuple #[]) ∧ u' = .returning ∧ w' = w := by
  refine callsD_of_wpS Tryz.func124 rfl fun c₀ cs hu => ?_
  apply wpS_seq
  apply wpS_region
  simp [wpOpsS, go_sem, recoverD, hu, Tryz.ntmps124, Exit.thenS]
  simp only [show Array.replicate 10 undef = #[undef, undef, undef, undef, undef, undef, undef, undef, undef, undef] from rfl]
  simp
  apply wpS_of_wp
  go_wp2
  cases c₀
  simp_all [bodyPostS, results, Tryz.results124]

/-- how what Catch is handed ends: it is done, or leaves by a panic of a code -/
def done : Option Int → Ending
  | none => .returned (.tuple #[])
  | some c => left c

set_option maxHeartbeats 400000 in
theorem catch_any (G : FuncId) (caps : Array Value) (w : World) (R : Option Int → World → Prop) (hG : ∀ w, (callFunc G caps).run Tryz.prog w = .ok (.enter G caps) w)
    (h : Calls Tryz.prog G caps (w.alloc (.cells #[.int .i64 0] 28)) fun e w' => ∃ r, e = done r ∧ R r w' ∧ Row w' w.heap.size 28 #[.int .i64 0]) :
    Calls Tryz.prog 77 #[.func (.func G) #[] caps] w fun e w' => ∃ r w1, e = .returned (.int .i64 (r.getD 0)) ∧ R r w1 ∧ Row w1 w.heap.size 28 #[.int .i64 0] ∧ w' = w1.setCell ⟨w.heap.size, 0, none⟩ (.int .i64 (r.getD 0)) := by
  have hmf : ∀ (fn : Fn) (first cap : Array Value) (w : World), (Instr.makeFunc fn first cap).run Tryz.prog w = .ok (.func fn first cap) w := fun _ _ _ _ => rfl
  have H := Lib.hid h
  clear h
  go_enter_defers Tryz.func77, Tryz.ntmps77
  go_wp2_with fail
  (with_reducible refine H.out.mono ?_)
  rintro e w1 ⟨r, rfl, hR, hrow⟩
  have c1 := hrow.cell 0
  have c2 := hrow.frozen 0
  simp only [List.getElem?_toArray, List.getElem?_cons_zero] at c1
  rcases r with _ | c
  · simp only [done]
    go_wp2_with fail
    refine leaves_cons (f := 124) (args := #[.pointer (some ⟨w.heap.size, 0, none⟩)]) (by simp) (by simp [go_sem]) ?_
    refine (idle_back ⟨w.heap.size, 0, none⟩ _).mono ?_
    rintro e u' w'' ⟨rfl, rfl, rfl⟩
    simp only [Leaves, settle]
    refine ⟨.int .i64 0, by simp [results, Tryz.results77, go_sem, c1], none, _, rfl, hR, hrow, rfl⟩
  · simp only [done, left]
    go_wp2_with fail
    refine leaves_cons (f := 124) (args := #[.pointer (some ⟨w.heap.size, 0, none⟩)]) (by simp) (by simp [go_sem]) ?_
    refine (taken_back ⟨w.heap.size, 0, none⟩ c [] _ _ c1 c2).mono ?_
    rintro e u' w'' ⟨rfl, rfl, rfl⟩
    simp only [Leaves, settle, List.dropWhile]
    refine ⟨.int .i64 c, by simp [results, Tryz.results77, go_sem, c1], some c, _, rfl, hR, hrow, rfl⟩

theorem catch_code (G : FuncId) (caps : Array Value) (w : World) (S : Nat → Prop) (Q : Option Int → World → Prop) (hG : ∀ w, (callFunc G caps).run Tryz.prog w = .ok (.enter G caps) w) (hS : ¬ S w.heap.size)
    (hQ : ∀ r w1 v, Only S (w.alloc (.cells #[.int .i64 0] 28)) w1 → Q r w1 → Q r (w1.setCell ⟨w.heap.size, 0, none⟩ v))
    (h : Calls Tryz.prog G caps (w.alloc (.cells #[.int .i64 0] 28)) fun e w' => ∃ r, e = done r ∧ Q r w' ∧ Only S (w.alloc (.cells #[.int .i64 0] 28)) w') :
    Calls Tryz.prog 77 #[.func (.func G) #[] caps] w fun e w' => ∃ r, e = .returned (.int .i64 (r.getD 0)) ∧ Q r w' ∧ Only S w w' := by
  refine (catch_any G caps w (fun r w' => Q r w' ∧ Only S (w.alloc (.cells #[.int .i64 0] 28)) w') hG (h.mono ?_)).mono ?_
  · rintro e w' ⟨r, he, hq, ho⟩
    exact ⟨r, he, ⟨hq, ho⟩, ho.row (Row.fresh _ _ _) hS⟩
  · rintro e w' ⟨r, w1, he, ⟨hq, ho⟩, _, rfl⟩
    exact ⟨r, he, hQ r w1 _ ho hq, (((Only.refl S w).alloc _).same ho).put (fun k => by simp at k) _⟩
end Go.Proofs.YtfbpjobobdidiaaGreatDoor


/- A region that reads, whose callees only make memory: one walk serves all its orders. -/
namespace Go.Proofs.YtfbpjobobdidiaaGreatDoor
open Go.RowKit
set_option linter.unusedVariables false
set_option maxRecDepth 100000

/-- a world behind another one, in which nothing of before has turned -/
structure After (w0 : World) where
  val : World
  only : Only none_ w0 val
instance (w0 : World) : Nonempty (After w0) := ⟨⟨w0, Only.refl _ _⟩⟩
/-- a region that asks the tape, each of whose operations reads alone, or calls what only makes memory: the lexical walk serves -/
theorem wp_region_after {P : Program} {id : Nat} {Q : Exit → Act → World → Prop} {a : Act} {w w0 : World} {l : List Oper} (hm : P.follows .mixedOrders = true) (hB : Region.lexB .any l.toArray = true) (ho : Only none_ w0 w)
    (h : wpQuiet P l.toArray (fun w' => ∃ i : After w0, w' = i.val) (fun a' => ∀ w', (∃ i : After w0, w' = i.val) → Q .normal a' w') l a) : (Code.region id l.toArray true).wp P Q a w :=
  wp_region_quiet (C := fun w' => ∃ i : After w0, w' = i.val) hm hB ⟨⟨_, ho.drew⟩, rfl⟩ (by simpa using h)
theorem Calls.after {P : Program} {f : FuncId} {args : Array Value} {w0 : World} {v : Value} (i : After w0)
    (h : Calls P f args i.val fun e w' => e = .returned v ∧ Only none_ i.val w') : Calls P f args i.val fun e w' => e = .returned v ∧ ∃ j : After w0, w' = j.val :=
  h.mono fun _ _ ⟨he, o⟩ => ⟨he, ⟨_, i.only.same o⟩, rfl⟩
/-- the operations of a region of a number -/
def regionAt (n : Nat) : Code → Option (List Oper)
  | .region i ops _ => if i == n then some ops.toList else none
  | .seq a b => match regionAt n a with | some l => some l | none => regionAt n b
  | .cond _ a b => match regionAt n a with | some l => some l | none => regionAt n b
  | .block _ a => regionAt n a
  | .loop a => regionAt n a
  | .rangeFunc _ _ a b => match regionAt n a with | some l => some l | none => regionAt n b
  | .scope a => regionAt n a
  | _ => none
def opsAt (f : Func) (n : Nat) : List Oper := match f.body with | some c => (regionAt n c).getD [] | none => []
theorem lex_from {md : Region.Mode} {l l' : List Oper} (h : Region.lexB md l'.toArray = true) (e : l = l') : Region.lexB md l.toArray = true := e ▸ h
end Go.Proofs.YtfbpjobobdidiaaGreatDoor


/- Small facts that several layers share. -/
namespace Go.Proofs.YtfbpjobobdidiaaGreatDoor
open Go.RowKit
set_option linter.unusedVariables false
set_option maxRecDepth 100000

theorem info_parts {e : TypeId} {z : Value} {n m : Nat} (h : (Tryz.prog.info? e).map (fun i => (i.zero, i.size, i.bytes)) = some (some z, n, m)) :
    ∃ i : TypeInfo, Tryz.prog.info? e = some i ∧ i.zero = some z ∧ i.size = n ∧ i.bytes = m := by
  cases hq : Tryz.prog.info? e with
  | none => simp [hq] at h
  | some i =>
    simp [hq] at h
    exact ⟨i, rfl, h.1, h.2.1, h.2.2⟩
theorem step_append_mine8 {P : Program} {ops : Array Oper} {o : Oper} {a : Act} {w : World} {K : Act → World → Prop} {Q : Exit → Act → World → Prop} {E : Prop}
    (hg : o.guard = none) (s x : Operand) (t : TypeId) (hop : o.op = Op.call { callee := Callee.builtin Builtin.append, args := #[s, x], argTypes := #[t, t] })
    (base : Nat) (e : TypeId) (i : TypeInfo) (z : Value) (size bytes : Nat) (h1 : P.underlying t = some (.slice e)) (h2 : P.info? e = some i) (h3 : i.zero = some z) (h4 : i.size = size) (h5 : i.bytes = bytes) (h6 : z.cells.size = size) (h7 : 0 < size)
    (v : Value) (k : Nat) (xs : List Value) (hs : a.eval s = v) (hown : w.ownsRow base e size v k xs)
    (ad : Addr) (m c : Nat) (news : List Value) (hx : a.eval x = .slice (some ad) m c) (hn : news.length = m * size) (hc : ∀ j u, news[j]? = some u → w.cell? (ad.add j) = some u) (h1c : ∀ u ∈ news, u.oneCell' = true)
    (b1 : k + m ≤ maxLen) (b2 : (k + m) * bytes ≤ 140737488355328) (b3 : base ≤ w.heap.size)
    (hK : ∀ v' w', w'.ownsRow base e size v' (k + m) (xs ++ news) → w.grownBy w' v.ownBlock → K (a.put o.dst v') w') :
    if Region.wanted o (yielded ops a.tmps) = true then Oper.wp P o a w K Q else E := by
  have hw : Region.wanted o (yielded ops a.tmps) = true := by simp [Region.wanted, hg]
  rw [if_pos hw]
  obtain ⟨v', w', hrun, r1, r2, _⟩ := run_append_own (P := P) w base t o.type e i z size bytes h1 h2 h3 h4 h5 h6 h7 v k xs hown ad m c news hn hc h1c b1 b2 b3
  unfold Oper.wp
  simp [execOp, hop, resolve, invoke, builtin, hs, hx, hrun, Result.andThen]
  exact hK v' w' r1 r2

theorem flat_takeL {α : Type} {c : α → List Value} {k : Nat} (hk : ∀ a, (c a).length = k) : ∀ (l : List α) (i : Nat), (l.take i).flatMap c = (l.flatMap c).take (i * k) := by
  intro l
  induction l with
  | nil => intro i; simp
  | cons x l ih =>
    intro i
    cases i with
    | zero => simp
    | succ i =>
      rw [List.take_succ_cons, List.flatMap_cons, List.flatMap_cons, ih, show (i + 1) * k = (c x).length + i * k by rw [hk, Nat.succ_mul, Nat.add_comm], List.take_length_add_append]
theorem flat_dropL {α : Type} {c : α → List Value} {k : Nat} (hk : ∀ a, (c a).length = k) : ∀ (l : List α) (i : Nat), (l.drop i).flatMap c = (l.flatMap c).drop (i * k) := by
  intro l
  induction l with
  | nil => intro i; simp
  | cons x l ih =>
    intro i
    cases i with
    | zero => simp
    | succ i =>
      rw [List.drop_succ_cons, List.flatMap_cons, ih, show (i + 1) * k = (c x).length + i * k by rw [hk, Nat.succ_mul, Nat.add_comm], List.drop_append]
      simp

theorem Owns.lower11 {α : Type} {w : World} {base base' : Nat} {e : TypeId} {k : Nat} {c : α → List Value} {v : Value} {xs : List α} (h : Owns w base e k c v xs) (hb : base' ≤ base) : Owns w base' e k c v xs := by
  refine ⟨h.1, ?_⟩
  rcases h.2 with h2 | ⟨g, cap, cur, hv, hg, r⟩
  · exact .inl h2
  · exact .inr ⟨g, cap, cur, hv, Nat.le_trans hb hg, r⟩
theorem addL11 (b o n : Nat) : (Addr.mk b o none).add n = ⟨b, o + n, none⟩ := by
  unfold Addr.add
  split
  · rename_i z; rw [z]; rfl
  · rfl
def may11 (b r : Int) : Bool := decide (1 ≤ b ∧ b ≤ 256 ∧ 1 ≤ r ∧ r ≤ 128)
end Go.Proofs.YtfbpjobobdidiaaGreatDoor


/- Tickets, each with the block in whose lane it stands: plain facts. -/
namespace Go.Proofs.YtfbpjobobdidiaaGreatDoor
set_option linter.unusedVariables false
set_option maxRecDepth 100000

/-- a ticket k that stands in block b's lane -/
structure Sd where
  b : Int
  k : Int
  deriving DecidableEq
instance : Inhabited Sd := ⟨⟨0, 0⟩⟩
def Sd.cells (s : Sd) : List Value := [.int .i64 s.b, .int .i64 s.k]
theorem sd2 : ∀ s : Sd, s.cells.length = 2 := fun _ => rfl
theorem sd_one : ∀ s : Sd, ∀ u ∈ s.cells, u.oneCell' = true := fun s u hu => by
  simp only [Sd.cells, List.mem_cons, List.not_mem_nil, or_false] at hu
  rcases hu with rfl | rfl <;> rfl
/-- the place of a ticket -/
def tkAt (ss : List Sd) (x : Int) : Option Nat := ss.findIdx? (fun s => s.k == x)
def tkI (ss : List Sd) (x : Int) : Int := match tkAt ss x with | some k => k | none => -1
theorem tk_at {ss : List Sd} {x : Int} {k : Nat} {s : Sd} (h : ss[k]? = some s) (hx : s.k = x) (hb : ∀ (j : Nat) a, j < k → ss[j]? = some a → a.k ≠ x) : tkAt ss x = some k := by
  have hk := lt_of_get h
  unfold tkAt
  rw [List.findIdx?_eq_some_iff_getElem]
  refine ⟨hk, ?_, fun j hj => ?_⟩
  · rw [List.getElem?_eq_getElem hk] at h
    injection h with h
    rw [h]; simp [hx]
  · have := hb j ss[j] hj (List.getElem?_eq_getElem (by omega))
    simp [this]
theorem tk_no {ss : List Sd} {x : Int} (hb : ∀ (j : Nat) a, ss[j]? = some a → a.k ≠ x) : tkAt ss x = none := by
  unfold tkAt
  rw [List.findIdx?_eq_none_iff]
  intro a ha
  obtain ⟨j, hj, rfl⟩ := List.getElem_of_mem ha
  simpa using hb j _ (List.getElem?_eq_getElem hj)
theorem tk_of {ss : List Sd} {x : Int} {k : Nat} (h : tkAt ss x = some k) : ∃ s, ss[k]? = some s ∧ s.k = x ∧ ∀ (j : Nat) a, j < k → ss[j]? = some a → a.k ≠ x := by
  unfold tkAt at h
  rw [List.findIdx?_eq_some_iff_getElem] at h
  obtain ⟨hk, h1, h2⟩ := h
  refine ⟨ss[k], List.getElem?_eq_getElem hk, by simpa using h1, fun j b hj hb => ?_⟩
  have := h2 j hj
  rw [List.getElem?_eq_getElem (by omega)] at hb
  injection hb with hb
  rw [hb] at this
  simpa using this
theorem tk_none {ss : List Sd} {x : Int} (h : tkAt ss x = none) : ∀ (j : Nat) a, ss[j]? = some a → a.k ≠ x := by
  unfold tkAt at h
  rw [List.findIdx?_eq_none_iff] at h
  intro j b hb
  simpa using h b (List.mem_of_getElem? hb)
/-- a lane: its tickets, in order -/
def laneL (ss : List Sd) (b : Int) : List Int := (ss.filter (fun s => s.b == b)).map (·.k)
theorem lane_yes {ss : List Sd} {b : Int} {k : Nat} {y : Sd} (h : ss[k]? = some y) (e : y.b = b) : laneL (ss.take (k + 1)) b = laneL (ss.take k) b ++ [y.k] := by
  unfold laneL
  rw [List.take_add_one, h]
  simp [e]
theorem lane_skip {ss : List Sd} {b : Int} {k : Nat} {y : Sd} (h : ss[k]? = some y) (e : y.b ≠ b) : laneL (ss.take (k + 1)) b = laneL (ss.take k) b := by
  unfold laneL
  rw [List.take_add_one, h]
  simp [e]
theorem lane_le (ss : List Sd) (b : Int) : (laneL ss b).length ≤ ss.length := by
  unfold laneL
  rw [List.length_map]
  exact List.length_filter_le _ _
theorem lane_all {ss : List Sd} {b : Int} {k : Nat} (h : ss.length ≤ k) : laneL (ss.take k) b = laneL ss b := by rw [List.take_of_length_le h]
def headI (l : List Int) : Int := l.head?.getD 0
def lastI (l : List Int) : Int := l.getLast?.getD 0
def someB (l : List Int) : Bool := !l.isEmpty
/-- the heads of the first lanes -/
def headsL (ss : List Sd) (n : Nat) : List Int := (List.range n).filterMap (fun b : Nat => (laneL ss (b : Int)).head?)
theorem heads_yes {ss : List Sd} {n : Nat} {x : Int} {r : List Int} (h : laneL ss (n : Int) = x :: r) : headsL ss (n + 1) = headsL ss n ++ [x] := by
  unfold headsL
  rw [List.range_succ, List.filterMap_append]
  simp [h]
theorem heads_skip {ss : List Sd} {n : Nat} (h : laneL ss (n : Int) = []) : headsL ss (n + 1) = headsL ss n := by
  unfold headsL
  rw [List.range_succ, List.filterMap_append]
  simp [h]
theorem heads_le (ss : List Sd) (n : Nat) : (headsL ss n).length ≤ n := by
  unfold headsL
  exact Nat.le_trans (List.length_filterMap_le _ _) (by simp)
/-- what is pushed and pulled -/
def pushC (n room : Nat) (ss : List Sd) (b x : Int) : Int := if 0 ≤ b ∧ b < n ∧ 1 ≤ x then (if (tkAt ss x).isSome then 4 else if room ≤ ss.length then 2 else 0) else 1
def pushS (n room : Nat) (ss : List Sd) (b x : Int) : List Sd := if pushC n room ss b x = 0 then ss ++ [⟨b, x⟩] else ss
def pullC (ss : List Sd) (x : Int) : Int := if (tkAt ss x).isSome then 0 else 3
def blockI (ss : List Sd) (x : Int) : Int := match tkAt ss x with | some k => (ss[k]?.getD default).b | none => 0
def pullS (ss : List Sd) (x : Int) : List Sd := match tkAt ss x with | some k => ss.take k ++ ss.drop (k + 1) | none => ss
end Go.Proofs.YtfbpjobobdidiaaGreatDoor


/- A map in memory, from tickets to the blocks in whose lanes they stand. -/
namespace Go.Proofs.YtfbpjobobdidiaaGreatDoor
open Go.RowKit Go.Maps
set_option linter.unusedVariables false
set_option maxRecDepth 100000

theorem lawI : Keyed Tryz.prog 3 := int_keyed Tryz.underlying3
theorem zeroI (w : World) : (zeroValue 3).run Tryz.prog w = .ok (.int .i64 0) w := by kernel_rfl
theorem keyI (x : Int) : WideAt.IsKeyLit (.int .i64 x) := trivial
theorem wf_i (x : Int) (h : -9223372036854775808 ≤ x ∧ x ≤ 9223372036854775807) : (Lit.int .i64 x).wf = true := WalkArith.wf_i64 h

/-- does a ticket stand anywhere? -/
def hasK (ss : List Sd) (x : Int) : Bool := ss.any (fun s => s.k == x)
theorem hasK_iff {ss : List Sd} {x : Int} : hasK ss x = true ↔ ∃ s ∈ ss, s.k = x := by
  unfold hasK
  rw [List.any_eq_true]
  simp
theorem tk_has (ss : List Sd) (x : Int) : (tkAt ss x).isSome = hasK ss x := by
  unfold tkAt hasK
  rw [List.findIdx?_isSome]
/-- tickets, each of them once -/
def Once (ss : List Sd) : Prop := ss.Pairwise (fun a b => a.k ≠ b.k)
/-- all but one ticket -/
def cutK (ss : List Sd) (x : Int) : List Sd := ss.filter (fun s => !(s.k == x))
theorem hasK_cut (ss : List Sd) (x y : Int) : hasK (cutK ss x) y = (hasK ss y && !(y == x)) := by
  rw [Bool.eq_iff_iff]
  simp only [hasK_iff, Bool.and_eq_true]
  constructor
  · rintro ⟨e, he, rfl⟩
    have := List.mem_filter.1 he
    exact ⟨⟨e, this.1, rfl⟩, this.2⟩
  · rintro ⟨⟨e, he, rfl⟩, k⟩
    exact ⟨e, List.mem_filter.2 ⟨he, k⟩, rfl⟩
theorem Once.cut {ss : List Sd} (h : Once ss) (x : Int) : Once (cutK ss x) := h.filter _
theorem Once.more {ss : List Sd} (h : Once ss) (b x : Int) (hx : hasK ss x = false) : Once (ss ++ [⟨b, x⟩]) := by
  unfold Once
  rw [List.pairwise_append]
  refine ⟨h, List.pairwise_singleton _ _, fun a ha c hc => ?_⟩
  rw [List.mem_singleton.1 hc]
  rintro e
  have : hasK ss x = true := hasK_iff.2 ⟨a, ha, e⟩
  rw [hx] at this; cases this
theorem Once.inj : ∀ {ss : List Sd}, Once ss → ∀ {a b : Sd}, a ∈ ss → b ∈ ss → a.k = b.k → a = b
  | [], _, _, _, ha, _, _ => by cases ha
  | s :: r, h, a, b, ha, hb, e => by
    have h' := List.pairwise_cons.1 h
    rcases List.mem_cons.1 ha with rfl | ha'
    · rcases List.mem_cons.1 hb with rfl | hb'
      · rfl
      · exact absurd e (h'.1 b hb')
    · rcases List.mem_cons.1 hb with rfl | hb'
      · exact absurd e.symm (h'.1 a ha')
      · exact Once.inj (show Once r from h'.2) ha' hb' e

/-- what a map reads as: of each ticket that stands anywhere its block -/
def Reads11 (D : DataW Unit) (ss : List Sd) : Prop := (∀ x, has D (.int .i64 x) = hasK ss x) ∧ ∀ s ∈ ss, ∀ z, D.atKey (.int .i64 s.k) z = .lit (.int .i64 s.b)
theorem Reads11.nil : Reads11 (.map []) [] := ⟨fun _ => rfl, fun _ h => by cases h⟩
theorem lit_ne {x y : Int} (h : y ≠ x) : (Lit.int .i64 y) ≠ Lit.int .i64 x := fun k => h (by injection k)
theorem Reads11.del {D : DataW Unit} {ss : List Sd} (h : Reads11 D ss) (x : Int) : Reads11 (D.del (.int .i64 x)) (cutK ss x) := by
  refine ⟨fun y => ?_, fun e he z => ?_⟩
  · rw [hasK_cut]
    by_cases k : y = x
    · subst k
      rw [has_del_same]
      simp
    · rw [has_del_other (lit_ne k), h.1]
      simp [k]
  · have he' := List.mem_filter.1 he
    have : e.k ≠ x := by simpa using he'.2
    rw [atKey_del_other (lit_ne this)]
    exact h.2 e he'.1 z
theorem Reads11.put {D : DataW Unit} {ss : List Sd} (h : Reads11 D ss) (m : IsMap D) (b x : Int) (hx : hasK ss x = false) : Reads11 (D.put (.int .i64 x) (.lit (.int .i64 b))) (ss ++ [⟨b, x⟩]) := by
  have hx' : ∀ e ∈ ss, e.k ≠ x := fun e he q => by
    have : hasK ss x = true := hasK_iff.2 ⟨e, he, q⟩
    rw [hx] at this; cases this
  refine ⟨fun y => ?_, fun e he z => ?_⟩
  · by_cases k : y = x
    · subst k
      rw [has_put_same m (keyI _)]
      simp [hasK]
    · rw [has_put_other (lit_ne k), h.1]
      have : (x == y) = false := by simp; exact fun q => k q.symm
      simp [hasK, this]
  · rcases List.mem_append.1 he with he' | he'
    · rw [atKey_put_other (lit_ne (hx' e he'))]
      exact h.2 e he' z
    · rw [List.mem_singleton.1 he', atKey_put_same m (keyI _)]
/-- what a lookup finds -/
theorem blockI_of {ss : List Sd} (o : Once ss) {s : Sd} (hs : s ∈ ss) : blockI ss s.k = s.b := by
  unfold blockI
  cases hk : tkAt ss s.k with
  | none =>
    obtain ⟨i, hi, e⟩ := List.getElem_of_mem hs
    exact absurd rfl (tk_none hk i s (by rw [List.getElem?_eq_getElem hi, e]))
  | some k =>
    obtain ⟨u, hu, e, _⟩ := tk_of hk
    have : u = s := o.inj (List.mem_of_getElem? hu) hs e
    simp [hu, this]
theorem Reads11.at_ {D : DataW Unit} {ss : List Sd} (h : Reads11 D ss) (o : Once ss) (x c : Int) (z : DataW Unit) (hc : hasK ss x = true) (e : D.atKey (.int .i64 x) z = .lit (.int .i64 c)) : c = blockI ss x := by
  obtain ⟨s, hs, rfl⟩ := hasK_iff.1 hc
  rw [h.2 s hs z] at e
  rw [blockI_of o hs]
  injection e with e
  injection e with _ e
  exact e.symm

/-- every key is a number -/
theorem key_int {w : World} {b n : Nat} {D : DataW Unit} (h : w.ownsMap Tryz.prog 3 (plainElem Tryz.prog 3) b n D) : ∀ kl, has D kl = true → ∃ x, kl = .int .i64 x := by
  intro kl hk
  obtain ⟨es, clock, hb, F, _, rfl⟩ := h
  obtain ⟨p, hp, hpk⟩ := List.any_eq_true.1 hk
  obtain ⟨x, hx, rfl⟩ := List.mem_map.1 (mem_sorted.1 hp)
  obtain ⟨y, hy⟩ := F.reads x hx
  rw [WideElems.rg_of hy] at hpk
  obtain ⟨a, _, e2, _⟩ := keyOf_int_inv Tryz.underlying3 (WideElems.rd_key hy)
  have := WideAt.sameKey_eq hpk
  exact ⟨a, by rw [← this, e2]⟩
theorem tight {w : World} {b n : Nat} {D : DataW Unit} (h : w.ownsMap Tryz.prog 3 (plainElem Tryz.prog 3) b n D) : w.ownsMap Tryz.prog 3 (plainElem Tryz.prog 3) b (size D) D := by
  obtain ⟨es, clock, hb, F, _, rfl⟩ := h
  exact ⟨es, clock, hb, F, by rw [size_eq, length_sorted]; simp, rfl⟩
theorem sub_len {α : Type} [DecidableEq α] : ∀ (l l' : List α), l.Nodup → (∀ x ∈ l, x ∈ l') → l.length ≤ l'.length
  | [], _, _, _ => Nat.zero_le _
  | a :: r, l', hn, hs => by
    obtain ⟨h1, h2⟩ := List.nodup_cons.1 hn
    have ha : a ∈ l' := hs a (by simp)
    have := sub_len r (l'.erase a) h2 (fun x hx => by
      have hx' : x ∈ l' := hs x (by simp [hx])
      exact (List.mem_erase_of_ne (fun q => h1 (by rw [← q]; exact hx))).2 hx')
    rw [List.length_erase_of_mem ha] at this
    have : 0 < l'.length := List.length_pos_of_mem ha
    simp only [List.length_cons]
    omega
theorem same_len {α : Type} [DecidableEq α] {l l' : List α} (h : l.Nodup) (h' : l'.Nodup) (k : ∀ x, x ∈ l ↔ x ∈ l') : l.length = l'.length :=
  Nat.le_antisymm (sub_len l l' h (fun x hx => (k x).1 hx)) (sub_len l' l h' (fun x hx => (k x).2 hx))
theorem Reads11.size {w : World} {b n : Nat} {D : DataW Unit} {ss : List Sd} (h : Reads11 D ss) (o : w.ownsMap Tryz.prog 3 (plainElem Tryz.prog 3) b n D) (hn : Once ss) : size D = ss.length := by
  have KI := key_int o
  obtain ⟨ps, rfl, hp, hk⟩ := o.entries lawI
  show ps.length = ss.length
  have e1 : (ps.map (fun p => match p.1 with | .int .i64 x => x | _ => 0)).length = ps.length := List.length_map _
  have e2 : (ss.map (fun e => e.k)).length = ss.length := List.length_map _
  rw [← e1, ← e2]
  have hi : ∀ p ∈ ps, ∃ x, p.1 = .int .i64 x := fun p hp' => KI p.1 (List.any_eq_true.2 ⟨p, hp', WideAt.sameKey_self (hk p hp')⟩)
  refine same_len ?_ (by unfold List.Nodup; rw [List.pairwise_map]; exact hn) ?_
  · unfold List.Nodup
    rw [List.pairwise_map]
    refine hp.imp_of_mem ?_
    intro p q hp1 hq1 hne e
    obtain ⟨x, hx⟩ := hi p hp1
    obtain ⟨y, hy⟩ := hi q hq1
    simp only [hx, hy] at e
    exact hne (by rw [hx, hy, e])
  · intro x
    have h1 := h.1 x
    constructor
    · intro hm
      obtain ⟨p, hp1, e⟩ := List.mem_map.1 hm
      obtain ⟨y, hy⟩ := hi p hp1
      simp only [hy] at e
      subst e
      have : has (DataW.map ps) (.int .i64 y) = true := List.any_eq_true.2 ⟨p, hp1, by rw [hy]; exact WideAt.sameKey_self (keyI _)⟩
      rw [h1] at this
      obtain ⟨a, ha, e⟩ := hasK_iff.1 this
      exact List.mem_map.2 ⟨a, ha, e⟩
    · intro hm
      obtain ⟨a, ha, e⟩ := List.mem_map.1 hm
      rw [hasK_iff.2 ⟨a, ha, e⟩] at h1
      obtain ⟨p, hp1, hpk⟩ := List.any_eq_true.1 h1
      have := WideAt.sameKey_eq hpk
      exact List.mem_map.2 ⟨p, hp1, by simp only [this]⟩

/-- block b is a map that has just these tickets -/
def Md (w : World) (b : Nat) (ss : List Sd) : Prop := ∃ D, w.ownsMap Tryz.prog 3 (plainElem Tryz.prog 3) b ss.length D ∧ Reads11 D ss
theorem Md.of {w : World} {b n : Nat} {D : DataW Unit} {ss : List Sd} (o : w.ownsMap Tryz.prog 3 (plainElem Tryz.prog 3) b n D) (h : Reads11 D ss) (hn : Once ss) : Md w b ss :=
  ⟨D, by rw [← h.size o hn]; exact tight o, h⟩
theorem owns_keep {w w' : World} {b n : Nat} {D : DataW Unit} (h : w.ownsMap Tryz.prog 3 (plainElem Tryz.prog 3) b n D) {S : Nat → Prop} (o : Only S w w') (hn : ¬ S b) : w'.ownsMap Tryz.prog 3 (plainElem Tryz.prog 3) b n D := by
  have lt := h.lt
  obtain ⟨es, clock, hb, r⟩ := h
  exact ⟨es, clock, (o.block b lt hn).trans hb, r⟩
theorem Md.keep {w w' : World} {b : Nat} {ss : List Sd} (h : Md w b ss) {S : Nat → Prop} (o : Only S w w') (hn : ¬ S b) : Md w' b ss := by
  obtain ⟨D, h1, h2⟩ := h
  exact ⟨D, owns_keep h1 o hn, h2⟩
theorem Md.lt {w : World} {b : Nat} {ss : List Sd} (h : Md w b ss) : b < w.heap.size := by
  obtain ⟨D, h1, _⟩ := h
  exact h1.lt
theorem Md.ne {w : World} {p b : Nat} {ss : List Sd} {t : TypeId} {cs : Array Value} (h : Md w b ss) (r : Row w p t cs) : p ≠ b := by
  rintro rfl
  obtain ⟨D, ⟨es, clock, hb, _⟩, _⟩ := h
  unfold Row at r
  rw [r] at hb
  cases hb
theorem Md.still {w w' : World} {b : Nat} {ss : List Sd} (h : Md w b ss) (o : Only none_ w w') : Md w' b ss := h.keep o (fun s => s)
theorem only_turned {w w' : World} {b : Nat} (h : w.mapTurned w' b) : Only (fun k => k = b) w w' := (Only.of_grown h.grown).more (fun i _ e => by injection e)
theorem Md.len {w : World} {b : Nat} {ss : List Sd} (h : Md w b ss) (hn : Once ss) (ty : TypeId) : (Builtin.len_ #[140] ty #[.map (some b)]).run Tryz.prog w = .ok (.int .i64 ss.length) w := by
  obtain ⟨D, h1, h2⟩ := h
  have := h1.len Tryz.underlying140 ty
  rw [h2.size h1 hn] at this
  exact this
theorem store11 {w : World} {b : Nat} {ss : List Sd} (h : Md w b ss) (hn : Once ss) (hl : ss.length ≤ 1000) (x c : Int) (hx : hasK ss x = false) (wx : (Lit.int .i64 x).wf = true) (wc : (Lit.int .i64 c).wf = true) :
    ∃ w', (Instr.mapUpdate 140 (.map (some b)) (.int .i64 x) (.int .i64 c)).run Tryz.prog w = .ok () w' ∧ Md w' b (ss ++ [⟨c, x⟩]) ∧ Only (fun k => k = b) w w' := by
  obtain ⟨D, h1, h2⟩ := h
  have IM : IsMap D := let ⟨es, _, _, _, _, e⟩ := h1; ⟨_, e⟩
  obtain ⟨w', e1, e2, e3⟩ := h1.store lawI Tryz.underlying140 (by unfold maxLen; omega) (keyOf_int_mk Tryz.underlying3 wx) (plainElem_int Tryz.underlying3 wc)
  exact ⟨w', e1, Md.of e2 (h2.put IM c x hx) (hn.more c x hx), only_turned e3⟩
end Go.Proofs.YtfbpjobobdidiaaGreatDoor


/- Slices of integers: such as the call itself has made, such as are read; whether two have the same. -/
namespace Go.Proofs.YtfbpjobobdidiaaGreatDoor
open Go.RowKit
set_option linter.unusedVariables false
set_option maxRecDepth 100000

def one (x : Int) : List Value := [.int .i64 x]
theorem one1 (x : Int) : (one x).length = 1 := rfl
theorem one_one : ∀ y : Int, ∀ u ∈ one y, u.oneCell' = true := by
  intro y u hu
  simp only [one, List.mem_cons, List.not_mem_nil, or_false] at hu
  rcases hu with rfl; rfl
theorem one_map (xs : List Int) : xs.flatMap one = xs.map (Value.int .i64) := by
  induction xs with
  | nil => rfl
  | cons x xs ih => rw [List.flatMap_cons, ih]; rfl
theorem info_int8 : (Tryz.prog.info? 3).map (fun i => (i.zero, i.size, i.bytes)) = some (some (.int .i64 0), 1, 8) := by kernel_rfl

/-- a slice of integers of the call's own -/
abbrev OwnsInts (w : World) (base : Nat) (v : Value) (xs : List Int) : Prop := Owns w base 3 1 one v xs

/-- a slice that reads so -/
def Reads (w : World) (v : Value) (xs : List Int) : Prop := ∃ a cap, v = .slice a xs.length cap ∧ ∀ (i : Nat) (x : Int), xs[i]? = some x → ∃ g o, a = some ⟨g, o, none⟩ ∧ w.cell? ⟨g, o + i, none⟩ = some (.int .i64 x)
theorem Reads.of_owns {w : World} {base : Nat} {v : Value} {xs : List Int} (h : OwnsInts w base v xs) : Reads w v xs := by
  rcases h.2 with ⟨hv, h2⟩ | ⟨g, cap, cur, hv, hg, hh, h3, h4, _⟩
  · have : xs = [] := List.eq_nil_of_length_eq_zero h2
    subst this
    exact ⟨none, 0, hv, fun i x hx => by simp at hx⟩
  · subst hv
    refine ⟨_, cap, rfl, fun i x hx => ⟨g, 0, rfl, ?_⟩⟩
    have := Owns.cell h one1 hx (j := 0) (by decide)
    rw [Nat.zero_add]
    simpa [one] using this
theorem Reads.keep {w w' : World} {v : Value} {xs : List Int} (h : Reads w v xs) {S : Nat → Prop} (o : Only S w w') (hn : ∀ g, v.ownBlock = some g → ¬ S g) (hv : ∀ a n c, v = .slice (some a) n c → a.off = 0) : Reads w' v xs := by
  obtain ⟨a, cap, rfl, hc⟩ := h
  refine ⟨a, cap, rfl, fun i x hx => ?_⟩
  obtain ⟨g, o', rfl, hcell⟩ := hc i x hx
  have := hv _ _ _ rfl
  simp only at this
  subst this
  exact ⟨g, 0, rfl, o.cell hcell (hn g rfl)⟩
theorem Reads.still {w w' : World} {v : Value} {xs : List Int} (h : Reads w v xs) (o : Only none_ w w') : Reads w' v xs := by
  obtain ⟨a, cap, rfl, hc⟩ := h
  refine ⟨a, cap, rfl, fun i x hx => ?_⟩
  obtain ⟨g, o', rfl, hcell⟩ := hc i x hx
  exact ⟨g, o', rfl, o.cell hcell (fun s => s)⟩

theorem eq_upto {xs ys : List Int} (hl : xs.length = ys.length) (h : ∀ j, j < xs.length → xs[j]? = ys[j]?) : xs = ys := by
  apply List.ext_getElem?
  intro j
  rcases Nat.lt_or_ge j xs.length with c | c
  · exact h j c
  · rw [List.getElem?_eq_none c, List.getElem?_eq_none (by omega)]

end Go.Proofs.YtfbpjobobdidiaaGreatDoor


/- Texts of the layers below, one behind the other. -/
import Derived.WalkKit
import Derived.Lib.Hide
import Derived.Deep.QuietTactic
import Derived.BigQuiet
import Derived.Test.YtlfnncahhbbmpaaGreatDoorChecked
import Derived.ProofKit
import Derived.OpenShut
import Derived.Deep.Slices
import Derived.Deep.Fields
import Derived.OwnWalk
import Derived.Laws.OwnMore
import Derived.Laws.StructEq
import Derived.BigRegion
import Derived.RangeFuncNested
import Derived.RangeFuncBound
import Derived.RangeFuncCalls
import Derived.RangeFuncLeaves
import Derived.Shelf.Abstract
import Derived.Shelf.RegionOpen
import Derived.OwnWalkIn
import Derived.TacticsInMore
import Derived.LoopNIn
import Derived.LoopIn
import Derived.Maps.AppendAt
namespace Go.Proofs.YtlfnncahhbbmpaaGreatDoor
open Go.RowKit
set_option maxRecDepth 100000

/-- block g holds just these cells, of elements of type t, none frozen -/
def Row (w : World) (g : Nat) (t : TypeId) (cs : Array Value) : Prop := w.heap[g]? = some (.cells cs t (0, 0))

theorem Row.lt {w : World} {g : Nat} {t : TypeId} {cs : Array Value} (h : Row w g t cs) : g < w.heap.size := by
  rcases Nat.lt_or_ge g w.heap.size with k | k
  · exact k
  · have h' := h
    unfold Row at h'
    rw [Array.getElem?_eq_none k] at h'
    cases h'
theorem Row.cell {w : World} {g : Nat} {t : TypeId} {cs : Array Value} (h : Row w g t cs) (i : Nat) : w.cell? ⟨g, i, none⟩ = cs[i]? := by
  unfold Row at h
  simp [World.cell?, h]
theorem Row.frozen {w : World} {g : Nat} {t : TypeId} {cs : Array Value} (h : Row w g t cs) (i : Nat) : w.frozen? ⟨g, i, none⟩ = false := by
  unfold Row at h
  simp [World.frozen?, h]
theorem Row.fresh (w : World) (t : TypeId) (cs : Array Value) : Row (w.alloc (.cells cs t)) w.heap.size t cs := by
  show (w.heap.push _)[w.heap.size]? = _
  simp
theorem Row.put {w : World} {g : Nat} {t : TypeId} {cs : Array Value} (h : Row w g t cs) (i : Nat) (v : Value) : Row (w.setCell ⟨g, i, none⟩ v) g t (cs.setIfInBounds i v) := by
  unfold Row at h ⊢
  simp [World.setCell, Array.getElem?_modify, h]
theorem Row.far {w : World} {g : Nat} {t : TypeId} {cs : Array Value} (h : Row w g t cs) {p : Addr} (hp : g ≠ p.block) (v : Value) : Row (w.setCell p v) g t cs :=
  (Below.heap_setCell w p v g hp).trans h
theorem Row.alloc {w : World} {g : Nat} {t : TypeId} {cs : Array Value} (h : Row w g t cs) (o : Obj) : Row (w.alloc o) g t cs :=
  (Below.heap_alloc w o g h.lt).trans h
theorem Row.drew {w : World} {g : Nat} {t : TypeId} {cs : Array Value} (h : Row w g t cs) : Row w.drew g t cs := h
theorem Row.drewN {w : World} {g : Nat} {t : TypeId} {cs : Array Value} (h : Row w g t cs) (n : Nat) : Row (w.drewN n) g t cs := h
theorem Row.five {w : World} {g : Nat} {t : TypeId} {a b c d e : Value} (h : Row w g t #[a, b, c, d, e]) : w.cell? ⟨g, 0, none⟩ = some a ∧ w.cell? ⟨g, 1, none⟩ = some b ∧ w.cell? ⟨g, 2, none⟩ = some c ∧ w.cell? ⟨g, 3, none⟩ = some d ∧ w.cell? ⟨g, 4, none⟩ = some e := by
  refine ⟨?_, ?_, ?_, ?_, ?_⟩ <;> (rw [h.cell]; rfl)
theorem Row.put5 {w : World} {g : Nat} {t : TypeId} {a b c d e : Value} (h : Row w g t #[a, b, c, d, e]) (a' b' c' d' e' : Value) :
    Row (((((w.setCell ⟨g, 0, none⟩ a').setCell ⟨g, 1, none⟩ b').setCell ⟨g, 2, none⟩ c').setCell ⟨g, 3, none⟩ d').setCell ⟨g, 4, none⟩ e') g t #[a', b', c', d', e'] :=
  ((((h.put 0 a').put 1 b').put 2 c').put 3 d').put 4 e'
theorem Row.four {w : World} {g : Nat} {t : TypeId} {a b c d : Value} (h : Row w g t #[a, b, c, d]) : w.cell? ⟨g, 0, none⟩ = some a ∧ w.cell? ⟨g, 1, none⟩ = some b ∧ w.cell? ⟨g, 2, none⟩ = some c ∧ w.cell? ⟨g, 3, none⟩ = some d := by
  refine ⟨?_, ?_, ?_, ?_⟩ <;> (rw [h.cell]; rfl)
theorem Row.three {w : World} {g : Nat} {t : TypeId} {a b c : Value} (h : Row w g t #[a, b, c]) : w.cell? ⟨g, 0, none⟩ = some a ∧ w.cell? ⟨g, 1, none⟩ = some b ∧ w.cell? ⟨g, 2, none⟩ = some c := by
  refine ⟨?_, ?_, ?_⟩ <;> (rw [h.cell]; rfl)
theorem Row.two {w : World} {g : Nat} {t : TypeId} {a b : Value} (h : Row w g t #[a, b]) : w.cell? ⟨g, 0, none⟩ = some a ∧ w.cell? ⟨g, 1, none⟩ = some b := by
  refine ⟨?_, ?_⟩ <;> (rw [h.cell]; rfl)
theorem Row.one {w : World} {g : Nat} {t u : TypeId} {cs ds : Array Value} (h : Row w g t cs) (k : Row w g u ds) : t = u ∧ cs = ds := by
  unfold Row at h k
  rw [h] at k
  injection k with k
  injection k with k1 k2
  exact ⟨k2, k1⟩
theorem Row.apart {w : World} {g g' : Nat} {t u : TypeId} {cs ds : Array Value} (h : Row w g t cs) (k : Row w g' u ds) (hne : t ≠ u) : g ≠ g' := by
  rintro rfl
  exact hne (h.one k).1

/-- the streams are as they were; of the blocks that were there just those of S may have turned -/
structure Only (S : Nat → Prop) (w w' : World) : Prop where
  os : w'.os = w.os
  tape : w'.tape = w.tape
  output : w'.output = w.output
  size : w.heap.size ≤ w'.heap.size
  block : ∀ k, k < w.heap.size → ¬ S k → w'.heap[k]? = w.heap[k]?

/-- nothing that was there has turned -/
def none_ : Nat → Prop := fun _ => False

theorem Only.refl (S : Nat → Prop) (w : World) : Only S w w := ⟨rfl, rfl, rfl, Nat.le_refl _, fun _ _ _ => rfl⟩
theorem Only.trans {S S' : Nat → Prop} {a b c : World} (h : Only S a b) (k : Only S' b c) (hs : ∀ i, i < a.heap.size → S' i → S i) : Only S a c :=
  ⟨k.os.trans h.os, k.tape.trans h.tape, k.output.trans h.output, Nat.le_trans h.size k.size,
    fun i hi hn => (k.block i (Nat.lt_of_lt_of_le hi h.size) (fun s => hn (hs i hi s))).trans (h.block i hi hn)⟩
theorem Only.more {S S' : Nat → Prop} {a b : World} (h : Only S a b) (hs : ∀ i, i < a.heap.size → S i → S' i) : Only S' a b :=
  ⟨h.os, h.tape, h.output, h.size, fun i hi hn => h.block i hi (fun s => hn (hs i hi s))⟩
theorem Only.same {S : Nat → Prop} {a b c : World} (h : Only S a b) (k : Only S b c) : Only S a c := h.trans k (fun _ _ s => s)
theorem Only.idle {S : Nat → Prop} {a b c : World} (h : Only S a b) (k : Only none_ b c) : Only S a c := h.trans k (fun _ _ s => s.elim)
theorem Only.up {S : Nat → Prop} {a b : World} (h : Only none_ a b) : Only S a b := h.more (fun _ _ s => s.elim)
theorem Only.then_ {S : Nat → Prop} {a b c : World} (h : Only none_ a b) (k : Only S b c) : Only S a c := h.up.same k
theorem Only.alloc {S : Nat → Prop} {a w : World} (h : Only S a w) (o : Obj) : Only S a (w.alloc o) :=
  h.trans (S' := none_) ⟨rfl, rfl, rfl, by simp, fun k hk _ => Below.heap_alloc _ _ _ hk⟩ (fun _ _ s => s.elim)
theorem Only.put {S : Nat → Prop} {a w : World} (h : Only S a w) {p : Addr} (hp : p.block < a.heap.size → S p.block) (v : Value) : Only S a (w.setCell p v) :=
  h.trans (S' := fun k => k = p.block) ⟨rfl, rfl, rfl, by simp [World.setCell], fun k _ hn => Below.heap_setCell _ _ _ _ hn⟩ (fun i hi s => by subst s; exact hp hi)
theorem Only.into {S : Nat → Prop} {a w : World} (h : Only S a w) {b : Nat} (hb : S b) (i : Nat) (v : Value) : Only S a (w.setCell ⟨b, i, none⟩ v) := h.put (p := ⟨b, i, none⟩) (fun _ => hb) v
theorem Only.new {S : Nat → Prop} {a w : World} (h : Only S a w) {b : Nat} (hb : a.heap.size ≤ b) (i : Nat) (v : Value) : Only S a (w.setCell ⟨b, i, none⟩ v) := h.put (p := ⟨b, i, none⟩) (fun k => absurd k (by show ¬ b < _; omega)) v
theorem only5 (w : World) (n : Nat) (a b c d e : Value) : Only (fun k => k = n) w (((((w.setCell ⟨n, 0, none⟩ a).setCell ⟨n, 1, none⟩ b).setCell ⟨n, 2, none⟩ c).setCell ⟨n, 3, none⟩ d).setCell ⟨n, 4, none⟩ e) :=
  ((((((Only.refl (fun k => k = n) w).into rfl 0 a).into rfl 1 b).into rfl 2 c).into rfl 3 d).into rfl 4 e)
theorem Only.drew {S : Nat → Prop} {a w : World} (h : Only S a w) : Only S a w.drew := ⟨h.os, h.tape, h.output, h.size, h.block⟩
theorem Only.drewN {S : Nat → Prop} {a w : World} (h : Only S a w) (n : Nat) : Only S a (w.drewN n) := ⟨h.os, h.tape, h.output, h.size, h.block⟩
theorem Only.row {S : Nat → Prop} {a b : World} (h : Only S a b) {g : Nat} {t : TypeId} {cs : Array Value} (k : Row a g t cs) (hn : ¬ S g) : Row b g t cs :=
  (h.block g k.lt hn).trans k
theorem Only.still {a b : World} (h : Only none_ a b) {g : Nat} {t : TypeId} {cs : Array Value} (k : Row a g t cs) : Row b g t cs := h.row k (fun s => s)
theorem Only.below {S : Nat → Prop} {a b : World} (h : Only S a b) {B : Nat} (hB : B ≤ a.heap.size) (hs : ∀ i, i < B → ¬ S i) : Below B a b :=
  ⟨h.os, h.tape, h.output, h.size, fun k hk => h.block k (Nat.lt_of_lt_of_le hk hB) (hs k hk)⟩
theorem Only.of_below {B : Nat} {a b : World} (h : Below B a b) : Only (fun k => B ≤ k) a b :=
  ⟨h.os, h.tape, h.output, h.size, fun k _ hn => h.block k (Nat.lt_of_not_le hn)⟩
theorem below_n {B : Nat} {a w : World} (h : Below B a w) (n : Nat) : Below B a (w.drewN n) := ⟨h.os, h.tape, h.output, h.size, h.block⟩
theorem Only.cell {S : Nat → Prop} {a b : World} (h : Only S a b) {p : Addr} {v : Value} (hc : a.cell? p = some v) (hn : ¬ S p.block) : b.cell? p = some v := by
  rcases Nat.lt_or_ge p.block a.heap.size with k | k
  · rw [World.cell?_of_block (w := a) (h.block p.block k hn)]; exact hc
  · simp [World.cell?, Array.getElem?_eq_none k] at hc
theorem Only.below_to {S : Nat → Prop} {a b c : World} {B : Nat} (h : Below B a b) (k : Only S b c) (hB : B ≤ a.heap.size) (hs : ∀ i, i < B → ¬ S i) : Below B a c :=
  h.trans (k.below (Nat.le_trans hB h.size) hs)

/-- structs one behind the other -/
def flat {α : Type} (c : α → List Value) (l : List α) : Array Value := (l.flatMap c).toArray

theorem flat_drop {α : Type} {c : α → List Value} {k : Nat} (hk : ∀ a, (c a).length = k) : ∀ (l : List α) (i : Nat) (a : α), l[i]? = some a → (l.flatMap c).drop (i * k) = c a ++ (l.drop (i + 1)).flatMap c := by
  intro l
  induction l with
  | nil => intro i a h; simp at h
  | cons x l ih =>
    intro i a h
    cases i with
    | zero =>
      simp at h
      subst h
      simp
    | succ i =>
      simp at h
      have := ih i a h
      rw [List.flatMap_cons, show (i + 1) * k = (c x).length + i * k by rw [hk, Nat.succ_mul, Nat.add_comm], ← List.drop_drop, List.drop_left]
      simpa using this
theorem flat_get {α : Type} {c : α → List Value} {k : Nat} (hk : ∀ a, (c a).length = k) {l : List α} {i : Nat} {a : α} (h : l[i]? = some a) {j : Nat} (hj : j < k) : (flat c l)[i * k + j]? = (c a)[j]? := by
  unfold flat
  rw [List.getElem?_toArray, ← List.getElem?_drop, flat_drop hk l i a h, List.getElem?_append_left (by rw [hk]; exact hj)]
theorem flat_size {α : Type} {c : α → List Value} {k : Nat} (hk : ∀ a, (c a).length = k) (l : List α) : (flat c l).size = l.length * k := by
  unfold flat
  rw [List.size_toArray, List.length_flatMap]
  induction l with
  | nil => simp
  | cons x l ih => simp [hk, Nat.succ_mul, Nat.add_comm] at ih ⊢; omega
theorem flat_set {α : Type} {c : α → List Value} {k : Nat} (hk : ∀ a, (c a).length = k) : ∀ (l : List α) (i : Nat) (a a' : α) (j : Nat) (v : Value), l[i]? = some a → j < k → c a' = (c a).set j v →
    (l.flatMap c).set (i * k + j) v = (l.set i a').flatMap c := by
  intro l
  induction l with
  | nil => intro i a a' j v h; simp at h
  | cons x l ih =>
    intro i a a' j v h hj e
    cases i with
    | zero =>
      simp at h
      subst h
      rw [List.flatMap_cons, show (0 : Nat) * k + j = j by omega, List.set_append_left _ _ (by rw [hk]; exact hj), ← e]
      simp
    | succ i =>
      simp at h
      rw [List.flatMap_cons, List.set_append_right _ _ (by rw [hk, Nat.succ_mul]; omega), hk, show (i + 1) * k + j - k = i * k + j by rw [Nat.succ_mul]; omega, ih i a a' j v h hj e]
      simp
theorem flat_put {α : Type} {c : α → List Value} {k : Nat} (hk : ∀ a, (c a).length = k) {l : List α} {i : Nat} {a a' : α} {j : Nat} {v : Value} (h : l[i]? = some a) (hj : j < k) (e : c a' = (c a).set j v) :
    (flat c l).setIfInBounds (i * k + j) v = flat c (l.set i a') := by
  unfold flat
  rw [List.setIfInBounds_toArray, flat_set hk l i a a' j v h hj e]
theorem flat_made {α : Type} {c : α → List Value} (a : α) {z : Array Value} (hz : z.toList = c a) {k : Nat} (hk : ∀ a, (c a).length = k) (h0 : 0 < k) (n : Nat) : madeCells z (n * k) = flat c (List.replicate n a) := by
  have hs : z.size = k := by rw [← Array.length_toList, hz, hk]
  apply Array.ext
  · rw [size_madeCells, flat_size hk, List.length_replicate]
  · intro i h1 h2
    rw [size_madeCells] at h1
    have hq : i / k < n := (Nat.div_lt_iff_lt_mul h0).2 h1
    have hr : i % k < k := Nat.mod_lt _ h0
    have hg : (List.replicate n a)[i / k]? = some a := by simp [hq]
    have e := flat_get hk hg hr
    rw [show i / k * k + i % k = i by rw [Nat.mul_comm]; exact Nat.div_add_mod i k] at e
    rw [Array.getElem?_eq_getElem h2] at e
    have e2 : (c a)[i % k]? = some (z[i % k]!) := by
      rw [← hz, Array.getElem?_toList, Array.getElem?_eq_getElem (by omega), getElem!_pos z (i % k) (by omega)]
    rw [e2] at e
    injection e with e
    rw [e]
    simp [madeCells, hs]
/-- structs made in a row -/
theorem run_make_flat {α : Type} {P : Program} {c : α → List Value} (a : α) {k : Nat} (hk : ∀ a, (c a).length = k) (h0 : 0 < k) (t e : TypeId) (i : TypeInfo) (z : Value) (ht : P.underlying t = some (.slice e)) (hi : P.info? e = some i) (hz : i.zero = some z) (hs : i.size = k) (hc : z.cells.toList = c a)
    (kl kc : IntKind) (n : Nat) (hb : i.bytes * n ≤ 281474976710656) (h63 : n ≤ 9223372036854775807) (w : World) :
    (Instr.makeSlice t (.int kl (n : Int)) (.int kc (n : Int))).run P w = .ok (.slice (some ⟨w.heap.size, 0, none⟩) n n) (w.alloc (.cells (flat c (List.replicate n a)) e)) := by
  have h := run_make (P := P) w t e i z ht hi hz kl kc n n (by omega) (Int.le_refl _) (by rw [← Int.natCast_mul]; omega) (by omega)
  rw [h]
  simp only [Int.toNat_natCast, hs]
  rw [flat_made a hc hk h0]
theorem get_set {α : Type} {l : List α} {i : Nat} {a a' : α} (h : l[i]? = some a) : (l.set i a')[i]? = some a' := by
  have : i < l.length := by
    rcases Nat.lt_or_ge i l.length with k | k
    · exact k
    · rw [List.getElem?_eq_none k] at h; cases h
  simp [this]
theorem lt_of_get {α : Type} {l : List α} {i : Nat} {a : α} (h : l[i]? = some a) : i < l.length := by
  rcases Nat.lt_or_ge i l.length with k | k
  · exact k
  · rw [List.getElem?_eq_none k] at h; cases h
end Go.Proofs.YtlfnncahhbbmpaaGreatDoor

namespace Go.Proofs.YtlfnncahhbbmpaaGreatDoor
open Go.RowKit Go.ChangeShapes Go.WideShapes Go.Deep
set_option linter.unusedVariables false
set_option maxRecDepth 100000

/-- what a slice that came in holds: elements of so many cells each -/
def Holds {α : Type} (w : World) (A : Option Addr) (k : Nat) (c : α → List Value) (xs : List α) : Prop :=
  ∀ i a, xs[i]? = some a → ∃ b o, A = some ⟨b, o, none⟩ ∧ b < w.heap.size ∧ ∀ j v, (c a)[j]? = some v → w.cell? ⟨b, o + (i * k + j), none⟩ = some v

theorem spot_of {w : World} {a : Addr} {v : Value} (h : w.cell? a = some v) : a.spot = none := by
  unfold World.cell? at h
  split at h
  · split at h
    · cases h
    · rename_i k; simpa using k
  · cases h

theorem open_rows {H : Type} {enc : TypeId × Value → H} {P : Program} {W : World} {t e : TypeId} {α : Type} {k : Nat} {c : α → List Value} {wf : α → Prop} [Inhabited α]
    (ht : P.underlying t = some (.slice e)) (hC : P.cellsOf e = k) (h0 : 0 < k) (hk : ∀ a, (c a).length = k)
    (hp : ∀ n cs x, DataW.trod enc P W 0 (fun _ => true) true n e cs = some x → ∃ a, cs = c a ∧ wf a)
    {fuel : Nat} {A : Option Addr} {len cap : Nat} {x : DataW H × List MemPlace} (h : DataW.trod enc P W 0 (fun _ => true) true fuel t [.slice A len cap] = some x) :
    len ≤ maxLen ∧ ∃ xs : List α, xs.length = len ∧ Holds W A k c xs ∧ ∀ a ∈ xs, wf a := by
  rcases open_slice ht h with ⟨e1, _⟩ | ⟨a, len', cap', m, n, D, Pl, e1, _, hl, hm, hmm, _, hi⟩
  · simp at e1
    obtain ⟨rfl, rfl, rfl⟩ := e1
    exact ⟨Nat.zero_le _, [], rfl, fun i a h => by simp at h, fun a h => by cases h⟩
  · simp at e1
    obtain ⟨rfl, rfl, rfl⟩ := e1
    simp only [if_true] at hmm
    subst hmm
    have hx : ∀ i, i < len → ∃ y : α, W.cells? 0 (a.add (i * k)) k = some (c y) ∧ wf y := by
      intro i hlt
      obtain ⟨cs, hc, htr⟩ := hi i (by omega)
      obtain ⟨y, rfl, hw⟩ := hp _ _ _ htr
      rw [hC] at hc
      exact ⟨y, hc, hw⟩
    obtain ⟨f, hf⟩ := choose_lt hx
    refine ⟨by omega, (List.range len).map f, by simp, ?_, ?_⟩
    · intro i y hy
      have hlt : i < len := by have := lt_of_get hy; simpa using this
      simp [hlt] at hy
      subst hy
      have sp : a.spot = none := by
        obtain ⟨hc, _⟩ := hf 0 (by omega)
        obtain ⟨_, hcl, hat⟩ := World.cells?_some hc
        have h1 := hat 0 h0
        obtain ⟨v0, hv0⟩ : ∃ v, (c (f 0))[0]? = some v := ⟨_, List.getElem?_eq_getElem (by rw [hk]; exact h0)⟩
        rw [hv0] at h1
        have := spot_of h1
        simpa [Addr.add] using this
      obtain ⟨hc, _⟩ := hf i hlt
      obtain ⟨_, hcl, hat⟩ := World.cells?_some hc
      obtain ⟨b, o, spot⟩ := a
      simp only at sp
      subst sp
      have add_ : ∀ b o n, (Addr.mk b o none).add n = ⟨b, o + n, none⟩ := fun b o n => by
        unfold Addr.add
        split
        · rename_i z; rw [z]; rfl
        · rfl
      have cell : ∀ j v, (c (f i))[j]? = some v → W.cell? ⟨b, o + (i * k + j), none⟩ = some v := fun j v hv => by
        have : j < k := by have := lt_of_get hv; rw [hk] at this; exact this
        have h1 := hat j this
        rw [add_, add_, hv] at h1
        rw [← Nat.add_assoc]; exact h1
      obtain ⟨v0, hv0⟩ : ∃ v, (c (f i))[0]? = some v := ⟨_, List.getElem?_eq_getElem (by rw [hk]; exact h0)⟩
      exact ⟨b, o, rfl, World.block_lt_of_cell? W _ (cell 0 v0 hv0), cell⟩
    · intro y hy
      obtain ⟨i, hi', rfl⟩ := List.mem_map.1 hy
      exact (hf i (List.mem_range.1 hi')).2

/-- a struct of fields of one cell each: its cells, each with its own reading -/
theorem open_fields {H : Type} {enc : TypeId × Value → H} {P : Program} {W : World} {e : TypeId} {fs : Array Field} (he : P.underlying e = some (.struct fs)) (hone : oneCellFields P fs = true) (hC : P.cellsOf e = fs.size)
    {n : Nat} {cs : List Value} {x : DataW H × List MemPlace} (h : DataW.trod enc P W 0 (fun _ => true) true n e cs = some x) :
    cs.length = fs.size ∧ ∃ m, ∀ (j : Nat) (f : Field), fs[j]? = some f → ∃ v y, cs[j]? = some v ∧ DataW.trod enc P W 0 (fun _ => true) true m f.type [v] = some y := by
  obtain ⟨ys, m, _, _, hlen, hyl, hf⟩ := DataW.trod_struct he h
  refine ⟨by omega, m, fun j f hj => ?_⟩
  obtain ⟨ho, hk⟩ := hone_of hone j f hj
  have hjl : j < fs.size := (Array.getElem?_eq_some_iff.1 hj).1
  have h1 := hf j f hj
  rw [ho, hk] at h1
  rw [show (cs.drop j).take 1 = [cs[j]'(by omega)] by rw [List.drop_eq_getElem_cons (by omega)]; rfl, List.getElem?_eq_getElem (show j < ys.length by omega)] at h1
  exact ⟨_, _, List.getElem?_eq_getElem (by omega), h1⟩

theorem Holds.below {α : Type} {w w' : World} {A : Option Addr} {k : Nat} {c : α → List Value} {xs : List α} (h : Holds w A k c xs) (hb : Below w.heap.size w w') : Holds w' A k c xs := fun i a hi => by
  obtain ⟨b, o, rfl, hlt, hc⟩ := h i a hi
  exact ⟨b, o, rfl, Nat.lt_of_lt_of_le hlt hb.size, fun j v hv => (hb.cell (p := ⟨b, o + (i * k + j), none⟩) hlt).trans (hc j v hv)⟩
theorem Holds.at_ {α : Type} {w w' : World} {A : Option Addr} {k : Nat} {c : α → List Value} {xs : List α} (h : Holds w A k c xs) (hb : Below w.heap.size w w') {i : Nat} {a : α} (hi : xs[i]? = some a) :
    ∃ b o, A = some ⟨b, o, none⟩ ∧ b < w.heap.size ∧ ∀ j v, (c a)[j]? = some v → w'.cell? ⟨b, o + (i * k + j), none⟩ = some v := by
  obtain ⟨b, o, rfl, hlt, hc⟩ := h i a hi
  exact ⟨b, o, rfl, hlt, fun j v hv => (hb.cell (p := ⟨b, o + (i * k + j), none⟩) hlt).trans (hc j v hv)⟩
end Go.Proofs.YtlfnncahhbbmpaaGreatDoor

namespace Go.Proofs.YtlfnncahhbbmpaaGreatDoor
open Go.RowKit
set_option linter.unusedVariables false
set_option maxRecDepth 100000

/-- v is a slice of the call's own: it has the elements xs, of k cells each; its row lies at block base or behind -/
def Owns {α : Type} (w : World) (base : Nat) (e : TypeId) (k : Nat) (c : α → List Value) (v : Value) (xs : List α) : Prop := w.ownsRow base e k v xs.length (xs.flatMap c)

theorem Owns.start {α : Type} (w : World) (base : Nat) (e : TypeId) (k : Nat) (c : α → List Value) : Owns w base e k c (.slice none 0 0) [] := World.ownsRow_nil _ _ _ _
theorem Owns.base_le {α : Type} {w : World} {base : Nat} {e : TypeId} {k : Nat} {c : α → List Value} {v : Value} {xs : List α} (h : Owns w base e k c v xs) {g : Nat} (hg : v.ownBlock = some g) : base ≤ g ∧ g < w.heap.size := World.ownsRow.lt h g hg
theorem Owns.keep {α : Type} {w w' : World} {base : Nat} {e : TypeId} {k : Nat} {c : α → List Value} {v : Value} {xs : List α} (h : Owns w base e k c v xs) {S : Nat → Prop} (o : Only S w w') (hn : ∀ g, v.ownBlock = some g → ¬ S g) : Owns w' base e k c v xs := by
  refine ⟨h.1, ?_⟩
  rcases h.2 with h2 | ⟨g, cap, cur, hv, hg, hh, r⟩
  · exact .inl h2
  · refine .inr ⟨g, cap, cur, hv, hg, ?_, r⟩
    rw [o.block g (Array.getElem?_eq_some_iff.1 hh).1 (hn g (by rw [hv]; rfl))]
    exact hh
theorem Owns.still {α : Type} {w w' : World} {base : Nat} {e : TypeId} {k : Nat} {c : α → List Value} {v : Value} {xs : List α} (h : Owns w base e k c v xs) (o : Only none_ w w') : Owns w' base e k c v xs := h.keep o (fun _ _ s => s)
/-- its form -/
theorem Owns.form {α : Type} {w : World} {base : Nat} {e : TypeId} {k : Nat} {c : α → List Value} {v : Value} {xs : List α} (h : Owns w base e k c v xs) (hx : xs ≠ []) :
    ∃ g cap, v = .slice (some ⟨g, 0, none⟩) xs.length cap ∧ base ≤ g ∧ g < w.heap.size ∧ xs.length ≤ cap ∧ cap ≤ maxLen := by
  rcases h.2 with ⟨hv, h2⟩ | ⟨g, cap, cur, hv, hg, hh, h3, h4, _⟩
  · exact absurd (List.eq_nil_of_length_eq_zero h2) hx
  · exact ⟨g, cap, hv, hg, (Array.getElem?_eq_some_iff.1 hh).1, h3, h4⟩
theorem Owns.cell {α : Type} {w : World} {base : Nat} {e : TypeId} {k : Nat} {c : α → List Value} {xs : List α} {g cap : Nat} (h : Owns w base e k c (.slice (some ⟨g, 0, none⟩) xs.length cap) xs) (hk : ∀ a, (c a).length = k) {i : Nat} {a : α} (hi : xs[i]? = some a) {j : Nat} (hj : j < k) :
    w.cell? ⟨g, i * k + j, none⟩ = (c a)[j]? := by
  have hl := lt_of_get hi
  have hb : i * k + j < xs.length * k := by
    have : (i + 1) * k ≤ xs.length * k := Nat.mul_le_mul_right k hl
    rw [Nat.succ_mul] at this
    omega
  rw [World.ownsRow.cellAt h (i * k + j) hb, ← flat_get hk hi hj]
  unfold flat
  rw [List.getElem?_toArray]
theorem Owns.frozen {α : Type} {w : World} {base : Nat} {e : TypeId} {k : Nat} {c : α → List Value} {xs : List α} {n g cap : Nat} (h : Owns w base e k c (.slice (some ⟨g, 0, none⟩) n cap) xs) (j : Nat) : w.frozen? ⟨g, j, none⟩ = false := by
  rcases h.2 with ⟨h', _⟩ | ⟨g', cap', cur, h', _, hg, _⟩
  · simp at h'
  · simp only [Value.slice.injEq, Option.some.injEq, Addr.mk.injEq, and_true] at h'
    obtain ⟨rfl, _⟩ := h'
    simp [World.frozen?, hg]

/-- what an append turns: the slice's own row, and new blocks -/
theorem Only.of_grown {w w' : World} {row : Option Nat} (h : w.grownBy w' row) : Only (fun k => some k = row) w w' := ⟨h.os, h.tape, h.output, h.size, h.block⟩

/-- append of one element, which lies at the head of a block -/
theorem wpList_append_one {α : Type} {P : Program} {w : World} {ops : Array Oper} {rest : List Oper} {o : Oper} {a : Act} {Q : Exit → Act → World → Prop} (hgd : o.guard = none) (s x : Operand) (t : TypeId)
    (ho : o.op = .call { callee := .builtin .append, args := #[s, x], argTypes := #[t, t] })
    {base : Nat} {e : TypeId} {k : Nat} {c : α → List Value} (i : TypeInfo) (z : Value) (bytes : Nat) (ht : P.underlying t = some (.slice e)) (hi : P.info? e = some i) (hz : i.zero = some z)
    (hsize : i.size = k) (hby : i.bytes = bytes) (hzs : z.cells.size = k) (hk0 : 0 < k) (hk : ∀ y, (c y).length = k) (h1 : ∀ y, ∀ u ∈ c y, u.oneCell' = true)
    {v : Value} {xs : List α} (hs : a.eval s = v) (hown : Owns w base e k c v xs)
    {g cc : Nat} {y : α} (hx : a.eval x = .slice (some ⟨g, 0, none⟩) 1 cc) (hrow : Row w g e (c y).toArray)
    (hlen : xs.length < 9223372036854775807) (hbytes : (xs.length + 1) * bytes ≤ 140737488355328) (hbase : base ≤ w.heap.size)
    (h : ∀ v' w', Owns w' base e k c v' (xs ++ [y]) → Only (fun j => base ≤ j) w w' → wpList P ops Q rest (a.put o.dst v') w') : wpList P ops Q (o :: rest) a w := by
  refine wpList_append_own w hgd s x t ho base e i z k bytes ht hi hz hsize hby hzs hk0 v xs.length (xs.flatMap c) hs hown ⟨g, 0, none⟩ 1 cc (c y) hx (by rw [hk]; omega) ?_ (h1 y) (by unfold maxLen; omega) hbytes hbase ?_
  · intro j u hj
    have : (Addr.mk g 0 none).add j = ⟨g, j, none⟩ := by
      unfold Addr.add
      split
      · rename_i q; rw [q]
      · simp
    rw [this, hrow.cell, List.getElem?_toArray]
    exact hj
  · intro v' w' h2 h3 _
    refine h v' w' ?_ ?_
    · unfold Owns
      rw [List.flatMap_append, List.length_append]
      simpa using h2
    · exact (Only.of_grown h3).more (fun j _ e => (hown.base_le e.symm).1)
end Go.Proofs.YtlfnncahhbbmpaaGreatDoor

namespace Go.Proofs.YtlfnncahhbbmpaaGreatDoor
open Go.RowKit
set_option linter.unusedVariables false
set_option maxRecDepth 100000

/-- a node: its list, whether it is held, who is ahead and who behind -/
structure Nd where
  lst : Int
  held : Bool
  ahead : Nat
  behind : Nat
  deriving Repr, DecidableEq, Inhabited

def nd (ns : List Nd) (i : Nat) : Nd := ns.getD i default
def upA (ns : List Nd) (i x : Nat) : List Nd := ns.set i { nd ns i with ahead := x }
def upB (ns : List Nd) (i x : Nat) : List Nd := ns.set i { nd ns i with behind := x }
def upL (ns : List Nd) (i : Nat) (k : Int) : List Nd := ns.set i { nd ns i with lst := k }
def upH (ns : List Nd) (i : Nat) (h : Bool) : List Nd := ns.set i { nd ns i with held := h }

theorem nd_get {ns : List Nd} {i : Nat} (h : i < ns.length) : ns[i]? = some (nd ns i) := by
  unfold nd
  rw [List.getD_eq_getElem?_getD, List.getElem?_eq_getElem h]
  rfl
theorem nd_set {ns : List Nd} {i : Nat} (h : i < ns.length) (x : Nd) (j : Nat) : nd (ns.set i x) j = if j = i then x else nd ns j := by
  unfold nd
  rw [List.getD_eq_getElem?_getD, List.getD_eq_getElem?_getD, List.getElem?_set]
  by_cases c : j = i
  · subst c
    simp [h]
  · rw [if_neg c, if_neg (fun e => c e.symm)]

/-- take a node away from its neighbours -/
def liftN (ns : List Nd) (i : Nat) : List Nd :=
  let a := (nd ns i).ahead
  let b := (nd ns i).behind
  upB (upA (upA (upB ns a b) b a) i i) i i
/-- put a node behind another one -/
def layN (ns : List Nd) (i e : Nat) : List Nd :=
  let b := (nd ns e).behind
  upA (upB (upB (upA ns i e) i b) e i) b i

/-- f leads from a through xs to b -/
def Path (f : Nat → Nat) : Nat → List Nat → Nat → Prop
  | a, [], b => f a = b
  | a, x :: xs, b => f a = x ∧ Path f x xs b

theorem Path.split {f : Nat → Nat} : ∀ {a : Nat} {p : List Nat} {x : Nat} {q : List Nat} {b : Nat}, Path f a (p ++ x :: q) b ↔ Path f a p x ∧ Path f x q b
  | a, [], x, q, b => Iff.rfl
  | a, y :: p, x, q, b => by
    show (f a = y ∧ Path f y (p ++ x :: q) b) ↔ (f a = y ∧ Path f y p x) ∧ Path f x q b
    rw [Path.split (a := y)]
    exact and_assoc.symm
theorem Path.congr {f g : Nat → Nat} : ∀ {a : Nat} {p : List Nat} {b : Nat}, Path f a p b → (∀ y, y = a ∨ y ∈ p → g y = f y) → Path g a p b
  | a, [], b, h, k => (k a (.inl rfl)).trans h
  | a, x :: p, b, h, k => ⟨(k a (.inl rfl)).trans h.1, Path.congr h.2 (fun y hy => k y (by rcases hy with rfl | hy <;> simp [*]))⟩
/-- the one who leads to the end, and the one who comes first -/
def lastOf (a : Nat) : List Nat → Nat
  | [] => a
  | x :: xs => lastOf x xs
def firstOf (b : Nat) : List Nat → Nat
  | [] => b
  | x :: _ => x
theorem Path.first {f : Nat → Nat} {a : Nat} {p : List Nat} {b : Nat} (h : Path f a p b) : f a = firstOf b p := by
  cases p with
  | nil => exact h
  | cons x p => exact h.1
theorem Path.last {f : Nat → Nat} : ∀ {a : Nat} {p : List Nat} {b : Nat}, Path f a p b → f (lastOf a p) = b
  | a, [], b, h => h
  | a, x :: p, b, h => Path.last (a := x) (p := p) h.2
theorem lastOf_in : ∀ (a : Nat) (p : List Nat), lastOf a p = a ∨ lastOf a p ∈ p
  | a, [] => .inl rfl
  | a, x :: p => by rcases lastOf_in x p with h | h <;> simp [lastOf, h]
theorem firstOf_in (b : Nat) (p : List Nat) : firstOf b p = b ∨ firstOf b p ∈ p := by cases p <;> simp [firstOf]
theorem lastOf_append (a : Nat) : ∀ (p : List Nat) (x : Nat) (q : List Nat), lastOf a (p ++ x :: q) = lastOf x q := by
  intro p
  induction p generalizing a with
  | nil => intro x q; rfl
  | cons y p ih => intro x q; exact ih y x q
theorem lastOf_rev (a : Nat) (p : List Nat) : lastOf a p.reverse = firstOf a p := by
  cases p with
  | nil => rfl
  | cons x p => rw [List.reverse_cons, lastOf_append]; rfl
theorem firstOf_rev (a : Nat) (p : List Nat) : firstOf a p.reverse = lastOf a p := by
  rw [← lastOf_rev, List.reverse_reverse]
/-- the end is led elsewhere -/
theorem Path.turn {f g : Nat → Nat} : ∀ {a : Nat} {p : List Nat} {b c : Nat}, Path f a p b → (a :: p).Nodup → (∀ y, y = a ∨ y ∈ p → y ≠ lastOf a p → g y = f y) → g (lastOf a p) = c → Path g a p c
  | a, [], b, c, h, _, _, e => e
  | a, x :: p, b, c, h, hn, k, e => by
    have hne : a ≠ lastOf x p := by
      intro e2
      have := lastOf_in x p
      rw [← e2] at this
      have h3 := (List.nodup_cons.1 hn).1
      rcases this with h4 | h4
      · exact h3 (by rw [h4]; simp)
      · exact h3 (by simp [h4])
    refine ⟨(k a (.inl rfl) hne).trans h.1, Path.turn h.2 (List.nodup_cons.1 hn).2 (fun y hy hl => k y ?_ hl) e⟩
    rcases hy with rfl | hy
    · simp
    · simp [hy]

/-- a node between two others is left out -/
theorem Path.lift {f g : Nat → Nat} {e x : Nat} {p q : List Nat} (h : Path f e (p ++ x :: q) e) (hn : (e :: (p ++ x :: q)).Nodup)
    (hg : ∀ y, y = e ∨ y ∈ p ++ q → y ≠ lastOf e p → g y = f y) (hl : g (lastOf e p) = f x) : Path g e (p ++ q) e := by
  have hs := Path.split.1 h
  obtain ⟨h1, h2⟩ := hs
  have n1 : (e :: p).Nodup := by
    have : (e :: p).Sublist (e :: (p ++ x :: q)) := (List.sublist_append_left p (x :: q)).cons_cons e
    exact hn.sublist this
  have hx := h2.first
  cases q with
  | nil =>
    rw [List.append_nil]
    refine h1.turn n1 (fun y hy hne => hg y ?_ hne) ?_
    · rcases hy with rfl | hy <;> simp [*]
    · rw [hl, hx]; rfl
  | cons z q =>
    rw [Path.split]
    refine ⟨h1.turn n1 (fun y hy hne => hg y ?_ hne) ?_, h2.2.congr (fun y hy => hg y ?_ ?_)⟩
    · rcases hy with rfl | hy <;> simp [*]
    · rw [hl, hx]; rfl
    · rcases hy with rfl | hy <;> simp [*]
    · intro e2
      subst e2
      have h3 := lastOf_in e p
      rw [List.nodup_cons] at hn
      have hd := (List.nodup_append.1 hn.2).2.2
      rcases h3 with h3 | h3
      · rw [h3] at hy
        apply hn.1
        rcases hy with hy | hy
        · rw [hy]; simp
        · simp [hy]
      · refine hd _ h3 (lastOf e p) ?_ rfl
        rcases hy with hy | hy
        · rw [hy]; simp
        · simp [hy]
/-- who leads on from there is another one: a node is put ahead of all, from the end -/
theorem Path.front {f g : Nat → Nat} {e x : Nat} {l : List Nat} (h : Path f e l e) (hx : x ≠ e) (hl : x ∉ l) (h1 : g e = x) (h2 : g x = f e) (hg : ∀ y, y ∈ l → g y = f y) (hne : e ∉ l) : Path g e (x :: l) e := by
  refine ⟨h1, ?_⟩
  cases l with
  | nil => exact h2.trans h
  | cons y l => exact ⟨h2.trans h.1, h.2.congr (fun z hz => hg z (by rcases hz with rfl | hz <;> simp [*]))⟩
/-- .. or behind all -/
theorem Path.back {f g : Nat → Nat} {e x : Nat} {l : List Nat} (h : Path f e l e) (hn : (e :: l).Nodup) (hx : x ≠ e) (hl : x ∉ l) (h1 : g (lastOf e l) = x) (h2 : g x = e) (hg : ∀ y, y = e ∨ y ∈ l → y ≠ lastOf e l → g y = f y) : Path g e (l ++ [x]) e :=
  Path.split.2 ⟨h.turn hn hg h1, h2⟩
end Go.Proofs.YtlfnncahhbbmpaaGreatDoor

namespace Go.Proofs.YtlfnncahhbbmpaaGreatDoor
open Go.RowKit
set_option linter.unusedVariables false
set_option maxRecDepth 100000

def aF (ns : List Nd) : Nat → Nat := fun j => (nd ns j).ahead
def bF (ns : List Nd) : Nat → Nat := fun j => (nd ns j).behind

theorem nd_upA {ns : List Nd} {i x : Nat} (h : i < ns.length) (j : Nat) : nd (upA ns i x) j = if j = i then { nd ns i with ahead := x } else nd ns j := nd_set h _ j
theorem nd_upB {ns : List Nd} {i x : Nat} (h : i < ns.length) (j : Nat) : nd (upB ns i x) j = if j = i then { nd ns i with behind := x } else nd ns j := nd_set h _ j
theorem nd_upL {ns : List Nd} {i : Nat} {k : Int} (h : i < ns.length) (j : Nat) : nd (upL ns i k) j = if j = i then { nd ns i with lst := k } else nd ns j := nd_set h _ j
theorem nd_upH {ns : List Nd} {i : Nat} {b : Bool} (h : i < ns.length) (j : Nat) : nd (upH ns i b) j = if j = i then { nd ns i with held := b } else nd ns j := nd_set h _ j
theorem len_upA (ns : List Nd) (i x : Nat) : (upA ns i x).length = ns.length := by simp [upA]
theorem len_upB (ns : List Nd) (i x : Nat) : (upB ns i x).length = ns.length := by simp [upB]
theorem len_upL (ns : List Nd) (i : Nat) (k : Int) : (upL ns i k).length = ns.length := by simp [upL]
theorem len_upH (ns : List Nd) (i : Nat) (b : Bool) : (upH ns i b).length = ns.length := by simp [upH]
theorem len_lift (ns : List Nd) (i : Nat) : (liftN ns i).length = ns.length := by simp [liftN, len_upA, len_upB]
theorem len_lay (ns : List Nd) (i e : Nat) : (layN ns i e).length = ns.length := by simp [layN, len_upA, len_upB]

section
variable {ns : List Nd} {i x : Nat}
theorem upA_a (h : i < ns.length) (j : Nat) : (nd (upA ns i x) j).ahead = if j = i then x else (nd ns j).ahead := by
  rw [nd_upA h]; split <;> rfl
theorem upA_b (h : i < ns.length) (j : Nat) : (nd (upA ns i x) j).behind = (nd ns j).behind := by
  rw [nd_upA h]
  split
  · rename_i e; rw [e]
  · rfl
theorem upA_t (h : i < ns.length) (j : Nat) : (nd (upA ns i x) j).lst = (nd ns j).lst ∧ (nd (upA ns i x) j).held = (nd ns j).held := by
  rw [nd_upA h]
  split
  · rename_i e; rw [e]; exact ⟨rfl, rfl⟩
  · exact ⟨rfl, rfl⟩
theorem upB_b (h : i < ns.length) (j : Nat) : (nd (upB ns i x) j).behind = if j = i then x else (nd ns j).behind := by
  rw [nd_upB h]; split <;> rfl
theorem upB_a (h : i < ns.length) (j : Nat) : (nd (upB ns i x) j).ahead = (nd ns j).ahead := by
  rw [nd_upB h]
  split
  · rename_i e; rw [e]
  · rfl
theorem upB_t (h : i < ns.length) (j : Nat) : (nd (upB ns i x) j).lst = (nd ns j).lst ∧ (nd (upB ns i x) j).held = (nd ns j).held := by
  rw [nd_upB h]
  split
  · rename_i e; rw [e]; exact ⟨rfl, rfl⟩
  · exact ⟨rfl, rfl⟩
theorem lift_a (hi : i < ns.length) (hA : aF ns i < ns.length) (hB : bF ns i < ns.length) (j : Nat) :
    aF (liftN ns i) j = if j = i then i else if j = bF ns i then aF ns i else aF ns j := by
  unfold liftN aF bF at *
  simp only [upA_a, upB_a, len_upA, len_upB, hi, hA, hB]
theorem lift_b (hi : i < ns.length) (hA : aF ns i < ns.length) (hB : bF ns i < ns.length) (j : Nat) :
    bF (liftN ns i) j = if j = i then i else if j = aF ns i then bF ns i else bF ns j := by
  unfold liftN aF bF at *
  simp only [upA_b, upB_b, len_upA, len_upB, hi, hA, hB]
theorem lift_t (hi : i < ns.length) (hA : aF ns i < ns.length) (hB : bF ns i < ns.length) (j : Nat) :
    (nd (liftN ns i) j).lst = (nd ns j).lst ∧ (nd (liftN ns i) j).held = (nd ns j).held := by
  unfold liftN aF bF at *
  constructor <;> simp only [(upA_t _ _).1, (upA_t _ _).2, (upB_t _ _).1, (upB_t _ _).2, len_upA, len_upB, hi, hA, hB]
theorem lay_a {e : Nat} (hi : i < ns.length) (he : e < ns.length) (hB : bF ns e < ns.length) (j : Nat) :
    aF (layN ns i e) j = if j = bF ns e then i else if j = i then e else aF ns j := by
  unfold layN aF bF at *
  simp only [upA_a, upB_a, len_upA, len_upB, hi, he, hB]
theorem lay_b {e : Nat} (hi : i < ns.length) (he : e < ns.length) (hB : bF ns e < ns.length) (j : Nat) :
    bF (layN ns i e) j = if j = e then i else if j = i then bF ns e else bF ns j := by
  unfold layN bF at *
  simp only [upA_b, upB_b, len_upA, len_upB, hi, he, hB]
theorem lay_t {e : Nat} (hi : i < ns.length) (he : e < ns.length) (hB : bF ns e < ns.length) (j : Nat) :
    (nd (layN ns i e) j).lst = (nd ns j).lst ∧ (nd (layN ns i e) j).held = (nd ns j).held := by
  unfold layN bF at *
  constructor <;> simp only [(upA_t _ _).1, (upA_t _ _).2, (upB_t _ _).1, (upB_t _ _).2, len_upA, len_upB, hi, he, hB]
end

theorem nodup_rev {e : Nat} {l : List Nat} (h : (e :: l).Nodup) : (e :: l.reverse).Nodup := by
  rw [List.nodup_cons] at h ⊢
  exact ⟨fun k => h.1 (List.mem_reverse.1 k), List.nodup_iff_pairwise_ne.2 (by rw [List.pairwise_reverse]; exact (List.nodup_iff_pairwise_ne.1 h.2).imp (fun a => Ne.symm a))⟩
/-- a list, and the node by which it begins and ends, are a ring -/
structure Ring (ns : List Nd) (e : Nat) (l : List Nat) : Prop where
  a : Path (aF ns) e l.reverse e
  b : Path (bF ns) e l e
  nodup : (e :: l).Nodup
  lt : ∀ i, i = e ∨ i ∈ l → i < ns.length

section
variable {ns : List Nd} {i e : Nat} {l p q : List Nat}
theorem Ring.at_ (h : Ring ns e l) {x : Nat} (hx : x = e ∨ x ∈ l) : (aF ns x = e ∨ aF ns x ∈ l) ∧ (bF ns x = e ∨ bF ns x ∈ l) := by
  rcases hx with rfl | hx
  · have h1 := h.a.first
    have h2 := h.b.first
    have m1 := firstOf_in x l.reverse
    have m2 := firstOf_in x l
    rw [h1, h2]
    rw [List.mem_reverse] at m1
    exact ⟨m1, m2⟩
  · obtain ⟨p, q, rfl⟩ := List.append_of_mem hx
    have h1 := h.a
    rw [List.reverse_append, List.reverse_cons, List.append_assoc, List.singleton_append, Path.split] at h1
    have h2 := Path.split.1 h.b
    have m1 := firstOf_in e p.reverse
    have m2 := firstOf_in e q
    rw [h1.2.first, h2.2.first]
    constructor
    · rcases m1 with m | m
      · exact .inl m
      · rw [List.mem_reverse] at m; exact .inr (by simp [m])
    · rcases m2 with m | m
      · exact .inl m
      · exact .inr (by simp [m])
/-- where its neighbours are -/
theorem Ring.mid (h : Ring ns e (p ++ i :: q)) : aF ns i = lastOf e p ∧ bF ns i = firstOf e q := by
  have h1 := h.a
  rw [List.reverse_append, List.reverse_cons, List.append_assoc, List.singleton_append, Path.split] at h1
  have h2 := Path.split.1 h.b
  exact ⟨h1.2.first.trans (firstOf_rev e p), h2.2.first⟩
theorem Ring.lift_own (h : Ring ns e (p ++ i :: q)) : Ring (liftN ns i) e (p ++ q) := by
  have hi : i < ns.length := h.lt i (by simp)
  have nb := h.at_ (x := i) (by simp)
  have hA := h.lt _ nb.1
  have hB := h.lt _ nb.2
  have md := h.mid
  have hn := h.nodup
  have hsub : (e :: (p ++ q)).Sublist (e :: (p ++ i :: q)) := (List.Sublist.append (List.Sublist.refl p) (List.sublist_cons_self i q)).cons_cons e
  have ni : i ∉ e :: (p ++ q) := by
    rw [List.nodup_cons, List.nodup_append, List.nodup_cons] at hn
    simp only [List.mem_cons, List.mem_append, not_or]
    refine ⟨?_, ?_, ?_⟩
    · rintro rfl; exact hn.1 (by simp)
    · intro hp; exact hn.2.2.2 i hp i (by simp) rfl
    · exact hn.2.2.1.1
  simp only [List.mem_cons, List.mem_append, not_or] at ni
  refine ⟨?_, ?_, hn.sublist hsub, fun j hj => ?_⟩
  · have h1 := h.a
    rw [List.reverse_append, List.reverse_cons, List.append_assoc, List.singleton_append] at h1
    rw [List.reverse_append]
    have hn' : (e :: (q.reverse ++ i :: p.reverse)).Nodup := by
      have : (q.reverse ++ i :: p.reverse) = (p ++ i :: q).reverse := by simp
      rw [this]
      exact nodup_rev hn
    refine h1.lift hn' (fun y hy hne => ?_) ?_
    · rw [lastOf_rev] at hne
      rw [lift_a hi hA hB, if_neg, if_neg]
      · rw [md.2]; exact hne
      · rintro rfl
        rcases hy with hy | hy
        · exact ni.1 hy
        · simp only [List.mem_append, List.mem_reverse] at hy
          rcases hy with hy | hy
          · exact ni.2.2 hy
          · exact ni.2.1 hy
    · rw [lastOf_rev, lift_a hi hA hB, if_neg, if_pos md.2.symm]
      intro e2
      have := firstOf_in e q
      rw [e2] at this
      rcases this with t | t
      · exact ni.1 t
      · exact ni.2.2 t
  · refine h.b.lift hn (fun y hy hne => ?_) ?_
    · rw [lift_b hi hA hB, if_neg, if_neg]
      · rw [md.1]; exact hne
      · rintro rfl
        rcases hy with hy | hy
        · exact ni.1 hy
        · simp only [List.mem_append] at hy
          rcases hy with hy | hy
          · exact ni.2.1 hy
          · exact ni.2.2 hy
    · rw [lift_b hi hA hB, if_neg, if_pos md.1.symm]
      intro e2
      have := lastOf_in e p
      rw [e2] at this
      rcases this with t | t
      · exact ni.1 t
      · exact ni.2.1 t
  · rw [len_lift]
    exact h.lt j (by rcases hj with rfl | hj; exact .inl rfl; right; simp only [List.mem_append, List.mem_cons] at hj ⊢; rcases hj with hj | hj <;> simp [hj])
/-- a ring of others -/
theorem Ring.lift_far (h : Ring ns e l) (hi : i < ns.length) (hA : aF ns i < ns.length) (hB : bF ns i < ns.length) (h1 : ∀ y, y = e ∨ y ∈ l → y ≠ i ∧ (aF ns i = y → aF ns i = i) ∧ (bF ns i = y → bF ns i = i)) : Ring (liftN ns i) e l := by
  have h2 : ∀ y, y = e ∨ y ∈ l → y ≠ i ∧ y ≠ aF ns i ∧ y ≠ bF ns i := fun y hy => by
    obtain ⟨a, b, c⟩ := h1 y hy
    exact ⟨a, fun e2 => a (e2.trans (b e2.symm)), fun e2 => a (e2.trans (c e2.symm))⟩
  refine ⟨h.a.congr (fun y hy => ?_), h.b.congr (fun y hy => ?_), h.nodup, fun j hj => by rw [len_lift]; exact h.lt j hj⟩
  · have := h2 y (by simpa using hy)
    rw [lift_a hi hA hB, if_neg this.1, if_neg this.2.2]
  · have := h2 y hy
    rw [lift_b hi hA hB, if_neg this.1, if_neg this.2.1]
theorem lift_self (hi : i < ns.length) (hA : aF ns i < ns.length) (hB : bF ns i < ns.length) : aF (liftN ns i) i = i ∧ bF (liftN ns i) i = i := by
  rw [lift_a hi hA hB, lift_b hi hA hB, if_pos rfl, if_pos rfl]
  exact ⟨rfl, rfl⟩
theorem Ring.lay_own (h : Ring ns e l) (hi : i < ns.length) (ni : i ∉ e :: l) : Ring (layN ns i e) e (i :: l) := by
  have he := h.lt e (.inl rfl)
  have nb := h.at_ (x := e) (.inl rfl)
  have hB := h.lt _ nb.2
  have hb := h.b.first
  have hn := h.nodup
  simp only [List.mem_cons, not_or] at ni
  have nB : ¬ i = bF ns e := by
    intro e2
    rw [← e2] at nb
    rcases nb.2 with t | t
    · exact ni.1 t
    · exact ni.2 t
  have hn1 := List.nodup_cons.1 hn
  refine ⟨?_, ?_, ?_, fun j hj => ?_⟩
  · rw [List.reverse_cons]
    refine h.a.back ?_ ni.1 (by simpa using ni.2) ?_ ?_ ?_
    · exact nodup_rev hn
    · rw [lastOf_rev, lay_a hi he hB, if_pos hb.symm]
    · rw [lay_a hi he hB, if_neg nB, if_pos rfl]
    · intro y hy hne
      rw [lastOf_rev] at hne
      rw [lay_a hi he hB, if_neg (by rw [hb]; exact hne), if_neg]
      rintro rfl
      rcases hy with hy | hy
      · exact ni.1 hy
      · exact ni.2 (by simpa using hy)
  · refine h.b.front ni.1 ni.2 ?_ ?_ (fun y hy => ?_) hn1.1
    · rw [lay_b hi he hB, if_pos rfl]
    · rw [lay_b hi he hB, if_neg ni.1, if_pos rfl]
    · rw [lay_b hi he hB, if_neg (fun e2 : y = e => hn1.1 (e2 ▸ hy)), if_neg (fun e2 : y = i => ni.2 (e2 ▸ hy))]
  · rw [List.nodup_cons, List.nodup_cons]
    refine ⟨?_, ni.2, hn1.2⟩
    rw [List.mem_cons, not_or]
    exact ⟨fun e2 => ni.1 e2.symm, hn1.1⟩
  · rw [len_lay]
    rcases hj with rfl | hj
    · exact he
    · rcases List.mem_cons.1 hj with rfl | hj
      · exact hi
      · exact h.lt j (.inr hj)
theorem Ring.lay_far {e' : Nat} {l' : List Nat} (h : Ring ns e l) (h' : Ring ns e' l') (hi : i < ns.length) (ni : i ∉ e' :: l') (hd : ∀ y, y = e ∨ y ∈ l → ¬ (y = e' ∨ y ∈ l')) : Ring (layN ns i e) e' l' := by
  have he := h.lt e (.inl rfl)
  have nb := h.at_ (x := e) (.inl rfl)
  have hB := h.lt _ nb.2
  simp only [List.mem_cons, not_or] at ni
  have h2 : ∀ y, y = e' ∨ y ∈ l' → y ≠ i ∧ y ≠ e ∧ y ≠ bF ns e := fun y hy => by
    refine ⟨?_, fun e2 => hd e (.inl rfl) (e2 ▸ hy), fun e2 => hd _ nb.2 (e2 ▸ hy)⟩
    rintro rfl
    rcases hy with t | t
    · exact ni.1 t
    · exact ni.2 t
  refine ⟨h'.a.congr (fun y hy => ?_), h'.b.congr (fun y hy => ?_), h'.nodup, fun j hj => by rw [len_lay]; exact h'.lt j hj⟩
  · have := h2 y (by simpa using hy)
    rw [lay_a hi he hB, if_neg this.2.2, if_neg this.1]
  · have := h2 y hy
    rw [lay_b hi he hB, if_neg this.2.1, if_neg this.1]
end
end Go.Proofs.YtlfnncahhbbmpaaGreatDoor

namespace Go.Proofs.YtlfnncahhbbmpaaGreatDoor
open Go.RowKit
set_option linter.unusedVariables false
set_option maxRecDepth 100000

/-- how many nodes, the bottom's size, both lists, from the first on, and which nodes are held -/
structure Sh where
  n : Nat
  bot : Nat
  l0 : List Nat
  l1 : List Nat
  hs : List Bool
  deriving Repr, DecidableEq, Inhabited

def Sh.li (s : Sh) (k : Nat) : List Nat := if k = 0 then s.l0 else s.l1
def Sh.lst (s : Sh) (i : Nat) : Int := if i ∈ s.l0 then 0 else if i ∈ s.l1 then 1 else -1
def Sh.h (s : Sh) (i : Nat) : Bool := s.hs.getD i false
def Sh.lies (s : Sh) (i : Nat) : Bool := decide (i ∈ s.l0) || decide (i ∈ s.l1)
def Sh.out (s : Sh) (i : Nat) : Sh := { s with l0 := s.l0.erase i, l1 := s.l1.erase i }
def Sh.front (s : Sh) (k i : Nat) : Sh := if k = 0 then { s with l0 := i :: s.l0.erase i, l1 := s.l1.erase i } else { s with l0 := s.l0.erase i, l1 := i :: s.l1.erase i }
def Sh.drop (s : Sh) (i : Nat) : Sh := { s with l0 := s.l0.erase i, l1 := s.l1.erase i, hs := s.hs.set i false }
def Sh.hold (s : Sh) (i : Nat) (b : Bool) : Sh := { s with hs := s.hs.set i b }
def newSh (n bot : Nat) : Sh := ⟨n, bot, [], [], List.replicate n false⟩

structure Sh.Fine (s : Sh) : Prop where
  bot1 : 1 ≤ s.bot
  botn : s.bot ≤ s.n
  n64 : s.n ≤ 64
  nd0 : s.l0.Nodup
  nd1 : s.l1.Nodup
  apart : ∀ i, i ∈ s.l0 → i ∉ s.l1
  lt0 : ∀ i ∈ s.l0, i < s.n
  lt1 : ∀ i ∈ s.l1, i < s.n
  hlen : s.hs.length = s.n

theorem fine_new {n bot : Nat} (h1 : 1 ≤ bot) (h2 : bot ≤ n) (h3 : n ≤ 64) : (newSh n bot).Fine :=
  ⟨h1, h2, h3, by simp [newSh], by simp [newSh], by simp [newSh], by simp [newSh], by simp [newSh], by simp [newSh]⟩
theorem Sh.Fine.out {s : Sh} (h : s.Fine) (i : Nat) : (s.out i).Fine :=
  ⟨h.bot1, h.botn, h.n64, h.nd0.erase i, h.nd1.erase i, fun j hj hk => h.apart j (List.mem_of_mem_erase hj) (List.mem_of_mem_erase hk), fun j hj => h.lt0 j (List.mem_of_mem_erase hj), fun j hj => h.lt1 j (List.mem_of_mem_erase hj), h.hlen⟩
theorem Sh.Fine.drop {s : Sh} (h : s.Fine) (i : Nat) : (s.drop i).Fine :=
  ⟨h.bot1, h.botn, h.n64, h.nd0.erase i, h.nd1.erase i, fun j hj hk => h.apart j (List.mem_of_mem_erase hj) (List.mem_of_mem_erase hk), fun j hj => h.lt0 j (List.mem_of_mem_erase hj), fun j hj => h.lt1 j (List.mem_of_mem_erase hj), by
    show (s.hs.set i false).length = s.n
    rw [List.length_set]; exact h.hlen⟩
theorem Sh.Fine.hold {s : Sh} (h : s.Fine) (i : Nat) (b : Bool) : (s.hold i b).Fine :=
  ⟨h.bot1, h.botn, h.n64, h.nd0, h.nd1, h.apart, h.lt0, h.lt1, by
    show (s.hs.set i b).length = s.n
    rw [List.length_set]; exact h.hlen⟩
theorem Sh.Fine.not_erase {s : Sh} (h : s.Fine) (i : Nat) : i ∉ s.l0.erase i ∧ i ∉ s.l1.erase i :=
  ⟨fun k => (h.nd0.mem_erase_iff.1 k).1 rfl, fun k => (h.nd1.mem_erase_iff.1 k).1 rfl⟩
theorem Sh.Fine.front {s : Sh} (h : s.Fine) (k : Nat) {i : Nat} (hi : i < s.n) : (s.front k i).Fine := by
  have ne := h.not_erase i
  have o := h.out i
  unfold Sh.front
  split
  · refine ⟨h.bot1, h.botn, h.n64, List.nodup_cons.2 ⟨ne.1, o.nd0⟩, o.nd1, fun j hj hk => ?_, fun j hj => ?_, o.lt1, h.hlen⟩
    · rcases List.mem_cons.1 hj with rfl | hj
      · exact ne.2 hk
      · exact o.apart j hj hk
    · rcases List.mem_cons.1 hj with rfl | hj
      · exact hi
      · exact o.lt0 j hj
  · refine ⟨h.bot1, h.botn, h.n64, o.nd0, List.nodup_cons.2 ⟨ne.2, o.nd1⟩, fun j hj hk => ?_, o.lt0, fun j hj => ?_, h.hlen⟩
    · rcases List.mem_cons.1 hk with rfl | hk
      · exact ne.1 hj
      · exact o.apart j hj hk
    · rcases List.mem_cons.1 hj with rfl | hj
      · exact hi
      · exact o.lt1 j hj

/-- the two rings, and who lies in none -/
structure Links (n : Nat) (l0 l1 : List Nat) (ns : List Nd) : Prop where
  len : ns.length = n + 2
  r0 : Ring ns n l0
  r1 : Ring ns (n + 1) l1
  lt0 : ∀ i ∈ l0, i < n
  lt1 : ∀ i ∈ l1, i < n
  apart : ∀ i, i ∈ l0 → i ∉ l1
  idle : ∀ i, i < n → i ∉ l0 → i ∉ l1 → aF ns i = i ∧ bF ns i = i

theorem lift_else {ns : List Nd} {i j : Nat} (hi : i < ns.length) (hA : aF ns i < ns.length) (hB : bF ns i < ns.length) (h1 : j ≠ i) (h2 : j ≠ aF ns i) (h3 : j ≠ bF ns i) : aF (liftN ns i) j = aF ns j ∧ bF (liftN ns i) j = bF ns j := by
  rw [lift_a hi hA hB, lift_b hi hA hB, if_neg h1, if_neg h1, if_neg h2, if_neg h3]
  exact ⟨rfl, rfl⟩
theorem erase_mid {p q : List Nat} {i : Nat} (h : i ∉ p) : (p ++ i :: q).erase i = p ++ q := by
  rw [List.erase_append_right _ h, List.erase_cons_head]
theorem erase_not {l : List Nat} {i : Nat} (h : i ∉ l) : l.erase i = l := List.erase_of_not_mem h
theorem mid_in {p q : List Nat} {i j : Nat} (h : j ∈ p ++ q) : j ∈ p ++ i :: q := by
  rcases List.mem_append.1 h with h | h
  · exact List.mem_append.2 (.inl h)
  · exact List.mem_append.2 (.inr (List.mem_cons_of_mem _ h))
theorem mid_out {p q : List Nat} {i j : Nat} (hne : j ≠ i) (h : j ∉ p ++ q) : j ∉ p ++ i :: q := fun k => by
  rcases List.mem_append.1 k with k | k
  · exact h (List.mem_append.2 (.inl k))
  · rcases List.mem_cons.1 k with k | k
    · exact hne k
    · exact h (List.mem_append.2 (.inr k))
theorem Links.out {n : Nat} {l0 l1 : List Nat} {ns : List Nd} (h : Links n l0 l1 ns) {i : Nat} (hi : i < n) :
    Links n (l0.erase i) (l1.erase i) (liftN ns i) ∧ aF ns i < ns.length ∧ bF ns i < ns.length := by
  have hil : i < ns.length := by rw [h.len]; omega
  by_cases c0 : i ∈ l0
  · have nb := h.r0.at_ (.inr c0)
    have hA := h.r0.lt _ nb.1
    have hB := h.r0.lt _ nb.2
    have c1 := h.apart i c0
    rw [erase_not c1]
    have nA : ∀ y, y = n ∨ y ∈ l0 → y ≠ n + 1 ∧ y ∉ l1 := fun y hy => by
      rcases hy with rfl | hy
      · exact ⟨by omega, fun k => by have := h.lt1 _ k; omega⟩
      · exact ⟨by have := h.lt0 _ hy; omega, h.apart _ hy⟩
    obtain ⟨p, q, rfl⟩ := List.append_of_mem c0
    have ip : i ∉ p := fun k => (List.nodup_append.1 (List.nodup_cons.1 h.r0.nodup).2).2.2 i k i (by simp) rfl
    rw [erase_mid ip]
    refine ⟨⟨by rw [len_lift]; exact h.len, h.r0.lift_own, h.r1.lift_far hil hA hB (fun y hy => ?_), fun j hj => h.lt0 j (mid_in hj), h.lt1, fun j hj => h.apart j (mid_in hj), fun j hj h0 h1 => ?_⟩, hA, hB⟩
    · have n1 := nA _ nb.1
      have n2 := nA _ nb.2
      refine ⟨?_, fun e => ?_, fun e => ?_⟩
      · rintro rfl
        rcases hy with hy | hy
        · omega
        · exact c1 hy
      · rw [e] at n1; rcases hy with hy | hy
        · exact absurd hy n1.1
        · exact absurd hy n1.2
      · rw [e] at n2; rcases hy with hy | hy
        · exact absurd hy n2.1
        · exact absurd hy n2.2
    · by_cases cj : j = i
      · subst cj; exact lift_self hil hA hB
      · have nj : j ∉ p ++ i :: q := mid_out cj h0
        have := h.idle j hj nj h1
        have far : ∀ y, y = n ∨ y ∈ p ++ i :: q → j ≠ y := fun y hy => by
          rintro rfl
          rcases hy with hy | hy
          · omega
          · exact nj hy
        have e := lift_else hil hA hB cj (far _ nb.1) (far _ nb.2)
        rw [e.1, e.2]
        exact this
  · by_cases c1 : i ∈ l1
    · have nb := h.r1.at_ (.inr c1)
      have hA := h.r1.lt _ nb.1
      have hB := h.r1.lt _ nb.2
      rw [erase_not c0]
      have nA : ∀ y, y = n + 1 ∨ y ∈ l1 → y ≠ n ∧ y ∉ l0 := fun y hy => by
        rcases hy with rfl | hy
        · exact ⟨by omega, fun k => by have := h.lt0 _ k; omega⟩
        · exact ⟨by have := h.lt1 _ hy; omega, fun k => h.apart _ k hy⟩
      obtain ⟨p, q, rfl⟩ := List.append_of_mem c1
      have ip : i ∉ p := fun k => (List.nodup_append.1 (List.nodup_cons.1 h.r1.nodup).2).2.2 i k i (by simp) rfl
      rw [erase_mid ip]
      refine ⟨⟨by rw [len_lift]; exact h.len, h.r0.lift_far hil hA hB (fun y hy => ?_), h.r1.lift_own, h.lt0, fun j hj => h.lt1 j (mid_in hj), fun j hj k => h.apart j hj (mid_in k), fun j hj h0 h1 => ?_⟩, hA, hB⟩
      · have n1 := nA _ nb.1
        have n2 := nA _ nb.2
        refine ⟨?_, fun e => ?_, fun e => ?_⟩
        · rintro rfl
          rcases hy with hy | hy
          · omega
          · exact c0 hy
        · rw [e] at n1; rcases hy with hy | hy
          · exact absurd hy n1.1
          · exact absurd hy n1.2
        · rw [e] at n2; rcases hy with hy | hy
          · exact absurd hy n2.1
          · exact absurd hy n2.2
      · by_cases cj : j = i
        · subst cj; exact lift_self hil hA hB
        · have nj : j ∉ p ++ i :: q := mid_out cj h1
          have := h.idle j hj h0 nj
          have far : ∀ y, y = n + 1 ∨ y ∈ p ++ i :: q → j ≠ y := fun y hy => by
            rintro rfl
            rcases hy with hy | hy
            · omega
            · exact nj hy
          have e := lift_else hil hA hB cj (far _ nb.1) (far _ nb.2)
          rw [e.1, e.2]
          exact this
    · have id := h.idle i hi c0 c1
      have hA : aF ns i < ns.length := by rw [id.1]; exact hil
      have hB : bF ns i < ns.length := by rw [id.2]; exact hil
      rw [erase_not c0, erase_not c1]
      refine ⟨⟨by rw [len_lift]; exact h.len, h.r0.lift_far hil hA hB (fun y hy => ⟨?_, fun _ => id.1, fun _ => id.2⟩), h.r1.lift_far hil hA hB (fun y hy => ⟨?_, fun _ => id.1, fun _ => id.2⟩), h.lt0, h.lt1, h.apart, fun j hj h0 h1 => ?_⟩, hA, hB⟩
      · rintro rfl
        rcases hy with hy | hy
        · omega
        · exact c0 hy
      · rintro rfl
        rcases hy with hy | hy
        · omega
        · exact c1 hy
      · by_cases cj : j = i
        · subst cj; exact lift_self hil hA hB
        · have e := lift_else hil hA hB cj (by rw [id.1]; exact cj) (by rw [id.2]; exact cj)
          rw [e.1, e.2]
          exact h.idle j hj h0 h1
theorem lay_else {ns : List Nd} {i e j : Nat} (hi : i < ns.length) (he : e < ns.length) (hB : bF ns e < ns.length) (h1 : j ≠ i) (h2 : j ≠ e) (h3 : j ≠ bF ns e) : aF (layN ns i e) j = aF ns j ∧ bF (layN ns i e) j = bF ns j := by
  rw [lay_a hi he hB, lay_b hi he hB, if_neg h1, if_neg h1, if_neg h2, if_neg h3]
  exact ⟨rfl, rfl⟩
theorem Links.lay0 {n : Nat} {l0 l1 : List Nat} {ns : List Nd} (h : Links n l0 l1 ns) {i : Nat} (hi : i < n) (n0 : i ∉ l0) (n1 : i ∉ l1) :
    Links n (i :: l0) l1 (layN ns i n) ∧ bF ns n < ns.length := by
  have hil : i < ns.length := by rw [h.len]; omega
  have nb := h.r0.at_ (.inl rfl)
  have hB := h.r0.lt _ nb.2
  have he := h.r0.lt n (.inl rfl)
  refine ⟨⟨by rw [len_lay]; exact h.len, h.r0.lay_own hil (by simp [n0]; omega), h.r0.lay_far h.r1 hil (by simp [n1]; omega) (fun y hy k => ?_), fun j hj => ?_, h.lt1, fun j hj => ?_, fun j hj h0 h1 => ?_⟩, hB⟩
  · rcases hy with rfl | hy <;> rcases k with k | k
    · omega
    · have := h.lt1 _ k; omega
    · have := h.lt0 _ hy; omega
    · exact h.apart _ hy k
  · rcases List.mem_cons.1 hj with rfl | hj
    · exact hi
    · exact h.lt0 j hj
  · rcases List.mem_cons.1 hj with rfl | hj
    · exact n1
    · exact h.apart j hj
  · simp only [List.mem_cons, not_or] at h0
    have far : ∀ y, y = n ∨ y ∈ l0 → j ≠ y := fun y hy => by
      rintro rfl
      rcases hy with hy | hy
      · omega
      · exact h0.2 hy
    have e := lay_else hil he hB h0.1 (by omega) (far _ nb.2)
    rw [e.1, e.2]
    exact h.idle j hj h0.2 h1
theorem Links.lay1 {n : Nat} {l0 l1 : List Nat} {ns : List Nd} (h : Links n l0 l1 ns) {i : Nat} (hi : i < n) (n0 : i ∉ l0) (n1 : i ∉ l1) :
    Links n l0 (i :: l1) (layN ns i (n + 1)) ∧ bF ns (n + 1) < ns.length := by
  have hil : i < ns.length := by rw [h.len]; omega
  have nb := h.r1.at_ (.inl rfl)
  have hB := h.r1.lt _ nb.2
  have he := h.r1.lt (n + 1) (.inl rfl)
  refine ⟨⟨by rw [len_lay]; exact h.len, h.r1.lay_far h.r0 hil (by simp [n0]; omega) (fun y hy k => ?_), h.r1.lay_own hil (by simp [n1]; omega), h.lt0, fun j hj => ?_, fun j hj => ?_, fun j hj h0 h1 => ?_⟩, hB⟩
  · rcases hy with rfl | hy <;> rcases k with k | k
    · omega
    · have := h.lt0 _ k; omega
    · have := h.lt1 _ hy; omega
    · exact h.apart _ k hy
  · rcases List.mem_cons.1 hj with rfl | hj
    · exact hi
    · exact h.lt1 j hj
  · rw [List.mem_cons, not_or]
    exact ⟨fun e => n0 (e ▸ hj), h.apart j hj⟩
  · simp only [List.mem_cons, not_or] at h1
    have far : ∀ y, y = n + 1 ∨ y ∈ l1 → j ≠ y := fun y hy => by
      rintro rfl
      rcases hy with hy | hy
      · omega
      · exact h1.2 hy
    have e := lay_else hil he hB h1.1 (by omega) (far _ nb.2)
    rw [e.1, e.2]
    exact h.idle j hj h0 h1.2
/-- tags do not touch the rings -/
theorem Links.tag {n : Nat} {l0 l1 : List Nat} {ns ns' : List Nd} (h : Links n l0 l1 ns) (hl : ns'.length = ns.length) (ha : ∀ j, aF ns' j = aF ns j) (hb : ∀ j, bF ns' j = bF ns j) : Links n l0 l1 ns' := by
  have ring : ∀ {e : Nat} {l : List Nat}, Ring ns e l → Ring ns' e l := fun r => ⟨r.a.congr (fun y _ => ha y), r.b.congr (fun y _ => hb y), r.nodup, fun i hi => by rw [hl]; exact r.lt i hi⟩
  exact ⟨hl.trans h.len, ring h.r0, ring h.r1, h.lt0, h.lt1, h.apart, fun i h1 h2 h3 => by rw [ha, hb]; exact h.idle i h1 h2 h3⟩

/-- the nodes in which a shelf lies -/
structure Rep (s : Sh) (ns : List Nd) : Prop where
  links : Links s.n s.l0 s.l1 ns
  lst : ∀ i, i < s.n → (nd ns i).lst = s.lst i
  held : ∀ i, i < s.n → (nd ns i).held = s.h i
  end_ : (nd ns s.n).held = false ∧ (nd ns (s.n + 1)).held = false
end Go.Proofs.YtlfnncahhbbmpaaGreatDoor

namespace Go.Proofs.YtlfnncahhbbmpaaGreatDoor
open Go.RowKit
set_option linter.unusedVariables false
set_option maxRecDepth 100000

theorem aF_upL {ns : List Nd} {i : Nat} {k : Int} (h : i < ns.length) (j : Nat) : aF (upL ns i k) j = aF ns j := by
  unfold aF; rw [nd_upL h]; split
  · rename_i e; rw [e]
  · rfl
theorem bF_upL {ns : List Nd} {i : Nat} {k : Int} (h : i < ns.length) (j : Nat) : bF (upL ns i k) j = bF ns j := by
  unfold bF; rw [nd_upL h]; split
  · rename_i e; rw [e]
  · rfl
theorem aF_upH {ns : List Nd} {i : Nat} {k : Bool} (h : i < ns.length) (j : Nat) : aF (upH ns i k) j = aF ns j := by
  unfold aF; rw [nd_upH h]; split
  · rename_i e; rw [e]
  · rfl
theorem bF_upH {ns : List Nd} {i : Nat} {k : Bool} (h : i < ns.length) (j : Nat) : bF (upH ns i k) j = bF ns j := by
  unfold bF; rw [nd_upH h]; split
  · rename_i e; rw [e]
  · rfl
theorem upL_t {ns : List Nd} {i : Nat} {k : Int} (h : i < ns.length) (j : Nat) : (nd (upL ns i k) j).lst = (if j = i then k else (nd ns j).lst) ∧ (nd (upL ns i k) j).held = (nd ns j).held := by
  rw [nd_upL h]; split
  · rename_i e; rw [e]; exact ⟨rfl, rfl⟩
  · exact ⟨rfl, rfl⟩
theorem upH_t {ns : List Nd} {i : Nat} {k : Bool} (h : i < ns.length) (j : Nat) : (nd (upH ns i k) j).lst = (nd ns j).lst ∧ (nd (upH ns i k) j).held = if j = i then k else (nd ns j).held := by
  rw [nd_upH h]; split
  · rename_i e; rw [e]; exact ⟨rfl, rfl⟩
  · exact ⟨rfl, rfl⟩
theorem set_h {hs : List Bool} {i : Nat} (h : i < hs.length) (b : Bool) (j : Nat) : (hs.set i b).getD j false = if j = i then b else hs.getD j false := by
  rw [List.getD_eq_getElem?_getD, List.getD_eq_getElem?_getD, List.getElem?_set]
  by_cases c : j = i
  · subst c; simp [h]
  · rw [if_neg c, if_neg (fun e => c e.symm)]

variable {s : Sh} {ns : List Nd} {i : Nat}

theorem Rep.lenAt (h : Rep s ns) (hi : i < s.n) : i < ns.length := by rw [h.links.len]; omega
theorem mem_erase' {l : List Nat} (h : l.Nodup) {i j : Nat} (hne : j ≠ i) : j ∈ l.erase i ↔ j ∈ l := by
  rw [h.mem_erase_iff]
  exact ⟨fun k => k.2, fun k => ⟨hne, k⟩⟩

theorem Rep.front0 (f : s.Fine) (h : Rep s ns) (hi : i < s.n) : Rep (s.front 0 i) (upL (layN (liftN ns i) i s.n) i 0) ∧ aF ns i < ns.length ∧ bF ns i < ns.length ∧ bF (liftN ns i) s.n < ns.length := by
  obtain ⟨ho, hA, hB⟩ := h.links.out hi
  have ne := f.not_erase i
  obtain ⟨hl, hC⟩ := ho.lay0 hi ne.1 ne.2
  have il := h.lenAt hi
  have il2 : i < (liftN ns i).length := by rw [len_lift]; exact il
  have il3 : i < (layN (liftN ns i) i s.n).length := by rw [len_lay, len_lift]; exact il
  have el : s.n < (liftN ns i).length := by rw [len_lift, h.links.len]; omega
  refine ⟨⟨hl.tag (len_upL _ _ _) (aF_upL il3) (bF_upL il3), fun j hj => ?_, fun j hj => ?_, ?_⟩, hA, hB, by rw [len_lift] at hC; exact hC⟩
  · rw [(upL_t il3 j).1]
    unfold Sh.lst
    by_cases c : j = i
    · subst c
      simp [Sh.front]
    · rw [if_neg c, (lay_t il2 el hC j).1, (lift_t il hA hB j).1, h.lst j hj]
      unfold Sh.lst Sh.front
      simp only [if_true, List.mem_cons, c, false_or, mem_erase' f.nd0 c, mem_erase' f.nd1 c]
  · rw [(upL_t il3 j).2, (lay_t il2 el hC j).2, (lift_t il hA hB j).2, h.held j hj]
    rfl
  · constructor <;> rw [(upL_t il3 _).2, (lay_t il2 el hC _).2, (lift_t il hA hB _).2]
    · exact h.end_.1
    · exact h.end_.2
theorem Rep.front1 (f : s.Fine) (h : Rep s ns) (hi : i < s.n) : Rep (s.front 1 i) (upL (layN (liftN ns i) i (s.n + 1)) i 1) ∧ aF ns i < ns.length ∧ bF ns i < ns.length ∧ bF (liftN ns i) (s.n + 1) < ns.length := by
  obtain ⟨ho, hA, hB⟩ := h.links.out hi
  have ne := f.not_erase i
  obtain ⟨hl, hC⟩ := ho.lay1 hi ne.1 ne.2
  have il := h.lenAt hi
  have il2 : i < (liftN ns i).length := by rw [len_lift]; exact il
  have il3 : i < (layN (liftN ns i) i (s.n + 1)).length := by rw [len_lay, len_lift]; exact il
  have el : s.n + 1 < (liftN ns i).length := by rw [len_lift, h.links.len]; omega
  refine ⟨⟨hl.tag (len_upL _ _ _) (aF_upL il3) (bF_upL il3), fun j hj => ?_, fun j hj => ?_, ?_⟩, hA, hB, by rw [len_lift] at hC; exact hC⟩
  · rw [(upL_t il3 j).1]
    unfold Sh.lst
    by_cases c : j = i
    · subst c
      simp [Sh.front, ne.1]
    · rw [if_neg c, (lay_t il2 el hC j).1, (lift_t il hA hB j).1, h.lst j hj]
      unfold Sh.lst Sh.front
      simp only [Nat.one_ne_zero, if_false, List.mem_cons, c, false_or, mem_erase' f.nd0 c, mem_erase' f.nd1 c]
  · rw [(upL_t il3 j).2, (lay_t il2 el hC j).2, (lift_t il hA hB j).2, h.held j hj]
    rfl
  · constructor <;> rw [(upL_t il3 _).2, (lay_t il2 el hC _).2, (lift_t il hA hB _).2]
    · exact h.end_.1
    · exact h.end_.2
theorem Rep.drop (f : s.Fine) (h : Rep s ns) (hi : i < s.n) : Rep (s.drop i) (upH (upL (liftN ns i) i (-1)) i false) ∧ aF ns i < ns.length ∧ bF ns i < ns.length := by
  obtain ⟨ho, hA, hB⟩ := h.links.out hi
  have ne := f.not_erase i
  have il := h.lenAt hi
  have il2 : i < (liftN ns i).length := by rw [len_lift]; exact il
  have il3 : i < (upL (liftN ns i) i (-1)).length := by rw [len_upL]; exact il2
  refine ⟨⟨ho.tag (by rw [len_upH, len_upL]) (fun j => by rw [aF_upH il3, aF_upL il2]) (fun j => by rw [bF_upH il3, bF_upL il2]), fun j hj => ?_, fun j hj => ?_, ?_⟩, hA, hB⟩
  · rw [(upH_t il3 j).1, (upL_t il2 j).1]
    unfold Sh.lst Sh.drop
    by_cases c : j = i
    · subst c
      simp [ne.1, ne.2]
    · rw [if_neg c, (lift_t il hA hB j).1, h.lst j hj]
      unfold Sh.lst
      simp only [mem_erase' f.nd0 c, mem_erase' f.nd1 c]
  · rw [(upH_t il3 j).2, (upL_t il2 j).2, (lift_t il hA hB j).2]
    unfold Sh.h Sh.drop
    rw [set_h (by rw [f.hlen]; exact hi)]
    split
    · rfl
    · exact h.held j hj
  · have h1 : ¬ s.n = i := by omega
    have h2 : ¬ s.n + 1 = i := by omega
    show (nd (upH (upL (liftN ns i) i (-1)) i false) s.n).held = false ∧ (nd (upH (upL (liftN ns i) i (-1)) i false) (s.n + 1)).held = false
    constructor <;> rw [(upH_t il3 _).2, (upL_t il2 _).2, (lift_t il hA hB _).2]
    · rw [if_neg h1]; exact h.end_.1
    · rw [if_neg h2]; exact h.end_.2
theorem Rep.hold (f : s.Fine) (h : Rep s ns) (hi : i < s.n) (b : Bool) : Rep (s.hold i b) (upH ns i b) := by
  have il := h.lenAt hi
  refine ⟨h.links.tag (len_upH _ _ _) (aF_upH il) (bF_upH il), fun j hj => ?_, fun j hj => ?_, ?_⟩
  · rw [(upH_t il j).1]; exact h.lst j hj
  · rw [(upH_t il j).2]
    unfold Sh.h Sh.hold
    rw [set_h (by rw [f.hlen]; exact hi)]
    split
    · rfl
    · exact h.held j hj
  · have h1 : ¬ s.n = i := by omega
    have h2 : ¬ s.n + 1 = i := by omega
    show (nd (upH ns i b) s.n).held = false ∧ (nd (upH ns i b) (s.n + 1)).held = false
    constructor <;> rw [(upH_t il _).2]
    · rw [if_neg h1]; exact h.end_.1
    · rw [if_neg h2]; exact h.end_.2
/-- the nodes of a new shelf -/
def fresh (m : Nat) : List Nd := (List.range m).map (fun i => ⟨-1, false, i, i⟩)
theorem nd_fresh {m j : Nat} (h : j < m) : nd (fresh m) j = ⟨-1, false, j, j⟩ := by
  unfold nd fresh
  rw [List.getD_eq_getElem?_getD]
  simp [h]
theorem rep_new {n bot : Nat} : Rep (newSh n bot) (fresh (n + 2)) := by
  refine ⟨⟨by simp [fresh, newSh], ⟨?_, ?_, by simp [newSh], ?_⟩, ⟨?_, ?_, by simp [newSh], ?_⟩, by simp [newSh], by simp [newSh], by simp [newSh], fun i hi _ _ => ?_⟩, fun i hi => ?_, fun i hi => ?_, ?_⟩
  · show aF (fresh (n + 2)) n = n
    unfold aF; rw [nd_fresh (by omega)]
  · show bF (fresh (n + 2)) n = n
    unfold bF; rw [nd_fresh (by omega)]
  · rintro i (rfl | h)
    · simp [fresh]
    · cases h
  · show aF (fresh (n + 2)) (n + 1) = n + 1
    unfold aF; rw [nd_fresh (by omega)]
  · show bF (fresh (n + 2)) (n + 1) = n + 1
    unfold bF; rw [nd_fresh (by omega)]
  · rintro i (rfl | h)
    · simp [fresh, newSh]
    · cases h
  · have : i < n := hi
    unfold aF bF; rw [nd_fresh (by omega)]; exact ⟨rfl, rfl⟩
  · have : i < n := hi
    rw [nd_fresh (by omega)]; simp [Sh.lst, newSh]
  · have : i < n := hi
    rw [nd_fresh (by omega)]
    simp [Sh.h, newSh, this]
  · show (nd (fresh (n + 2)) n).held = false ∧ (nd (fresh (n + 2)) (n + 1)).held = false
    rw [nd_fresh (by omega), nd_fresh (by omega)]; exact ⟨rfl, rfl⟩
end Go.Proofs.YtlfnncahhbbmpaaGreatDoor

namespace Go.Proofs.YtlfnncahhbbmpaaGreatDoor
open Go.RowKit
set_option linter.unusedVariables false
set_option maxRecDepth 100000

def Nd.cells (x : Nd) : List Value := [.int .i64 x.lst, .bool x.held, .int .i64 x.ahead, .int .i64 x.behind]
theorem nd4 (x : Nd) : x.cells.length = 4 := rfl

/-- a shelf at block p, its nodes at block b -/
structure Rg (w : World) (p b n bot : Nat) (ns : List Nd) : Prop where
  head : Row w p 128 #[.slice (some ⟨b, 0, none⟩) (n + 2) (n + 2), .int .i64 bot, .int .i64 n, .int .i64 (n + 1 : Nat)]
  row : Row w b 130 (flat Nd.cells ns)
  len : ns.length = n + 2
  n64 : n ≤ 64
  bot64 : bot ≤ 64
  ne : p ≠ b

section
variable {w w' : World} {p b n bot : Nat} {ns : List Nd}
theorem Rg.hd (h : Rg w p b n bot ns) : w.cell? ⟨p, 0, none⟩ = some (.slice (some ⟨b, 0, none⟩) (n + 2) (n + 2)) := by rw [h.head.cell]; rfl
theorem Rg.bt (h : Rg w p b n bot ns) : w.cell? ⟨p, 1, none⟩ = some (.int .i64 bot) := by rw [h.head.cell]; rfl
theorem Rg.e0 (h : Rg w p b n bot ns) : w.cell? ⟨p, 2, none⟩ = some (.int .i64 n) := by rw [h.head.cell]; rfl
theorem Rg.e1 (h : Rg w p b n bot ns) : w.cell? ⟨p, 3, none⟩ = some (.int .i64 (n + 1 : Nat)) := by rw [h.head.cell]; rfl
theorem Rg.at_ (h : Rg w p b n bot ns) {i : Nat} (hi : i < ns.length) :
    w.cell? ⟨b, i * 4, none⟩ = some (.int .i64 (nd ns i).lst) ∧ w.cell? ⟨b, i * 4 + 1, none⟩ = some (.bool (nd ns i).held) ∧ w.cell? ⟨b, i * 4 + 2, none⟩ = some (.int .i64 (aF ns i)) ∧ w.cell? ⟨b, i * 4 + 3, none⟩ = some (.int .i64 (bF ns i)) := by
  have hf := nd_get hi
  refine ⟨?_, ?_, ?_, ?_⟩
  · rw [h.row.cell, show i * 4 = i * 4 + 0 from rfl, flat_get nd4 hf (by decide)]; rfl
  all_goals rw [h.row.cell, flat_get nd4 hf (by decide)]; rfl
theorem Rg.fz (h : Rg w p b n bot ns) (i : Nat) : w.frozen? ⟨b, i, none⟩ = false := h.row.frozen i
theorem Rg.keep (h : Rg w p b n bot ns) {S : Nat → Prop} (k : Only S w w') (hp : ¬ S p) (hb : ¬ S b) : Rg w' p b n bot ns := ⟨k.row h.head hp, k.row h.row hb, h.len, h.n64, h.bot64, h.ne⟩
theorem Rg.still (h : Rg w p b n bot ns) (k : Only none_ w w') : Rg w' p b n bot ns := h.keep k (fun s => s) (fun s => s)
theorem Rg.drew (h : Rg w p b n bot ns) : Rg w.drew p b n bot ns := ⟨h.head, h.row, h.len, h.n64, h.bot64, h.ne⟩
theorem Rg.setA (h : Rg w p b n bot ns) {i : Nat} (hi : i < ns.length) (x : Nat) : Rg (w.setCell ⟨b, i * 4 + 2, none⟩ (.int .i64 x)) p b n bot (upA ns i x) := by
  refine ⟨h.head.far h.ne _, ?_, by rw [len_upA]; exact h.len, h.n64, h.bot64, h.ne⟩
  have h1 := h.row.put (i * 4 + 2) (.int .i64 x)
  rw [flat_put nd4 (a' := { nd ns i with ahead := x }) (nd_get hi) (by decide) rfl] at h1
  exact h1
theorem Rg.setB (h : Rg w p b n bot ns) {i : Nat} (hi : i < ns.length) (x : Nat) : Rg (w.setCell ⟨b, i * 4 + 3, none⟩ (.int .i64 x)) p b n bot (upB ns i x) := by
  refine ⟨h.head.far h.ne _, ?_, by rw [len_upB]; exact h.len, h.n64, h.bot64, h.ne⟩
  have h1 := h.row.put (i * 4 + 3) (.int .i64 x)
  rw [flat_put nd4 (a' := { nd ns i with behind := x }) (nd_get hi) (by decide) rfl] at h1
  exact h1
theorem Rg.setL (h : Rg w p b n bot ns) {i : Nat} (hi : i < ns.length) (x : Int) : Rg (w.setCell ⟨b, i * 4, none⟩ (.int .i64 x)) p b n bot (upL ns i x) := by
  refine ⟨h.head.far h.ne _, ?_, by rw [len_upL]; exact h.len, h.n64, h.bot64, h.ne⟩
  have h1 := h.row.put (i * 4 + 0) (.int .i64 x)
  rw [flat_put nd4 (a' := { nd ns i with lst := x }) (nd_get hi) (by decide) rfl] at h1
  exact h1
theorem Rg.setH (h : Rg w p b n bot ns) {i : Nat} (hi : i < ns.length) (x : Bool) : Rg (w.setCell ⟨b, i * 4 + 1, none⟩ (.bool x)) p b n bot (upH ns i x) := by
  refine ⟨h.head.far h.ne _, ?_, by rw [len_upH]; exact h.len, h.n64, h.bot64, h.ne⟩
  have h1 := h.row.put (i * 4 + 1) (.bool x)
  rw [flat_put nd4 (a' := { nd ns i with held := x }) (nd_get hi) (by decide) rfl] at h1
  exact h1
end

def hasL (k : Int) : Bool := decide (0 ≤ k ∧ k < 2)
def hasN (n : Nat) (i : Int) : Bool := decide (0 ≤ i ∧ i < (n : Int))

theorem hasList_any (x : Value) (k : Int) (w : World) :
    Calls Tryz.prog 133 #[x, .int .i64 k] w fun e w' => e = .returned (.bool (hasL k)) ∧ w = w' := by
  unfold hasL
  go_enter Tryz.func133, Tryz.ntmps133
  by_cases h : 0 ≤ k
  · by_cases h2 : k < 2
    · have e : decide (0 ≤ k ∧ k < 2) = true := by simp [h, h2]
      rw [e]
      clear e
      go_wp2
      go_ret
      exact ⟨rfl, rfl⟩
    · have e : decide (0 ≤ k ∧ k < 2) = false := by simp [h2]
      rw [e]
      clear e
      go_wp2
      go_ret
      exact ⟨rfl, rfl⟩
  · have e : decide (0 ≤ k ∧ k < 2) = false := by simp [h]
    rw [e]
    clear e
    go_wp2
    go_ret
    exact ⟨rfl, rfl⟩
theorem has_any (p b n bot : Nat) (ns : List Nd) (i : Int) (w : World) (h : Rg w p b n bot ns) :
    Calls Tryz.prog 164 #[.pointer (some ⟨p, 0, none⟩), .int .i64 i] w fun e w' => e = .returned (.bool (hasN n i)) ∧ w = w' := by
  have c := h.hd
  have n64 := h.n64
  clear h
  unfold hasN
  go_enter Tryz.func164, Tryz.ntmps164
  have e3 : ((n + 2 : Nat) : Int) - 2 = (n : Int) := by omega
  by_cases h : 0 ≤ i
  · by_cases h2 : i < (n : Int)
    · have e : decide (0 ≤ i ∧ i < (n : Int)) = true := by simp [h, h2]
      rw [e]
      clear e
      go_wp2
      go_ret
      exact ⟨rfl, rfl⟩
    · have e : decide (0 ≤ i ∧ i < (n : Int)) = false := by simp [h2]
      rw [e]
      clear e
      go_wp2
      go_ret
      exact ⟨rfl, rfl⟩
  · have e : decide (0 ≤ i ∧ i < (n : Int)) = false := by simp [h]
    rw [e]
    clear e
    go_wp2
    go_ret
    exact ⟨rfl, rfl⟩
end Go.Proofs.YtlfnncahhbbmpaaGreatDoor

namespace Go.Proofs.YtlfnncahhbbmpaaGreatDoor
open Go.RowKit
set_option linter.unusedVariables false
set_option maxRecDepth 100000

theorem upAB {ns : List Nd} {i j x y : Nat} (hi : i < ns.length) (hj : j < ns.length) : upA (upB ns j y) i x = upB (upA ns i x) j y := by
  unfold upA upB
  rw [nd_set hj, nd_set hi]
  by_cases c : i = j
  · subst c
    simp
  · rw [if_neg c, if_neg (fun e => c e.symm), List.set_comm _ _ (fun e => c e.symm)]

def liesC (n : Nat) (ns : List Nd) (i : Int) : Int := if hasN n i then if (nd ns i.toNat).lst = -1 then 3 else 0 else 1

theorem lies_any (p b n bot : Nat) (ns : List Nd) (i : Int) (w : World) (h : Rg w p b n bot ns) :
    Calls Tryz.prog 147 #[.pointer (some ⟨p, 0, none⟩), .int .i64 i] w fun e w' => e = .returned (.int .i64 (liesC n ns i)) ∧ w = w' := by
  have H := Lib.hid (has_any p b n bot ns i w h)
  have c := h.hd
  have n64 := h.n64
  have len := h.len
  cases e : hasN n i with
  | false =>
    rw [e] at H
    have e2 : liesC n ns i = 1 := by unfold liesC; rw [e]; rfl
    rw [e2]
    clear h e e2
    go_enter Tryz.func147, Tryz.ntmps147
    go_wp2_with fail
    (with_reducible refine (H.out).mono ?_)
    rintro e w' ⟨rfl, rfl⟩
    go_wp2
    go_ret
    exact ⟨rfl, rfl⟩
  | true =>
    rw [e] at H
    have hj := of_decide_eq_true e
    obtain ⟨j, rfl⟩ : ∃ j : Nat, i = j := ⟨i.toNat, by omega⟩
    have hj : j < n := by omega
    obtain ⟨c0, _, _, _⟩ := h.at_ (i := j) (by omega)
    by_cases k : (nd ns j).lst = -1
    · have e2 : liesC n ns j = 3 := by unfold liesC; rw [e, if_pos rfl, Int.toNat_natCast, if_pos k]
      rw [e2]
      rw [k] at c0
      clear h e e2 k
      go_enter Tryz.func147, Tryz.ntmps147
      go_wp2_with fail
      (with_reducible refine (H.out).mono ?_)
      rintro e w' ⟨rfl, rfl⟩
      go_wp2
      go_ret
      exact ⟨rfl, rfl⟩
    · have e2 : liesC n ns j = 0 := by unfold liesC; rw [e, if_pos rfl, Int.toNat_natCast, if_neg k]
      rw [e2]
      generalize (nd ns j).lst = t at *
      clear h e e2
      go_enter Tryz.func147, Tryz.ntmps147
      go_wp2_with fail
      (with_reducible refine (H.out).mono ?_)
      rintro e w' ⟨rfl, rfl⟩
      go_wp2
      go_ret
      exact ⟨rfl, rfl⟩

theorem Rg.two {w : World} {p b n bot : Nat} {ns : List Nd} (h : Rg w p b n bot ns) {A B : Nat} (hA : A < ns.length) (hB : B < ns.length) (m x y : Nat) :
    Rg (((w.drewN m).setCell ⟨b, A * 4 + 3, none⟩ (.int .i64 x)).setCell ⟨b, B * 4 + 2, none⟩ (.int .i64 y)) p b n bot (upA (upB ns A x) B y) ∧
    Only (fun k => k = b) w (((w.drewN m).setCell ⟨b, A * 4 + 3, none⟩ (.int .i64 x)).setCell ⟨b, B * 4 + 2, none⟩ (.int .i64 y)) := by
  have h0 : Rg (w.drewN m) p b n bot ns := ⟨h.head, h.row, h.len, h.n64, h.bot64, h.ne⟩
  exact ⟨(h0.setB hA x).setA (by rw [len_upB]; exact hB) y, (((Only.refl (fun k => k = b) w).drewN m).into rfl _ _).into rfl _ _⟩
theorem Rg.pairAB {w : World} {p b n bot : Nat} {ns : List Nd} (h : Rg w p b n bot ns) {A B : Nat} (hA : A < ns.length) (hB : B < ns.length) (x y : Nat) :
    Rg ((w.setCell ⟨b, A * 4 + 2, none⟩ (.int .i64 x)).setCell ⟨b, B * 4 + 3, none⟩ (.int .i64 y)).drew p b n bot (upB (upA ns A x) B y) ∧
    Only (fun k => k = b) w ((w.setCell ⟨b, A * 4 + 2, none⟩ (.int .i64 x)).setCell ⟨b, B * 4 + 3, none⟩ (.int .i64 y)).drew :=
  ⟨((h.setA hA x).setB (by rw [len_upA]; exact hB) y).drew, (((Only.refl (fun k => k = b) w).into rfl _ _).into rfl _ _).drew⟩
theorem Rg.pairBA {w : World} {p b n bot : Nat} {ns : List Nd} (h : Rg w p b n bot ns) {A B : Nat} (hA : A < ns.length) (hB : B < ns.length) (x y : Nat) :
    Rg ((w.setCell ⟨b, A * 4 + 3, none⟩ (.int .i64 x)).setCell ⟨b, B * 4 + 2, none⟩ (.int .i64 y)).drew p b n bot (upA (upB ns A x) B y) ∧
    Only (fun k => k = b) w ((w.setCell ⟨b, A * 4 + 3, none⟩ (.int .i64 x)).setCell ⟨b, B * 4 + 2, none⟩ (.int .i64 y)).drew :=
  ⟨((h.setB hA x).setA (by rw [len_upB]; exact hB) y).drew, (((Only.refl (fun k => k = b) w).into rfl _ _).into rfl _ _).drew⟩

set_option maxHeartbeats 4000000 in
theorem lift_any (p b n bot : Nat) (ns : List Nd) (i : Nat) (w : World) (h : Rg w p b n bot ns) (hi : i < n) (hA : aF ns i < ns.length) (hB : bF ns i < ns.length) :
    Calls Tryz.prog 154 #[.pointer (some ⟨p, 0, none⟩), .int .i64 i] w fun e w' => e = .returned (.tuple #[]) ∧ Rg w' p b n bot (liftN ns i) ∧ Only (fun k => k = b) w w' := by
  have c := h.hd
  have z := h.fz
  have n64 := h.n64
  have len := h.len
  obtain ⟨_, _, c2, c3⟩ := h.at_ (i := i) (by omega)
  obtain ⟨_, _, _, ca⟩ := h.at_ hA
  obtain ⟨_, _, cb, _⟩ := h.at_ hB
  have lt := h.head.lt
  have lb := h.row.lt
  have ne := h.ne
  have ne' : b ≠ p := fun e => ne e.symm
  have hR := Lib.hid (fun m => h.two hA hB m (bF ns i) (aF ns i))
  clear h
  have eL : liftN ns i = upB (upA (upA (upB ns (aF ns i) (bF ns i)) (bF ns i) (aF ns i)) i i) i i := rfl
  rw [eL]
  clear eL
  generalize aF ns i = A at *
  generalize bF ns i = B at *
  rw [len] at hA hB
  have bi : (i : Int) < (n : Int) + 2 := by omega
  have bA : (A : Int) < (n : Int) + 2 := by omega
  have bB : (B : Int) < (n : Int) + 2 := by omega
  generalize bF ns A = ua at *
  generalize aF ns B = ub at *
  go_enter Tryz.func154, Tryz.ntmps154
  go_wp2_with fail
  go_quiet (fail)
  go_wp2
  go_region
  go_wp2
  clear c c2 c3 ca cb z
  obtain ⟨r1, o1⟩ := hR.out (nq + 1)
  clear hR
  generalize ((w.drewN (nq + 1)).setCell ⟨b, A * 4 + 3, none⟩ (.int .i64 B)).setCell ⟨b, B * 4 + 2, none⟩ (.int .i64 A) = W2 at *
  have hl : (upA (upB ns A B) B A).length = n + 2 := by rw [len_upA, len_upB, len]
  obtain ⟨ns2, hns⟩ : ∃ ns2, upA (upB ns A B) B A = ns2 := ⟨_, rfl⟩
  rw [hns] at r1 hl
  have c := r1.hd
  have z := r1.fz
  obtain ⟨_, _, c2, c3⟩ := r1.at_ (i := i) (by omega)
  have R := Lib.hid (r1.pairAB (A := i) (B := i) (by omega) (by omega) i i)
  replace hns := Lib.hid hns
  have O := Lib.hid o1
  clear r1 o1
  go_region
  go_wp2
  go_end0
  obtain rfl := hns.out
  exact ⟨rfl, R.out.1, O.out.same R.out.2⟩

set_option maxHeartbeats 4000000 in
theorem lay_any (p b n bot : Nat) (ns : List Nd) (i e : Nat) (w : World) (h : Rg w p b n bot ns) (hi : i < n) (he : e < ns.length) (hB : bF ns e < ns.length) :
    Calls Tryz.prog 167 #[.pointer (some ⟨p, 0, none⟩), .int .i64 i, .int .i64 e] w fun e' w' => e' = .returned (.tuple #[]) ∧ Rg w' p b n bot (layN ns i e) ∧ Only (fun k => k = b) w w' := by
  have c := h.hd
  have z := h.fz
  have n64 := h.n64
  have len := h.len
  obtain ⟨_, _, c2, c3⟩ := h.at_ (i := i) (by omega)
  obtain ⟨_, _, _, ce⟩ := h.at_ he
  have lt := h.head.lt
  have lb := h.row.lt
  have ne := h.ne
  have ne' : b ≠ p := fun e => ne e.symm
  have hR := Lib.hid (h.pairAB (A := i) (B := i) (by omega) (by omega) e (bF ns e))
  clear h
  have eL : layN ns i e = upA (upB (upB (upA ns i e) i (bF ns e)) e i) (bF ns e) i := rfl
  rw [eL]
  clear eL
  generalize bF ns e = B at *
  rw [len] at hB he
  have bi : (i : Int) < (n : Int) + 2 := by omega
  have be : (e : Int) < (n : Int) + 2 := by omega
  have bB : (B : Int) < (n : Int) + 2 := by omega
  generalize bF ns i = ua at *
  generalize aF ns i = ub at *
  go_enter Tryz.func167, Tryz.ntmps167
  go_wp2
  go_region
  go_wp2
  clear c c2 c3 ce z
  obtain ⟨r1, o1⟩ := hR.out
  clear hR
  generalize ((w.setCell ⟨b, i * 4 + 2, none⟩ (.int .i64 e)).setCell ⟨b, i * 4 + 3, none⟩ (.int .i64 B)).drew = W2 at *
  have hl : (upB (upA ns i e) i B).length = n + 2 := by rw [len_upB, len_upA, len]
  obtain ⟨ns2, hns⟩ : ∃ ns2, upB (upA ns i e) i B = ns2 := ⟨_, rfl⟩
  rw [hns] at r1 hl
  have c := r1.hd
  have z := r1.fz
  obtain ⟨_, _, _, c3⟩ := r1.at_ (i := e) (by omega)
  obtain ⟨_, _, c2, _⟩ := r1.at_ (i := B) (by omega)
  have R := Lib.hid (r1.pairBA (A := e) (B := B) (by omega) (by omega) i i)
  replace hns := Lib.hid hns
  have O := Lib.hid o1
  clear r1 o1
  go_region
  go_wp2
  go_end0
  obtain rfl := hns.out
  exact ⟨rfl, R.out.1, O.out.same R.out.2⟩
end Go.Proofs.YtlfnncahhbbmpaaGreatDoor

namespace Go.Proofs.YtlfnncahhbbmpaaGreatDoor
open Go.RowKit
set_option linter.unusedVariables false
set_option maxRecDepth 100000

/-- the shelf s lies at block p, its nodes at block b -/
structure Lies (w : World) (p b : Nat) (s : Sh) : Prop where
  fine : s.Fine
  it : ∃ ns, Rg w p b s.n s.bot ns ∧ Rep s ns

theorem Lies.keep {w w' : World} {p b : Nat} {s : Sh} (h : Lies w p b s) {S : Nat → Prop} (k : Only S w w') (hp : ¬ S p) (hb : ¬ S b) : Lies w' p b s := by
  obtain ⟨f, ns, r, q⟩ := h
  exact ⟨f, ns, r.keep k hp hb, q⟩
theorem Lies.still {w w' : World} {p b : Nat} {s : Sh} (h : Lies w p b s) (k : Only none_ w w') : Lies w' p b s := h.keep k (fun s => s) (fun s => s)
theorem Lies.lt {w : World} {p b : Nat} {s : Sh} (h : Lies w p b s) : p < w.heap.size ∧ b < w.heap.size := by
  obtain ⟨f, ns, r, q⟩ := h
  exact ⟨r.head.lt, r.row.lt⟩

def Sh.liesC (s : Sh) (i : Int) : Int := if hasN s.n i then if s.lst i.toNat = -1 then 3 else 0 else 1
def Sh.frontC (s : Sh) (k i : Int) : Int := if hasL k && hasN s.n i then 0 else 1
def Sh.frontS (s : Sh) (k i : Int) : Sh := if hasL k && hasN s.n i then s.front k.toNat i.toNat else s
def Sh.dropS (s : Sh) (i : Int) : Sh := if s.liesC i = 0 then s.drop i.toNat else s
def Sh.holdS (s : Sh) (i : Int) (b : Bool) : Sh := if s.liesC i = 0 then s.hold i.toNat b else s

theorem rep_liesC {s : Sh} {ns : List Nd} (h : Rep s ns) (i : Int) : Go.Proofs.YtlfnncahhbbmpaaGreatDoor.liesC s.n ns i = s.liesC i := by
  unfold Go.Proofs.YtlfnncahhbbmpaaGreatDoor.liesC Sh.liesC
  split
  · rename_i e
    have := of_decide_eq_true e
    rw [h.lst _ (by omega)]
  · rfl
theorem hasL_cases {k : Int} (h : hasL k = true) : k = 0 ∨ k = 1 := by
  have := of_decide_eq_true h
  omega
theorem hasN_nat {n : Nat} {i : Int} (h : hasN n i = true) : ∃ j : Nat, i = j ∧ j < n := by
  have := of_decide_eq_true h
  exact ⟨i.toNat, by omega, by omega⟩
theorem liesC_nat {s : Sh} {i : Int} (h : s.liesC i = 0) : ∃ j : Nat, i = j ∧ j < s.n ∧ s.lst j ≠ -1 := by
  unfold Sh.liesC at h
  split at h
  · rename_i e
    obtain ⟨j, rfl, hj⟩ := hasN_nat e
    refine ⟨j, rfl, hj, fun k => ?_⟩
    rw [Int.toNat_natCast, if_pos k] at h
    exact absurd h (by decide)
  · exact absurd h (by decide)
theorem Sh.Fine.frontS {s : Sh} (h : s.Fine) (k i : Int) : (s.frontS k i).Fine := by
  unfold Sh.frontS
  split
  · rename_i e
    rw [Bool.and_eq_true] at e
    obtain ⟨j, rfl, hj⟩ := hasN_nat e.2
    exact h.front _ hj
  · exact h
theorem Sh.Fine.dropS {s : Sh} (h : s.Fine) (i : Int) : (s.dropS i).Fine := by
  unfold Sh.dropS
  split
  · exact h.drop _
  · exact h
theorem Sh.Fine.holdS {s : Sh} (h : s.Fine) (i : Int) (b : Bool) : (s.holdS i b).Fine := by
  unfold Sh.holdS
  split
  · exact h.hold _ _
  · exact h

set_option maxHeartbeats 4000000 in
theorem front_any (p b : Nat) (s : Sh) (k i : Int) (w : World) (h : Lies w p b s) :
    Calls Tryz.prog 152 #[.pointer (some ⟨p, 0, none⟩), .int .i64 k, .int .i64 i] w fun e w' => e = .returned (.int .i64 (s.frontC k i)) ∧ Lies w' p b (s.frontS k i) ∧ Only (fun k => k = b) w w' := by
  obtain ⟨f, ns, r, q⟩ := h
  have HL := Lib.hid (hasList_any (.pointer (some ⟨p, 0, none⟩)) k w)
  have HN := Lib.hid (has_any p b s.n s.bot ns i w r)
  have F1 := Lib.hid (show Lies w p b s from ⟨f, ns, r, q⟩)
  cases e : hasL k with
  | false =>
    have e1 : s.frontC k i = 1 := by unfold Sh.frontC; rw [e]; rfl
    have e2 : s.frontS k i = s := by unfold Sh.frontS; rw [e]; rfl
    rw [e1, e2]
    rw [e] at HL
    clear r q f HN e1 e2 e
    go_enter Tryz.func152, Tryz.ntmps152
    go_wp2_with fail
    (with_reducible refine (HL.out).mono ?_)
    rintro e w' ⟨rfl, rfl⟩
    go_wp2
    go_ret
    exact ⟨rfl, F1.out, Only.refl _ _⟩
  | true =>
    rw [e] at HL
    cases e' : hasN s.n i with
    | false =>
      have e1 : s.frontC k i = 1 := by unfold Sh.frontC; rw [e, e']; rfl
      have e2 : s.frontS k i = s := by unfold Sh.frontS; rw [e, e']; rfl
      rw [e1, e2]
      rw [e'] at HN
      clear r q f e1 e2 e e'
      go_enter Tryz.func152, Tryz.ntmps152
      go_wp2_with fail
      (with_reducible refine (HL.out).mono ?_)
      rintro e w' ⟨rfl, rfl⟩
      go_wp2_with fail
      (with_reducible refine (HN.out).mono ?_)
      rintro e w' ⟨rfl, rfl⟩
      go_wp2
      go_ret
      exact ⟨rfl, F1.out, Only.refl _ _⟩
    | true =>
      rw [e'] at HN
      have e1 : s.frontC k i = 0 := by unfold Sh.frontC; rw [e, e']; rfl
      have e2 : s.frontS k i = s.front k.toNat i.toNat := by unfold Sh.frontS; rw [e, e']; rfl
      rw [e1, e2]
      obtain ⟨j, rfl, hj⟩ := hasN_nat e'
      rw [Int.toNat_natCast]
      clear e1 e2 e' F1
      have len := r.len
      have n64 := r.n64
      have bj : (j : Int) < (s.n : Int) + 2 := by omega
      rcases hasL_cases e with rfl | rfl
      · obtain ⟨q2, hA, hB, hC⟩ := q.front0 f hj
        have L := Lib.hid (lift_any p b s.n s.bot ns j w r hj hA hB)
        have Y := Lib.hid (fun w' r' => lay_any p b s.n s.bot (liftN ns j) j s.n w' r' hj (by rw [len_lift]; omega) (by rw [len_lift]; exact hC))
        have Q := Lib.hid q2
        have F2 := Lib.hid (f.front 0 hj)
        have ll : (layN (liftN ns j) j s.n).length = s.n + 2 := by rw [len_lay, len_lift, len]
        have R := Lib.hid r
        have lb := r.row.lt
        have lp := r.head.lt
        clear r q q2 f hA hB hC e len
        generalize layN (liftN ns j) j s.n = n2 at *
        generalize liftN ns j = n1 at *
        go_enter Tryz.func152, Tryz.ntmps152
        go_wp2_with fail
        (with_reducible refine (HL.out).mono ?_)
        rintro e w' ⟨rfl, rfl⟩
        go_wp2_with fail
        (with_reducible refine (HN.out).mono ?_)
        rintro e w' ⟨rfl, rfl⟩
        go_wp2_with fail
        (with_reducible refine (L.out).mono ?_)
        rintro e w1 ⟨rfl, r1, o1⟩
        have c := r1.e0
        have O1 := Lib.hid o1
        have Y1 := Lib.hid (Y.out w1 r1)
        clear Y R o1 r1
        go_wp2_with fail
        (with_reducible refine (Y1.out).mono ?_)
        rintro e w2 ⟨rfl, r2, o2⟩
        have c2 := r2.hd
        have z := r2.fz
        obtain ⟨c3, _, _, _⟩ := r2.at_ (i := j) (by omega)
        have O := Lib.hid (O1.out.same o2)
        have R2 := Lib.hid (r2.setL (i := j) (by omega) 0)
        clear Y1 O1 o2 r2 c HL HN L
        go_wp2
        go_ret
        exact ⟨rfl, ⟨F2.out, _, R2.out, Q.out⟩, O.out.into rfl _ _⟩
      · obtain ⟨q2, hA, hB, hC⟩ := q.front1 f hj
        have L := Lib.hid (lift_any p b s.n s.bot ns j w r hj hA hB)
        have Y := Lib.hid (fun w' r' => lay_any p b s.n s.bot (liftN ns j) j (s.n + 1) w' r' hj (by rw [len_lift]; omega) (by rw [len_lift]; exact hC))
        have Q := Lib.hid q2
        have F2 := Lib.hid (f.front 1 hj)
        have ll : (layN (liftN ns j) j (s.n + 1)).length = s.n + 2 := by rw [len_lay, len_lift, len]
        have R := Lib.hid r
        have lb := r.row.lt
        have lp := r.head.lt
        clear r q q2 f hA hB hC e len
        generalize layN (liftN ns j) j (s.n + 1) = n2 at *
        generalize liftN ns j = n1 at *
        go_enter Tryz.func152, Tryz.ntmps152
        go_wp2_with fail
        (with_reducible refine (HL.out).mono ?_)
        rintro e w' ⟨rfl, rfl⟩
        go_wp2_with fail
        (with_reducible refine (HN.out).mono ?_)
        rintro e w' ⟨rfl, rfl⟩
        go_wp2_with fail
        (with_reducible refine (L.out).mono ?_)
        rintro e w1 ⟨rfl, r1, o1⟩
        have c := r1.e1
        have O1 := Lib.hid o1
        have Y1 := Y.out w1 r1
        rw [show ((s.n + 1 : Nat) : Int) = (s.n : Int) + 1 from rfl] at Y1
        replace Y1 := Lib.hid Y1
        clear Y R o1 r1
        go_wp2_with fail
        (with_reducible refine (Y1.out).mono ?_)
        rintro e w2 ⟨rfl, r2, o2⟩
        have c2 := r2.hd
        have z := r2.fz
        obtain ⟨c3, _, _, _⟩ := r2.at_ (i := j) (by omega)
        have O := Lib.hid (O1.out.same o2)
        have R2 := Lib.hid (r2.setL (i := j) (by omega) 1)
        clear Y1 O1 o2 r2 c HL HN L
        go_wp2
        go_ret
        exact ⟨rfl, ⟨F2.out, _, R2.out, Q.out⟩, O.out.into rfl _ _⟩

theorem Rg.pairLH {w : World} {p b n bot : Nat} {ns : List Nd} (h : Rg w p b n bot ns) {A : Nat} (hA : A < ns.length) (x : Int) (y : Bool) :
    Rg ((w.setCell ⟨b, A * 4, none⟩ (.int .i64 x)).setCell ⟨b, A * 4 + 1, none⟩ (.bool y)).drew p b n bot (upH (upL ns A x) A y) ∧
    Only (fun k => k = b) w ((w.setCell ⟨b, A * 4, none⟩ (.int .i64 x)).setCell ⟨b, A * 4 + 1, none⟩ (.bool y)).drew :=
  ⟨((h.setL hA x).setH (by rw [len_upL]; exact hA) y).drew, (((Only.refl (fun k => k = b) w).into rfl _ _).into rfl _ _).drew⟩

set_option maxHeartbeats 4000000 in
theorem drop_any (p b : Nat) (s : Sh) (i : Int) (w : World) (h : Lies w p b s) :
    Calls Tryz.prog 123 #[.pointer (some ⟨p, 0, none⟩), .int .i64 i] w fun e w' => e = .returned (.int .i64 (s.liesC i)) ∧ Lies w' p b (s.dropS i) ∧ Only (fun k => k = b) w w' := by
  obtain ⟨f, ns, r, q⟩ := h
  have LC := lies_any p b s.n s.bot ns i w r
  rw [rep_liesC q] at LC
  by_cases e : s.liesC i = 0
  · have e2 : s.dropS i = s.drop i.toNat := by unfold Sh.dropS; rw [if_pos e]
    rw [e2]
    obtain ⟨j, rfl, hj, _⟩ := liesC_nat e
    rw [e] at LC ⊢
    rw [Int.toNat_natCast]
    obtain ⟨q2, hA, hB⟩ := q.drop f hj
    have LC := Lib.hid LC
    have L := Lib.hid (lift_any p b s.n s.bot ns j w r hj hA hB)
    have Q := Lib.hid q2
    have F2 := Lib.hid (f.drop j)
    have len := r.len
    have n64 := r.n64
    have ll : (liftN ns j).length = s.n + 2 := by rw [len_lift, len]
    have lb := r.row.lt
    have lp := r.head.lt
    have bj : (j : Int) < (s.n : Int) + 2 := by omega
    have ne := r.ne
    have ne' : b ≠ p := fun e => ne e.symm
    clear r q q2 f hA hB len e e2
    generalize liftN ns j = n1 at *
    go_enter Tryz.func123, Tryz.ntmps123
    go_wp2_with fail
    (with_reducible refine (LC.out).mono ?_)
    rintro e w' ⟨rfl, rfl⟩
    go_wp2_with fail
    (with_reducible refine (L.out).mono ?_)
    rintro e w1 ⟨rfl, r1, o1⟩
    have c := r1.hd
    have z := r1.fz
    obtain ⟨c0, c1, _, _⟩ := r1.at_ (i := j) (by omega)
    have R2 := Lib.hid (r1.pairLH (A := j) (by omega) (-1) false)
    have O := Lib.hid o1
    clear LC L r1 o1
    go_wp2
    go_region
    go_wp2
    go_ret
    exact ⟨rfl, ⟨F2.out, _, R2.out.1, Q.out⟩, O.out.same R2.out.2⟩
  · have e2 : s.dropS i = s := by unfold Sh.dropS; rw [if_neg e]
    rw [e2]
    have F1 := Lib.hid (show Lies w p b s from ⟨f, ns, r, q⟩)
    have e3 : s.liesC i = 1 ∨ s.liesC i = 3 := by
      unfold Sh.liesC at e ⊢
      split
      · split
        · exact .inr rfl
        · rename_i h1 h2; rw [if_pos h1, if_neg h2] at e; exact absurd rfl e
      · exact .inl rfl
    clear r q f e2 e
    rcases e3 with e | e <;> rw [e] at LC ⊢ <;> clear e
    · go_enter Tryz.func123, Tryz.ntmps123
      go_wp2_with fail
      (with_reducible refine (LC).mono ?_)
      rintro e w' ⟨rfl, rfl⟩
      go_wp2
      go_ret
      exact ⟨rfl, F1.out, Only.refl _ _⟩
    · go_enter Tryz.func123, Tryz.ntmps123
      go_wp2_with fail
      (with_reducible refine (LC).mono ?_)
      rintro e w' ⟨rfl, rfl⟩
      go_wp2
      go_ret
      exact ⟨rfl, F1.out, Only.refl _ _⟩

set_option maxHeartbeats 4000000 in
theorem hold_any (p b : Nat) (s : Sh) (i : Int) (v : Bool) (w : World) (h : Lies w p b s) :
    Calls Tryz.prog 119 #[.pointer (some ⟨p, 0, none⟩), .int .i64 i, .bool v] w fun e w' => e = .returned (.int .i64 (s.liesC i)) ∧ Lies w' p b (s.holdS i v) ∧ Only (fun k => k = b) w w' := by
  obtain ⟨f, ns, r, q⟩ := h
  have LC := lies_any p b s.n s.bot ns i w r
  rw [rep_liesC q] at LC
  by_cases e : s.liesC i = 0
  · have e2 : s.holdS i v = s.hold i.toNat v := by unfold Sh.holdS; rw [if_pos e]
    rw [e2]
    obtain ⟨j, rfl, hj, _⟩ := liesC_nat e
    rw [e] at LC ⊢
    rw [Int.toNat_natCast]
    have q2 := q.hold f hj v
    have LC := Lib.hid LC
    have Q := Lib.hid q2
    have F2 := Lib.hid (f.hold j v)
    have len := r.len
    have n64 := r.n64
    have lb := r.row.lt
    have lp := r.head.lt
    have bj : (j : Int) < (s.n : Int) + 2 := by omega
    have c := r.hd
    have z := r.fz
    obtain ⟨_, c1, _, _⟩ := r.at_ (i := j) (by omega)
    have R2 := Lib.hid (r.setH (i := j) (by omega) v)
    clear r q q2 f e e2
    go_enter Tryz.func119, Tryz.ntmps119
    go_wp2_with fail
    (with_reducible refine (LC.out).mono ?_)
    rintro e w' ⟨rfl, rfl⟩
    go_wp2
    go_ret
    exact ⟨rfl, ⟨F2.out, _, R2.out, Q.out⟩, (Only.refl (fun k => k = b) w).into rfl _ _⟩
  · have e2 : s.holdS i v = s := by unfold Sh.holdS; rw [if_neg e]
    rw [e2]
    have F1 := Lib.hid (show Lies w p b s from ⟨f, ns, r, q⟩)
    have e3 : s.liesC i = 1 ∨ s.liesC i = 3 := by
      unfold Sh.liesC at e ⊢
      split
      · split
        · exact .inr rfl
        · rename_i h1 h2; rw [if_pos h1, if_neg h2] at e; exact absurd rfl e
      · exact .inl rfl
    clear r q f e2 e
    rcases e3 with e | e <;> rw [e] at LC ⊢ <;> clear e
    · go_enter Tryz.func119, Tryz.ntmps119
      go_wp2_with fail
      (with_reducible refine (LC).mono ?_)
      rintro e w' ⟨rfl, rfl⟩
      go_wp2
      go_ret
      exact ⟨rfl, F1.out, Only.refl _ _⟩
    · go_enter Tryz.func119, Tryz.ntmps119
      go_wp2_with fail
      (with_reducible refine (LC).mono ?_)
      rintro e w' ⟨rfl, rfl⟩
      go_wp2
      go_ret
      exact ⟨rfl, F1.out, Only.refl _ _⟩
end Go.Proofs.YtlfnncahhbbmpaaGreatDoor

namespace Go.Proofs.YtlfnncahhbbmpaaGreatDoor
open Go.RowKit Go.Shelf
set_option linter.unusedVariables false
set_option maxRecDepth 100000
attribute [local go_sem] Oper.semAt_some

theorem Rg.below {w w' : World} {p b n bot : Nat} {ns : List Nd} (h : Rg w p b n bot ns) {n0 : Nat} (k : Below n0 w w') (hp : p < n0) (hb : b < n0) : Rg w' p b n bot ns :=
  ⟨(k.block p hp).trans h.head, (k.block b hb).trans h.row, h.len, h.n64, h.bot64, h.ne⟩
theorem Only.to_below {w w' : World} (h : Only none_ w w') : Below w.heap.size w w' := h.below (Nat.le_refl _) (fun _ _ s => s)
theorem Below.to_only {w w' : World} (h : Below w.heap.size w w') : Only none_ w w' := ⟨h.os, h.tape, h.output, h.size, fun k hk _ => h.block k hk⟩

/-- what a round that goes on keeps: what lay below n₀, and the iterator's own box -/
def KeepsB (n₀ Bs : Nat) (W W' : World) : Prop := Below n₀ W W' ∧ W'.heap[Bs]? = W.heap[Bs]?
theorem keepsB_t {n₀ Bs : Nat} {A B C : World} (h : KeepsB n₀ Bs A B) (k : KeepsB n₀ Bs B C) : KeepsB n₀ Bs A C := ⟨h.1.trans k.1, k.2.trans h.2⟩
theorem keepsB_b {n₀ Bs : Nat} {w : World} (hn : n₀ ≤ w.heap.size) (hs : Bs < w.heap.size) (W : World) (l : Nat) (o o' : Obj) (hl : w.heap.size ≤ l) (h : W.heap[l]? = some o) (hc : o.isCells = false) (hw : o.isWalk = false) : KeepsB n₀ Bs W (W.putObj l o') :=
  ⟨belowK_b hn W l o o' hl h hc hw, World.putObj_heap_other (by omega)⟩
def encN (x : Nat) : Array Value := #[.int .i64 x]

theorem idx_mid {pre rest : List Nat} {x : Nat} (h : (pre ++ x :: rest).Nodup) : (pre ++ x :: rest).idxOf x = pre.length := by
  have : x ∉ pre := fun k => (List.nodup_append.1 h).2.2 x k x (by simp) rfl
  rw [List.idxOf_append, if_neg this, List.idxOf_cons_self]
  omega
theorem idx_out {xs : List Nat} {e : Nat} (h : e ∉ xs) : xs.idxOf e = xs.length := List.idxOf_eq_length h

/-- what the iterator's steps are: one on from the end, one on from each -/
theorem path_first {f : Nat → Nat} {e : Nat} {xs : List Nat} (h : Path f e xs e) : f e = firstOf e xs := h.first

set_option maxRecDepth 100000 in
set_option maxHeartbeats 2000000 in
theorem iter_in (m : Nat) (hm : 1 ≤ m) (l Bs Bl n₀ p b n bot k : Nat) (ns : List Nd) (e : Nat) (he : e = n + k) (hk : k < 2) (xs : List Nat) (hx : Path (aF ns) e xs e) (hnd : (e :: xs).Nodup) (hlt : ∀ x ∈ xs, x < n) (hp : p < n₀) (hb : b < n₀)
    (J Jx : List Nat → World → Prop)
    (hY : ∀ pre x W, x < n → J pre W → pre.length < xs.length → YieldAt Fence.wide (m - 1) Tryz.prog l (encN x) W fun e W' =>
      (e = .returned (.bool true) ∧ J (pre ++ [x]) W' ∧ KeepsB n₀ Bs W W') ∨ (e = .returned (.bool false) ∧ Jx (pre ++ [x]) W'))
    (hJd : ∀ pre W, J pre W → J pre W.drew)
    (W : World) (hBs : W.cell? ⟨Bs, 0, none⟩ = some (.pointer (some ⟨p, 0, none⟩))) (hBl : W.cell? ⟨Bl, 0, none⟩ = some (.int .i64 k)) (hR : Rg W p b n bot ns) (h0 : J [] W) :
    CallsIn Fence.wide m Tryz.prog 132 #[.func (.yield l) #[] #[], .pointer (some ⟨Bs, 0, none⟩), .pointer (some ⟨Bl, 0, none⟩)] W fun e W' => (∃ v, e = .returned v) ∧
      ((∃ ys, ys = xs ∧ J ys W') ∨ (∃ pre, pre <+: xs ∧ Jx pre W')) := by
  have HL := hasList_any (.pointer (some ⟨p, 0, none⟩)) k W
  rw [show hasL (k : Int) = true from decide_eq_true (by omega)] at HL
  have HL := Lib.hid ((callsIn_wide (n := m - 1)).2 HL)
  have c := hR.hd
  have ce : W.cell? ⟨p, 2 + k, none⟩ = some (.int .i64 e) := by
    have : k = 0 ∨ k = 1 := by omega
    rcases this with rfl | rfl
    · rw [he]; exact hR.e0
    · rw [he]; exact hR.e1
  have ki : (k : Int) < 2 := by omega
  have el : e < ns.length := by rw [hR.len]; omega
  have en : e = n ∨ e = n + 1 := by omega
  replace he := Lib.hid he
  obtain ⟨_, _, ca, _⟩ := hR.at_ el
  have be : (e : Int) < (n : Int) + 2 := by omega
  have len := hR.len
  have n64 := hR.n64
  replace hR := Lib.hid hR
  refine callsIn_of_wp Tryz.func132 rfl trivial ?_ rfl
  simp only [Tryz.ntmps132, List.size_toArray, List.length_cons, List.length_nil, Nat.reduceAdd, Nat.reduceSub, Array.replicate_succ, Array.replicate_zero, List.push_toArray, List.append_toArray, List.nil_append, List.cons_append]
  gi_wp2_with (refine ⟨trivial, ?_⟩; gi_at_call 133; refine (HL.out).mono ?_; rintro e' w' ⟨rfl, rfl⟩)
  gi_region
  gi_wp2
  have J0 := hJd [] W h0
  have B0 : Below n₀ W W.drew := below_n (Below.refl _ _) 1
  have HB := Lib.hid B0
  gi_loopw [5] (fun v wr => ∃ (pre rest : List Nat), v = .int .i64 (firstOf e rest : Nat) ∧ xs = pre ++ rest ∧ J pre wr ∧ Below n₀ W wr ∧ wr.heap[Bs]? = W.heap[Bs]?)
    (fun v wr => xs.length - xs.idxOf (intOf v).toNat)
  case atStart =>
    exact ⟨[], xs, by rw [hx.first], rfl, J0, HB.out, rfl⟩
  case round =>
    obtain ⟨pre, rest, rfl, hxs, hJs, hB, hS⟩ := hrel
    have HS := Lib.hid hS
    clear J0 HB B0
    have HB := Lib.hid hB
    cases rest with
    | nil =>
      rw [show firstOf e [] = e from rfl]
      clear hB hS
      gi_wp2
      go_end0
      exact ⟨⟨_, rfl⟩, .inl ⟨pre, by simp [hxs], hJs⟩⟩
    | cons x rest =>
      have hxe : x ≠ e := by
        rintro rfl
        exact (List.nodup_cons.1 hnd).1 (by rw [hxs]; simp)
      have hxn : x < n := hlt x (by rw [hxs]; simp)
      have ha : aF ns x = firstOf e rest := by
        have := hx
        rw [hxs, Path.split] at this
        exact this.2.first
      obtain ⟨fn, tmps, assign, body, hy, hQ⟩ := hY pre x wr hxn hJs (by rw [hxs]; simp)
      have e1 : ((x : Int) != (e : Int)) = true := by simp; omega
      have e2 : decide (x = e) = false := by simp; omega
      simp only [encN] at hy
      rw [show firstOf e (x :: rest) = x from rfl]
      clear hB hS
      gi_wp2
      refine hQ.mono ?_
      rintro e' W3 (⟨rfl, hJ3, hk3⟩ | ⟨rfl, hJx3⟩)
      · have hB3 := HB.out.trans hk3.1
        have h3 := hk3.2.trans HS.out
        have r3 := hR.out.below hB3 hp hb
        have c3 := r3.hd
        have s3 : W3.cell? ⟨Bs, 0, none⟩ = some (.pointer (some ⟨p, 0, none⟩)) := (World.cell?_of_block h3).trans hBs
        obtain ⟨_, _, a3, _⟩ := r3.at_ (i := x) (by omega)
        have bx : (x : Int) < (n : Int) + 2 := by omega
        gi_wp2
        go_roundw
        case rel => exact ⟨pre ++ [x], rest, rfl, by simp [hxs], hJ3, hB3, h3⟩
        case measure =>
          rw [hxs] at hnd
          have hn2 := (List.nodup_cons.1 hnd)
          have i1 := idx_mid hn2.2
          have i2 : (pre ++ x :: rest).idxOf (firstOf e rest) ≥ pre.length + 1 := by
            cases rest with
            | nil =>
              rw [show firstOf e [] = e from rfl, idx_out hn2.1]
              simp
            | cons y rest =>
              have : pre ++ x :: y :: rest = (pre ++ [x]) ++ y :: rest := by simp
              rw [show firstOf e (y :: rest) = y from rfl, this, idx_mid (by rw [← this]; exact hn2.2)]
              simp
          simp only [intOf, Int.toNat_natCast, hxs, i1]
          simp only [List.length_append, List.length_cons]
          omega
      · gi_wp2
        refine bodyPost_ret (results_none rfl _ _ _) rfl ?_
        exact ⟨⟨_, rfl⟩, .inr ⟨pre ++ [x], ⟨rest, by simp [hxs]⟩, hJx3⟩⟩

/-- a list's nodes, from the last on -/
def Sh.revL (s : Sh) (k : Int) : List Nat := if hasL k then (s.li k.toNat).reverse else []

set_option maxHeartbeats 1000000 in
theorem iter_no (m : Nat) (hm : 1 ≤ m) (l Bs Bl p : Nat) (k : Int) (hk : hasL k = false) (J Jx : List Nat → World → Prop)
    (W : World) (hBs : W.cell? ⟨Bs, 0, none⟩ = some (.pointer (some ⟨p, 0, none⟩))) (hBl : W.cell? ⟨Bl, 0, none⟩ = some (.int .i64 k)) (h0 : J [] W) :
    CallsIn Fence.wide m Tryz.prog 132 #[.func (.yield l) #[] #[], .pointer (some ⟨Bs, 0, none⟩), .pointer (some ⟨Bl, 0, none⟩)] W fun e W' => (∃ v, e = .returned v) ∧
      ((∃ ys, ys = [] ∧ J ys W') ∨ (∃ pre, pre <+: [] ∧ Jx pre W')) := by
  have HL := hasList_any (.pointer (some ⟨p, 0, none⟩)) k W
  rw [hk] at HL
  replace HL := Lib.hid ((callsIn_wide (n := m - 1)).2 HL)
  refine callsIn_of_wp Tryz.func132 rfl trivial ?_ rfl
  simp only [Tryz.ntmps132, List.size_toArray, List.length_cons, List.length_nil, Nat.reduceAdd, Nat.reduceSub, Array.replicate_succ, Array.replicate_zero, List.push_toArray, List.append_toArray, List.nil_append, List.cons_append]
  gi_wp2_with (refine ⟨trivial, ?_⟩; gi_at_call 133; refine (HL.out).mono ?_; rintro e' w' ⟨rfl, rfl⟩)
  refine bodyPost_ret (results_none rfl _ _ _) rfl ?_
  exact ⟨⟨_, rfl⟩, .inl ⟨[], rfl, h0⟩⟩

theorem fromLast_any (p : Nat) (k : Int) (w : World) :
    Calls Tryz.prog 96 #[.pointer (some ⟨p, 0, none⟩), .int .i64 k] w fun e w' =>
      e = .returned (.func (.func 132) #[] #[.pointer (some ⟨w.heap.size, 0, none⟩), .pointer (some ⟨w.heap.size + 1, 0, none⟩)]) ∧ w' = (w.alloc (.cells #[.pointer (some ⟨p, 0, none⟩)] 94)).alloc (.cells #[.int .i64 k] 3) := by
  go_enter Tryz.func96, Tryz.ntmps96
  go_wp2
  go_ret
  exact ⟨rfl, rfl⟩

theorem grown_drew (w : World) : w.grownBy w.drew none := ⟨rfl, rfl, rfl, Nat.le_refl _, fun _ _ _ => rfl⟩

def encF {n : Nat} (x : Fin n) : Array Value := #[.int .i64 (x.val : Nat)]
def vals {n : Nat} (l : List (Fin n)) : List Nat := l.map (fun x => x.val)

/-- the iterator that fromLast hands back: a list's nodes come, from the last on -/
theorem stops (m : Nat) (hm : 1 ≤ m) (p b : Nat) (s : Sh) (k : Int) (w W : World) (n₀ Bs Bl : Nat) (h : Lies w p b s) (hw : Below n₀ w W) (hn : n₀ = w.heap.size) (hs : Bs < W.heap.size) (hl : Bl < W.heap.size)
    (cs : W.cell? ⟨Bs, 0, none⟩ = some (.pointer (some ⟨p, 0, none⟩))) (cl : W.cell? ⟨Bl, 0, none⟩ = some (.int .i64 k)) :
    SeqStopsK Fence.wide m Tryz.prog 132 #[.pointer (some ⟨Bs, 0, none⟩), .pointer (some ⟨Bl, 0, none⟩)] (encF (n := s.n)) (KeepsB n₀ Bs) (fun ys => vals ys = s.revL k) (fun pre => vals pre <+: s.revL k) (s.revL k).length W := by
  intro l J Jx W1 hW hJ hJx hY h0
  have cs1 : W1.cell? ⟨Bs, 0, none⟩ = some (.pointer (some ⟨p, 0, none⟩)) := (hW.cell (p := ⟨Bs, 0, none⟩) hs).trans cs
  have cl1 : W1.cell? ⟨Bl, 0, none⟩ = some (.int .i64 k) := (hW.cell (p := ⟨Bl, 0, none⟩) hl).trans cl
  have J1 : ∃ q : List (Fin s.n), vals q = [] ∧ J q W1 := ⟨[], rfl, h0⟩
  have jd' : ∀ pre X, (∃ q : List (Fin s.n), vals q = pre ∧ J q X) → ∃ q : List (Fin s.n), vals q = pre ∧ J q X.drew := fun pre X ⟨q, e, hx⟩ => ⟨q, e, hJ q X X.drew none hx (grown_drew X) (fun r e => by cases e)⟩
  have hY1 : ∀ pre x W, x < s.n → (∃ q : List (Fin s.n), vals q = pre ∧ J q W) → pre.length < (s.revL k).length → YieldAt Fence.wide (m - 1) Tryz.prog l (encN x) W fun e W' =>
      (e = .returned (.bool true) ∧ (∃ q : List (Fin s.n), vals q = pre ++ [x] ∧ J q W') ∧ KeepsB n₀ Bs W W') ∨ (e = .returned (.bool false) ∧ (∃ q : List (Fin s.n), vals q = pre ++ [x] ∧ Jx q W')) := by
    rintro pre x W2 hx ⟨q, rfl, hq⟩ hlen
    refine (hY q ⟨x, hx⟩ W2 hq (by simpa [vals] using hlen)).mono ?_
    rintro e W' (⟨he, hj, hk⟩ | ⟨he, hj⟩)
    · exact .inl ⟨he, ⟨_, by simp [vals], hj⟩, hk⟩
    · exact .inr ⟨he, ⟨_, by simp [vals], hj⟩⟩
  have fin : ∀ (e : Ending) (W' : World), ((∃ v, e = .returned v) ∧ ((∃ ys, ys = s.revL k ∧ ∃ q : List (Fin s.n), vals q = ys ∧ J q W') ∨ (∃ pre, pre <+: s.revL k ∧ ∃ q : List (Fin s.n), vals q = pre ∧ Jx q W'))) →
      (∃ v, e = .returned v) ∧ ((∃ xs : List (Fin s.n), vals xs = s.revL k ∧ J xs W') ∨ (∃ pre : List (Fin s.n), vals pre <+: s.revL k ∧ Jx pre W')) := by
    rintro e W' ⟨hv, (⟨ys, rfl, q, hq, hj⟩ | ⟨pre, hp, q, rfl, hj⟩)⟩
    · exact ⟨hv, .inl ⟨q, hq, hj⟩⟩
    · exact ⟨hv, .inr ⟨q, hp, hj⟩⟩
  cases e : hasL k with
  | false =>
    have e1 : s.revL k = [] := by unfold Sh.revL; rw [e]; rfl
    rw [e1] at fin ⊢
    exact (iter_no m hm l Bs Bl p k e (fun pre X => ∃ q : List (Fin s.n), vals q = pre ∧ J q X) (fun pre X => ∃ q : List (Fin s.n), vals q = pre ∧ Jx q X) W1 cs1 cl1 J1).mono fin
  | true =>
    have lt := h.lt
    obtain ⟨f, ns, r, q⟩ := h
    have nW : n₀ ≤ W.heap.size := by rw [hn]; exact hw.size
    have r1 : Rg W1 p b s.n s.bot ns := r.below (hw.trans (hW.mono nW)) (by omega) (by omega)
    have e1 : s.revL k = (s.li k.toNat).reverse := by unfold Sh.revL; rw [e]; rfl
    rcases hasL_cases e with rfl | rfl
    · rw [e1] at hY1 fin ⊢
      exact (iter_in m hm l Bs Bl n₀ p b s.n s.bot 0 ns s.n rfl (by decide) s.l0.reverse q.links.r0.a (nodup_rev q.links.r0.nodup) (fun x hx => f.lt0 x (List.mem_reverse.1 hx)) (by omega) (by omega) _ _ hY1 jd' W1 cs1 cl1 r1 J1).mono fin
    · rw [e1] at hY1 fin ⊢
      exact (iter_in m hm l Bs Bl n₀ p b s.n s.bot 1 ns (s.n + 1) rfl (by decide) s.l1.reverse q.links.r1.a (nodup_rev q.links.r1.nodup) (fun x hx => f.lt1 x (List.mem_reverse.1 hx)) (by omega) (by omega) _ _ hY1 jd' W1 cs1 cl1 r1 J1).mono fin
end Go.Proofs.YtlfnncahhbbmpaaGreatDoor

namespace Go.Proofs.YtlfnncahhbbmpaaGreatDoor
open Go.RowKit Go.Shelf
set_option linter.unusedVariables false
set_option maxRecDepth 100000
attribute [local go_sem] Oper.semAt_some

theorem cell_of_box {W : World} {B : Nat} {v : Value} {t : TypeId} (h : W.heap[B]? = some (.cells #[v] t (0, 0))) : W.cell? ⟨B, 0, none⟩ = some v ∧ W.frozen? ⟨B, 0, none⟩ = false := by
  constructor <;> simp [World.cell?, World.frozen?, h]
theorem cell_new (W : World) (v : Value) (t : TypeId) : (W.alloc (.cells #[v] t)).cell? ⟨W.heap.size, 0, none⟩ = some v ∧ (W.alloc (.cells #[v] t)).frozen? ⟨W.heap.size, 0, none⟩ = false :=
  cell_of_box (World.alloc_heap_new W _)
theorem cell_alloc {W : World} {a : Addr} {v : Value} (o : Obj) (h : W.cell? a = some v) : (W.alloc o).cell? a = some v := cell_kept h (World.grownBy_alloc W o none) (fun r e => by cases e)
theorem frozen_alloc {W : World} {a : Addr} {v : Value} (o : Obj) (h : W.cell? a = some v) (hf : W.frozen? a = false) : (W.alloc o).frozen? a = false := (frozen_kept h (World.grownBy_alloc W o none) (fun r e => by cases e)).trans hf

theorem nodup_len : ∀ (n : Nat) (l : List Nat), l.Nodup → (∀ x ∈ l, x < n) → l.length ≤ n := by
  intro n
  induction n with
  | zero =>
    intro l _ h
    cases l with
    | nil => exact Nat.le_refl _
    | cons x l => exact absurd (h x (by simp)) (by omega)
  | succ n ih =>
    intro l hn h
    by_cases c : n ∈ l
    · have h1 := ih (l.erase n) (hn.erase n) (fun x hx => by
        have := hn.mem_erase_iff.1 hx
        have := h x this.2
        omega)
      have := List.length_erase_of_mem c
      omega
    · have h1 := ih l hn (fun x hx => by
        have := h x hx
        have : x ≠ n := fun e => c (e ▸ hx)
        omega)
      omega
theorem revL_len {s : Sh} (f : s.Fine) (k : Int) : (s.revL k).length ≤ 64 := by
  have n64 := f.n64
  unfold Sh.revL
  split
  · rw [List.length_reverse]
    unfold Sh.li
    split
    · exact Nat.le_trans (nodup_len _ _ f.nd0 f.lt0) n64
    · exact Nat.le_trans (nodup_len _ _ f.nd1 f.lt1) n64
  · exact Nat.zero_le _

set_option maxRecDepth 100000 in
set_option maxHeartbeats 2000000 in
theorem len_in (p b : Nat) (s : Sh) (k : Int) (w : World) (h : Lies w p b s) :
    CallsIn Fence.wide 5 Tryz.prog 150 #[.pointer (some ⟨p, 0, none⟩), .int .i64 k] w fun e w' => e = .returned (.int .i64 (s.revL k).length) ∧ Below w.heap.size w w' := by
  have FL := fun w1 => Lib.hid ((callsIn_wide (n := 4)).2 (fromLast_any p k w1))
  have le64 := revL_len h.fine k
  refine callsIn_of_wp_marks Tryz.func150 rfl trivial ?_ rfl
  simp only [Tryz.ntmps150, List.size_toArray, List.length_cons, List.length_nil, Nat.reduceAdd, Nat.reduceSub, Array.replicate_succ, Array.replicate_zero, List.push_toArray, List.append_toArray, List.nil_append, List.cons_append]
  gi_wp2_with (refine ⟨trivial, ?_⟩; gi_at_call 96; refine ((FL _).out).mono ?_; rintro e w' ⟨rfl, rfl⟩)
  have lt := h.lt
  have c1 := cell_new w (.int .i64 0) 3
  have c2 := cell_new (w.alloc (.cells #[.int .i64 0] 3)) (.pointer (some ⟨p, 0, none⟩)) 94
  have c3 := cell_new ((w.alloc (.cells #[.int .i64 0] 3)).alloc (.cells #[.pointer (some ⟨p, 0, none⟩)] 94)) (.int .i64 k) 3
  simp only [World.size_alloc] at c2 c3
  have hB0 : Below w.heap.size w (((w.alloc (.cells #[.int .i64 0] 3)).alloc (.cells #[.pointer (some ⟨p, 0, none⟩)] 94)).alloc (.cells #[.int .i64 k] 3)) := (((Below.refl _ w).alloc (Nat.le_refl _) _).alloc (by simp) _).alloc (by simp; omega) _
  refine wpIn_rangeFunc_ownF rfl (by decide) (gf := 132) (lb := #[.pointer (some ⟨w.heap.size + 1, 0, none⟩), .pointer (some ⟨w.heap.size + 1 + 1, 0, none⟩)]) rfl trivial (enters_of Tryz.func132 (by kernel_rfl) rfl)
    (stops 4 (by decide) p b s k w _ w.heap.size (w.heap.size + 1) (w.heap.size + 1 + 1) h hB0 rfl (by simp) (by simp) (cell_alloc _ c2.1) c3.1) keepsB_t (keepsB_b (by simp; omega) (by simp)) (Below.refl _ _) (fun _ => rfl)
    (fun pre W => (W.cell? ⟨w.heap.size, 0, none⟩ = some (.int .i64 pre.length) ∧ W.frozen? ⟨w.heap.size, 0, none⟩ = false) ∧ Below w.heap.size w W)
    (fun _ _ _ => False)
    (OwnFrom.and (Own.from (fun s A B row hs hg hr => ⟨cell_kept hs.1 hg hr, (frozen_kept hs.1 hg hr).trans hs.2⟩) _) (ownFrom_below (Nat.le_refl _) (by simp; omega)))
    (fun _ _ _ _ _ hs _ _ => hs)
    ⟨⟨cell_alloc _ (cell_alloc _ c1.1), frozen_alloc _ (cell_alloc _ c1.1) (frozen_alloc _ c1.1 c1.2)⟩, hB0⟩
    (fun x : Fin s.n => { tmps := #[.pointer (some ⟨p, 0, none⟩), .int .i64 k, undef, undef, .int .i64 0, .pointer (some ⟨w.heap.size, 0, none⟩), .pointer (some ⟨p, 0, none⟩), .int .i64 k, .func (.func 132) #[] #[.pointer (some ⟨w.heap.size + 1, 0, none⟩), .pointer (some ⟨w.heap.size + 1 + 1, 0, none⟩)], .int .i64 (x.val : Nat), undef, undef, undef], defers := [] }) ?assign ?body ?done ?stop
  case assign =>
    intro l x W K hK
    simp only [encF]
    gi_wp2
    simpa using hK
  case body =>
    rintro l pre x W ⟨⟨hc, hf⟩, hB⟩ hlen
    gi_wp2
    exact ⟨KeepsOthers.setCell _ _ _, ⟨(Below.refl w.heap.size W).setCell (p := ⟨w.heap.size, 0, none⟩) (Nat.le_refl _) _, Below.heap_setCell _ _ _ _ (by simp)⟩, ⟨by rw [List.length_append]; exact World.cell?_setCell_same' _ _ _ (by rw [hc]; rfl), by rw [World.frozen?_setCell]; exact hf⟩, hB.setCell (p := ⟨w.heap.size, 0, none⟩) (Nat.le_refl _) _⟩
  case done =>
    rintro D ys W hD hys ⟨⟨hc, _⟩, hB⟩ hK
    gi_wp2
    refine ⟨by simp, .inl ⟨_, _, rfl, run_takeDeferred hK, ?_⟩⟩
    exact ⟨_, results_tmp rfl _ _ _, by rw [← hys]; simp [vals], hB.trans (belowK_b (w := w) (Nat.le_refl _) W D _ _ (by simp at hD; omega) hK rfl rfl)⟩
  case stop =>
    rintro D c pre W _ _ h _
    exact h.elim

/-- the last node that isn't held -/
def Sh.lastOk (s : Sh) (k : Int) : Option Nat := (s.revL k).find? (fun i => !s.h i)
def lastV (o : Option Nat) : Value := .tuple #[.int .i64 (o.getD 0 : Nat), .bool o.isSome]

theorem lies_heldAt {w : World} {p b : Nat} {s : Sh} (h : Lies w p b s) {i : Nat} (hi : i < s.n) :
    w.cell? ⟨p, 0, none⟩ = some (.slice (some ⟨b, 0, none⟩) (s.n + 2) (s.n + 2)) ∧ w.cell? ⟨b, i * 4 + 1, none⟩ = some (.bool (s.h i)) ∧ w.cell? ⟨b, i * 4, none⟩ = some (.int .i64 (s.lst i)) := by
  obtain ⟨f, ns, r, q⟩ := h
  obtain ⟨c0, c1, _, _⟩ := r.at_ (i := i) (by rw [r.len]; omega)
  rw [q.held i hi] at c1
  rw [q.lst i hi] at c0
  exact ⟨r.hd, c1, c0⟩
theorem Lies.below {w w' : World} {p b : Nat} {s : Sh} (h : Lies w p b s) {n0 : Nat} (k : Below n0 w w') (hp : p < n0) (hb : b < n0) : Lies w' p b s := by
  obtain ⟨f, ns, r, q⟩ := h
  exact ⟨f, ns, r.below k hp hb, q⟩
theorem revL_lt {s : Sh} (f : s.Fine) {k : Int} {x : Nat} (h : x ∈ s.revL k) : x < s.n := by
  unfold Sh.revL at h
  split at h
  · rw [List.mem_reverse] at h
    unfold Sh.li at h
    split at h
    · exact f.lt0 x h
    · exact f.lt1 x h
  · cases h

theorem two_cells {W : World} {A B : Nat} {a b x y : Value} (h1 : W.cell? ⟨A, 0, none⟩ = some a) (h2 : W.cell? ⟨B, 0, none⟩ = some b) (hne : A ≠ B) :
    ((W.setCell ⟨A, 0, none⟩ x).setCell ⟨B, 0, none⟩ y).cell? ⟨A, 0, none⟩ = some x ∧ ((W.setCell ⟨A, 0, none⟩ x).setCell ⟨B, 0, none⟩ y).cell? ⟨B, 0, none⟩ = some y := by
  have k : (W.setCell ⟨A, 0, none⟩ x).cell? ⟨A, 0, none⟩ = some x := World.cell?_setCell_same' _ _ _ (by rw [h1]; rfl)
  constructor
  · exact (World.cell?_of_block (Below.heap_setCell _ _ _ A hne)).trans k
  · exact World.cell?_setCell_same' _ _ _ (by rw [World.cell?_of_block (Below.heap_setCell _ _ _ B (Ne.symm hne)), h2]; rfl)

set_option maxRecDepth 100000 in
set_option maxHeartbeats 2000000 in
theorem last_in (p b : Nat) (s : Sh) (k : Int) (w : World) (h : Lies w p b s) :
    CallsIn Fence.wide 5 Tryz.prog 121 #[.pointer (some ⟨p, 0, none⟩), .int .i64 k] w fun e w' => e = .returned (lastV (s.lastOk k)) ∧ Below w.heap.size w w' := by
  have FL := fun w1 => Lib.hid ((callsIn_wide (n := 4)).2 (fromLast_any p k w1))
  have le64 := revL_len h.fine k
  refine callsIn_of_wp_marks Tryz.func121 rfl trivial ?_ rfl
  simp only [Tryz.ntmps121, List.size_toArray, List.length_cons, List.length_nil, Nat.reduceAdd, Nat.reduceSub, Array.replicate_succ, Array.replicate_zero, List.push_toArray, List.append_toArray, List.nil_append, List.cons_append]
  gi_wp2_with (refine ⟨trivial, ?_⟩; gi_at_call 96; refine ((FL _).out).mono ?_; rintro e w' ⟨rfl, rfl⟩)
  have lt := h.lt
  obtain ⟨A0, eA0⟩ : ∃ A, A = w.alloc (.cells #[.pointer (some ⟨p, 0, none⟩)] 94) := ⟨_, rfl⟩
  have sA0 : A0.heap.size = w.heap.size + 1 := by rw [eA0]; simp
  obtain ⟨A1, eA1⟩ : ∃ A, A = A0.alloc (.cells #[.int .i64 0] 3) := ⟨_, rfl⟩
  have sA1 : A1.heap.size = w.heap.size + 1 + 1 := by rw [eA1]; simp [sA0]
  obtain ⟨A2, eA2⟩ : ∃ A, A = A1.alloc (.cells #[.bool false] 4) := ⟨_, rfl⟩
  have sA2 : A2.heap.size = w.heap.size + 1 + 1 + 1 := by rw [eA2]; simp [sA1]
  obtain ⟨A3, eA3⟩ : ∃ A, A = A2.alloc (.cells #[.pointer (some ⟨p, 0, none⟩)] 94) := ⟨_, rfl⟩
  have sA3 : A3.heap.size = w.heap.size + 1 + 1 + 1 + 1 := by rw [eA3]; simp [sA2]
  obtain ⟨A4, eA4⟩ : ∃ A, A = A3.alloc (.cells #[.int .i64 k] 3) := ⟨_, rfl⟩
  have sA4 : A4.heap.size = w.heap.size + 1 + 1 + 1 + 1 + 1 := by rw [eA4]; simp [sA3]
  have c0 := cell_new w (.pointer (some ⟨p, 0, none⟩)) 94
  have c1 := cell_new A0 (.int .i64 0) 3
  have c2 := cell_new A1 (.bool false) 4
  have c3 := cell_new A2 (.pointer (some ⟨p, 0, none⟩)) 94
  have c4 := cell_new A3 (.int .i64 k) 3
  rw [← eA0] at c0
  rw [← eA1, sA0] at c1
  rw [← eA2, sA1] at c2
  rw [← eA3, sA2] at c3
  rw [← eA4, sA3] at c4
  have b0 : Below w.heap.size w A0 := by rw [eA0]; exact (Below.refl _ w).alloc (Nat.le_refl _) _
  have b1 : Below w.heap.size w A1 := by rw [eA1]; exact b0.alloc (by omega) _
  have b2 : Below w.heap.size w A2 := by rw [eA2]; exact b1.alloc (by omega) _
  have b3 : Below w.heap.size w A3 := by rw [eA3]; exact b2.alloc (by omega) _
  have b4 : Below w.heap.size w A4 := by rw [eA4]; exact b3.alloc (by omega) _
  have up : ∀ {a : Addr} {v : Value}, A2.cell? a = some v → A4.cell? a = some v := fun h => by rw [eA4, eA3]; exact cell_alloc _ (cell_alloc _ h)
  have uf : ∀ {a : Addr} {v : Value}, A2.cell? a = some v → A2.frozen? a = false → A4.frozen? a = false := fun h k => by rw [eA4, eA3]; exact frozen_alloc _ (cell_alloc _ h) (frozen_alloc _ h k)
  have d0 : A2.cell? ⟨w.heap.size, 0, none⟩ = some (.pointer (some ⟨p, 0, none⟩)) := by rw [eA2, eA1]; exact cell_alloc _ (cell_alloc _ c0.1)
  have d1 : A2.cell? ⟨w.heap.size + 1, 0, none⟩ = some (.int .i64 0) := by rw [eA2]; exact cell_alloc _ c1.1
  have f1 : A2.frozen? ⟨w.heap.size + 1, 0, none⟩ = false := by rw [eA2]; exact frozen_alloc _ c1.1 c1.2
  rw [← eA0, ← eA1, ← eA2, ← eA3, ← eA4]
  have d3 : A4.cell? ⟨w.heap.size + 1 + 1 + 1, 0, none⟩ = some (.pointer (some ⟨p, 0, none⟩)) := by rw [eA4]; exact cell_alloc _ c3.1
  clear eA0 eA1 eA2 eA3 eA4
  refine wpIn_rangeFunc_ownF rfl (by decide) (gf := 132) (lb := #[.pointer (some ⟨w.heap.size + 1 + 1 + 1, 0, none⟩), .pointer (some ⟨w.heap.size + 1 + 1 + 1 + 1, 0, none⟩)]) rfl trivial (enters_of Tryz.func132 (by kernel_rfl) rfl)
    (stops 4 (by decide) p b s k w _ w.heap.size (w.heap.size + 1 + 1 + 1) (w.heap.size + 1 + 1 + 1 + 1) h b4 rfl (by omega) (by omega) d3 c4.1) keepsB_t (keepsB_b (by omega) (by omega)) (Below.refl _ _) (fun _ => rfl)
    (fun (pre : List (Fin s.n)) W => ((∀ y ∈ pre, s.h y = true) ∧ W.cell? ⟨w.heap.size, 0, none⟩ = some (.pointer (some ⟨p, 0, none⟩)) ∧ (W.cell? ⟨w.heap.size + 1, 0, none⟩ = some (.int .i64 0) ∧ W.frozen? ⟨w.heap.size + 1, 0, none⟩ = false) ∧ W.cell? ⟨w.heap.size + 1 + 1, 0, none⟩ = some (.bool false) ∧ W.frozen? ⟨w.heap.size + 1 + 1, 0, none⟩ = false) ∧ Below w.heap.size w W)
    (fun c pre W => (c = .ret ∧ ∃ (pre' : List (Fin s.n)) (x : Fin s.n), pre = pre' ++ [x] ∧ (∀ y ∈ pre', s.h y = true) ∧ s.h x = false ∧ W.cell? ⟨w.heap.size + 1, 0, none⟩ = some (.int .i64 (x.val : Nat)) ∧ W.cell? ⟨w.heap.size + 1 + 1, 0, none⟩ = some (.bool true)) ∧ Below w.heap.size w W)
    (OwnFrom.and (Own.from (fun s A B row hs hg hr => ⟨hs.1, cell_kept hs.2.1 hg hr, ⟨cell_kept hs.2.2.1.1 hg hr, (frozen_kept hs.2.2.1.1 hg hr).trans hs.2.2.1.2⟩, cell_kept hs.2.2.2.1 hg hr, (frozen_kept hs.2.2.2.1 hg hr).trans hs.2.2.2.2⟩) _) (ownFrom_below (Nat.le_refl _) (by omega)))
    (fun c => OwnFrom.and (Own.from (fun s A B row hs hg hr => by
      obtain ⟨e, pre', x, e2, h1, h2, h3, h4⟩ := hs
      exact ⟨e, pre', x, e2, h1, h2, cell_kept h3 hg hr, cell_kept h4 hg hr⟩) _) (ownFrom_below (Nat.le_refl _) (by omega)))
    ⟨⟨by simp, up d0, ⟨up d1, uf d1 f1⟩, up c2.1, uf c2.1 c2.2⟩, b4⟩
    (fun x : Fin s.n => { tmps := #[.pointer (some ⟨p, 0, none⟩), .int .i64 k, .pointer (some ⟨w.heap.size, 0, none⟩), undef, .pointer (some ⟨w.heap.size + 1, 0, none⟩), .pointer (some ⟨w.heap.size + 1 + 1, 0, none⟩), .int .i64 (x.val : Nat), .pointer (some ⟨p, 0, none⟩), .int .i64 k, .func (.func 132) #[] #[.pointer (some ⟨w.heap.size + 1 + 1 + 1, 0, none⟩), .pointer (some ⟨w.heap.size + 1 + 1 + 1 + 1, 0, none⟩)], .int .i64 (x.val : Nat), undef, undef, undef, undef, undef, undef, undef, undef, undef, undef], defers := [] }) ?assign ?body ?done ?stop
  case assign =>
    intro l x W K hK
    simp only [encF]
    gi_wp2
    exact hK
  case body =>
    rintro l pre ⟨x, hx⟩ W ⟨⟨hp, q0, ⟨q1, z1⟩, q2, z2⟩, hB⟩ hlen
    obtain ⟨g0, g1, _⟩ := lies_heldAt (h.below hB lt.1 lt.2) hx
    have n64 := h.fine.n64
    have bx : (x : Int) < (s.n : Int) + 2 := by omega
    have hB1 : ∀ v, Below w.heap.size W (W.setCell ⟨w.heap.size + 1, 0, none⟩ v) := fun v => (Below.refl w.heap.size W).setCell (p := ⟨w.heap.size + 1, 0, none⟩) (by simp) v
    cases e : s.h x with
    | true =>
      rw [e] at g1
      simp only
      gi_wp2
      exact ⟨KeepsOthers.refl _, ⟨Below.refl _ _, rfl⟩, ⟨fun y hy => by
        rcases List.mem_append.1 hy with hy | hy
        · exact hp y hy
        · rw [List.mem_singleton.1 hy]; exact e, q0, ⟨q1, z1⟩, q2, z2⟩, hB⟩
    | false =>
      rw [e] at g1
      simp only
      gi_wp2
      refine ⟨(KeepsOthers.setCell _ _ _).trans (KeepsOthers.setCell _ _ _), ⟨rfl, pre, ⟨x, hx⟩, rfl, hp, e, ?_, ?_⟩, (hB.setCell (p := ⟨w.heap.size + 1, 0, none⟩) (by simp) _).setCell (p := ⟨w.heap.size + 1 + 1, 0, none⟩) (by simp; omega) _⟩
      · exact (two_cells (x := .int .i64 (x : Nat)) (y := .bool true) q1 q2 (by simp)).1
      · exact (two_cells (x := .int .i64 (x : Nat)) (y := .bool true) q1 q2 (by simp)).2
  case done =>
    rintro D ys W hD hys ⟨⟨hp, q0, ⟨q1, z1⟩, q2, z2⟩, hB⟩ hK
    gi_wp2
    have hK' := ((KeepsOthers.setCell W ⟨w.heap.size + 1, 0, none⟩ (.int .i64 0)).trans (KeepsOthers.setCell _ ⟨w.heap.size + 1 + 1, 0, none⟩ (.bool false))).same D _ hK rfl
    refine ⟨by simp, .inl ⟨_, _, rfl, run_takeDeferred hK', ?_⟩⟩
    obtain ⟨q1', q2'⟩ := two_cells (x := .int .i64 0) (y := .bool false) q1 q2 (by simp)
    have q1'' := cell_kept q1' (grownBy_putObj' _ D (.deferred none)) (fun r e => by cases e; exact ⟨_, hK', rfl⟩)
    have q2'' := cell_kept q2' (grownBy_putObj' _ D (.deferred none)) (fun r e => by cases e; exact ⟨_, hK', rfl⟩)
    refine ⟨.tuple #[.int .i64 0, .bool false], ?_, ?_, ((hB.setCell (p := ⟨w.heap.size + 1, 0, none⟩) (by simp) _).setCell (p := ⟨w.heap.size + 1 + 1, 0, none⟩) (by simp; omega) _).trans (belowK_b (w := w) (Nat.le_refl _) _ D _ _ (by omega) hK' rfl rfl)⟩
    · simp [results, Tryz.f121, go_sem, q1'', q2'']
    · have : s.lastOk k = none := by
        unfold Sh.lastOk
        rw [← hys, List.find?_eq_none]
        intro y hy
        obtain ⟨z, hz, rfl⟩ := List.mem_map.1 hy
        simp [hp z hz]
      rw [this]
      rfl
  case stop =>
    rintro D c pre W hD hpre ⟨⟨rfl, pre', x, rfl, hp, hx, q1, q2⟩, hB⟩ hK
    gi_wp2
    refine ⟨by simp, .inl ⟨_, _, rfl, run_takeDeferred hK, ?_⟩⟩
    have q1' := cell_kept q1 (grownBy_putObj' _ D (.deferred none)) (fun r e => by cases e; exact ⟨_, hK, rfl⟩)
    have q2' := cell_kept q2 (grownBy_putObj' _ D (.deferred none)) (fun r e => by cases e; exact ⟨_, hK, rfl⟩)
    refine ⟨.tuple #[.int .i64 (x.val : Nat), .bool true], ?_, ?_, hB.trans (belowK_b (w := w) (Nat.le_refl _) W D _ _ (by omega) hK rfl rfl)⟩
    · simp [results, Tryz.f121, go_sem, q1', q2']
    · have : s.lastOk k = some x.val := by
        unfold Sh.lastOk
        obtain ⟨r, hr⟩ := hpre
        rw [← hr]
        simp only [vals, List.map_append, List.map_cons, List.map_nil, List.append_assoc, List.singleton_append]
        rw [List.find?_append]
        have : List.find? (fun i => !s.h i) (pre'.map (fun x => x.val)) = none := by
          rw [List.find?_eq_none]
          intro y hy
          obtain ⟨z, hz, rfl⟩ := List.mem_map.1 hy
          simp [hp z hz]
        rw [this]
        simp [hx]
      rw [this]
      rfl
end Go.Proofs.YtlfnncahhbbmpaaGreatDoor

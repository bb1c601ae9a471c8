/- Plain facts of memory: a block known whole, which blocks may have turned, rows of structs. No condition but what each says. -/
import Derived.WalkKit
import Derived.Lib.Hide
import Derived.Deep.QuietTactic
import Derived.BigQuiet
namespace Go.Proofs.Ytofmbipedljdkaa
open Go.RowKit

/-- block g holds just these cells, of elements of type t, none frozen -/
def Row (w : World) (g : Nat) (t : TypeId) (cs : Array Value) : Prop := w.heap[g]? = some (.cells cs t (0, 0))

theorem Row.lt {w : World} {g : Nat} {t : TypeId} {cs : Array Value} (h : Row w g t cs) : g < w.heap.size := by
  rcases Nat.lt_or_ge g w.heap.size with k | k
  · exact k
  · have h' := h
    unfold Row at h'
    rw [Array.getElem?_eq_none k] at h'
    cases h'
theorem Row.cell {w : World} {g : Nat} {t : TypeId} {cs : Array Value} (h : Row w g t cs) (i : Nat) : w.cell? ⟨g, i, none⟩ = cs[i]? := by
  unfold Row at h
  simp [World.cell?, h]
theorem Row.frozen {w : World} {g : Nat} {t : TypeId} {cs : Array Value} (h : Row w g t cs) (i : Nat) : w.frozen? ⟨g, i, none⟩ = false := by
  unfold Row at h
  simp [World.frozen?, h]
theorem Row.fresh (w : World) (t : TypeId) (cs : Array Value) : Row (w.alloc (.cells cs t)) w.heap.size t cs := by
  show (w.heap.push _)[w.heap.size]? = _
  simp
theorem Row.put {w : World} {g : Nat} {t : TypeId} {cs : Array Value} (h : Row w g t cs) (i : Nat) (v : Value) : Row (w.setCell ⟨g, i, none⟩ v) g t (cs.setIfInBounds i v) := by
  unfold Row at h ⊢
  simp [World.setCell, Array.getElem?_modify, h]
theorem Row.far {w : World} {g : Nat} {t : TypeId} {cs : Array Value} (h : Row w g t cs) {p : Addr} (hp : g ≠ p.block) (v : Value) : Row (w.setCell p v) g t cs :=
  (Below.heap_setCell w p v g hp).trans h
theorem Row.alloc {w : World} {g : Nat} {t : TypeId} {cs : Array Value} (h : Row w g t cs) (o : Obj) : Row (w.alloc o) g t cs :=
  (Below.heap_alloc w o g h.lt).trans h
theorem Row.drew {w : World} {g : Nat} {t : TypeId} {cs : Array Value} (h : Row w g t cs) : Row w.drew g t cs := h
theorem Row.drewN {w : World} {g : Nat} {t : TypeId} {cs : Array Value} (h : Row w g t cs) (n : Nat) : Row (w.drewN n) g t cs := h
theorem Row.five {w : World} {g : Nat} {t : TypeId} {a b c d e : Value} (h : Row w g t #[a, b, c, d, e]) : w.cell? ⟨g, 0, none⟩ = some a ∧ w.cell? ⟨g, 1, none⟩ = some b ∧ w.cell? ⟨g, 2, none⟩ = some c ∧ w.cell? ⟨g, 3, none⟩ = some d ∧ w.cell? ⟨g, 4, none⟩ = some e := by
  refine ⟨?_, ?_, ?_, ?_, ?_⟩ <;> (rw [h.cell]; rfl)
theorem Row.put5 {w : World} {g : Nat} {t : TypeId} {a b c d e : Value} (h : Row w g t #[a, b, c, d, e]) (a' b' c' d' e' : Value) :
    Row (((((w.setCell ⟨g, 0, none⟩ a').setCell ⟨g, 1, none⟩ b').setCell ⟨g, 2, none⟩ c').setCell ⟨g, 3, none⟩ d').setCell ⟨g, 4, none⟩ e') g t #[a', b', c', d', e'] :=
  ((((h.put 0 a').put 1 b').put 2 c').put 3 d').put 4 e'
theorem Row.four {w : World} {g : Nat} {t : TypeId} {a b c d : Value} (h : Row w g t #[a, b, c, d]) : w.cell? ⟨g, 0, none⟩ = some a ∧ w.cell? ⟨g, 1, none⟩ = some b ∧ w.cell? ⟨g, 2, none⟩ = some c ∧ w.cell? ⟨g, 3, none⟩ = some d := by
  refine ⟨?_, ?_, ?_, ?_⟩ <;> (rw [h.cell]; rfl)
theorem Row.three {w : World} {g : Nat} {t : TypeId} {a b c : Value} (h : Row w g t #[a, b, c]) : w.cell? ⟨g, 0, none⟩ = some a ∧ w.cell? ⟨g, 1, none⟩ = some b ∧ w.cell? ⟨g, 2, none⟩ = some c := by
  refine ⟨?_, ?_, ?_⟩ <;> (rw [h.cell]; rfl)
theorem Row.two {w : World} {g : Nat} {t : TypeId} {a b : Value} (h : Row w g t #[a, b]) : w.cell? ⟨g, 0, none⟩ = some a ∧ w.cell? ⟨g, 1, none⟩ = some b := by
  refine ⟨?_, ?_⟩ <;> (rw [h.cell]; rfl)
theorem Row.one {w : World} {g : Nat} {t u : TypeId} {cs ds : Array Value} (h : Row w g t cs) (k : Row w g u ds) : t = u ∧ cs = ds := by
  unfold Row at h k
  rw [h] at k
  injection k with k
  injection k with k1 k2
  exact ⟨k2, k1⟩
theorem Row.apart {w : World} {g g' : Nat} {t u : TypeId} {cs ds : Array Value} (h : Row w g t cs) (k : Row w g' u ds) (hne : t ≠ u) : g ≠ g' := by
  rintro rfl
  exact hne (h.one k).1

/-- the streams are as they were; of the blocks that were there just those of S may have turned -/
structure Only (S : Nat → Prop) (w w' : World) : Prop where
  os : w'.os = w.os
  tape : w'.tape = w.tape
  output : w'.output = w.output
  size : w.heap.size ≤ w'.heap.size
  block : ∀ k, k < w.heap.size → ¬ S k → w'.heap[k]? = w.heap[k]?

/-- nothing that was there has turned -/
def none_ : Nat → Prop := fun _ => False

theorem Only.refl (S : Nat → Prop) (w : World) : Only S w w := ⟨rfl, rfl, rfl, Nat.le_refl _, fun _ _ _ => rfl⟩
theorem Only.trans {S S' : Nat → Prop} {a b c : World} (h : Only S a b) (k : Only S' b c) (hs : ∀ i, i < a.heap.size → S' i → S i) : Only S a c :=
  ⟨k.os.trans h.os, k.tape.trans h.tape, k.output.trans h.output, Nat.le_trans h.size k.size,
    fun i hi hn => (k.block i (Nat.lt_of_lt_of_le hi h.size) (fun s => hn (hs i hi s))).trans (h.block i hi hn)⟩
theorem Only.more {S S' : Nat → Prop} {a b : World} (h : Only S a b) (hs : ∀ i, i < a.heap.size → S i → S' i) : Only S' a b :=
  ⟨h.os, h.tape, h.output, h.size, fun i hi hn => h.block i hi (fun s => hn (hs i hi s))⟩
theorem Only.same {S : Nat → Prop} {a b c : World} (h : Only S a b) (k : Only S b c) : Only S a c := h.trans k (fun _ _ s => s)
theorem Only.idle {S : Nat → Prop} {a b c : World} (h : Only S a b) (k : Only none_ b c) : Only S a c := h.trans k (fun _ _ s => s.elim)
theorem Only.up {S : Nat → Prop} {a b : World} (h : Only none_ a b) : Only S a b := h.more (fun _ _ s => s.elim)
theorem Only.then_ {S : Nat → Prop} {a b c : World} (h : Only none_ a b) (k : Only S b c) : Only S a c := h.up.same k
theorem Only.alloc {S : Nat → Prop} {a w : World} (h : Only S a w) (o : Obj) : Only S a (w.alloc o) :=
  h.trans (S' := none_) ⟨rfl, rfl, rfl, by simp, fun k hk _ => Below.heap_alloc _ _ _ hk⟩ (fun _ _ s => s.elim)
theorem Only.put {S : Nat → Prop} {a w : World} (h : Only S a w) {p : Addr} (hp : p.block < a.heap.size → S p.block) (v : Value) : Only S a (w.setCell p v) :=
  h.trans (S' := fun k => k = p.block) ⟨rfl, rfl, rfl, by simp [World.setCell], fun k _ hn => Below.heap_setCell _ _ _ _ hn⟩ (fun i hi s => by subst s; exact hp hi)
theorem Only.into {S : Nat → Prop} {a w : World} (h : Only S a w) {b : Nat} (hb : S b) (i : Nat) (v : Value) : Only S a (w.setCell ⟨b, i, none⟩ v) := h.put (p := ⟨b, i, none⟩) (fun _ => hb) v
theorem Only.new {S : Nat → Prop} {a w : World} (h : Only S a w) {b : Nat} (hb : a.heap.size ≤ b) (i : Nat) (v : Value) : Only S a (w.setCell ⟨b, i, none⟩ v) := h.put (p := ⟨b, i, none⟩) (fun k => absurd k (by show ¬ b < _; omega)) v
theorem only5 (w : World) (n : Nat) (a b c d e : Value) : Only (fun k => k = n) w (((((w.setCell ⟨n, 0, none⟩ a).setCell ⟨n, 1, none⟩ b).setCell ⟨n, 2, none⟩ c).setCell ⟨n, 3, none⟩ d).setCell ⟨n, 4, none⟩ e) :=
  ((((((Only.refl (fun k => k = n) w).into rfl 0 a).into rfl 1 b).into rfl 2 c).into rfl 3 d).into rfl 4 e)
theorem Only.drew {S : Nat → Prop} {a w : World} (h : Only S a w) : Only S a w.drew := ⟨h.os, h.tape, h.output, h.size, h.block⟩
theorem Only.drewN {S : Nat → Prop} {a w : World} (h : Only S a w) (n : Nat) : Only S a (w.drewN n) := ⟨h.os, h.tape, h.output, h.size, h.block⟩
theorem Only.row {S : Nat → Prop} {a b : World} (h : Only S a b) {g : Nat} {t : TypeId} {cs : Array Value} (k : Row a g t cs) (hn : ¬ S g) : Row b g t cs :=
  (h.block g k.lt hn).trans k
theorem Only.still {a b : World} (h : Only none_ a b) {g : Nat} {t : TypeId} {cs : Array Value} (k : Row a g t cs) : Row b g t cs := h.row k (fun s => s)
theorem Only.below {S : Nat → Prop} {a b : World} (h : Only S a b) {B : Nat} (hB : B ≤ a.heap.size) (hs : ∀ i, i < B → ¬ S i) : Below B a b :=
  ⟨h.os, h.tape, h.output, h.size, fun k hk => h.block k (Nat.lt_of_lt_of_le hk hB) (hs k hk)⟩
theorem Only.of_below {B : Nat} {a b : World} (h : Below B a b) : Only (fun k => B ≤ k) a b :=
  ⟨h.os, h.tape, h.output, h.size, fun k _ hn => h.block k (Nat.lt_of_not_le hn)⟩
theorem below_n {B : Nat} {a w : World} (h : Below B a w) (n : Nat) : Below B a (w.drewN n) := ⟨h.os, h.tape, h.output, h.size, h.block⟩
theorem Only.cell {S : Nat → Prop} {a b : World} (h : Only S a b) {p : Addr} {v : Value} (hc : a.cell? p = some v) (hn : ¬ S p.block) : b.cell? p = some v := by
  rcases Nat.lt_or_ge p.block a.heap.size with k | k
  · rw [World.cell?_of_block (w := a) (h.block p.block k hn)]; exact hc
  · simp [World.cell?, Array.getElem?_eq_none k] at hc
theorem Only.below_to {S : Nat → Prop} {a b c : World} {B : Nat} (h : Below B a b) (k : Only S b c) (hB : B ≤ a.heap.size) (hs : ∀ i, i < B → ¬ S i) : Below B a c :=
  h.trans (k.below (Nat.le_trans hB h.size) hs)

/-- structs one behind the other -/
def flat {α : Type} (c : α → List Value) (l : List α) : Array Value := (l.flatMap c).toArray

theorem flat_drop {α : Type} {c : α → List Value} {k : Nat} (hk : ∀ a, (c a).length = k) : ∀ (l : List α) (i : Nat) (a : α), l[i]? = some a → (l.flatMap c).drop (i * k) = c a ++ (l.drop (i + 1)).flatMap c := by
  intro l
  induction l with
  | nil => intro i a h; simp at h
  | cons x l ih =>
    intro i a h
    cases i with
    | zero =>
      simp at h
      subst h
      simp
    | succ i =>
      simp at h
      have := ih i a h
      rw [List.flatMap_cons, show (i + 1) * k = (c x).length + i * k by rw [hk, Nat.succ_mul, Nat.add_comm], ← List.drop_drop, List.drop_left]
      simpa using this
theorem flat_get {α : Type} {c : α → List Value} {k : Nat} (hk : ∀ a, (c a).length = k) {l : List α} {i : Nat} {a : α} (h : l[i]? = some a) {j : Nat} (hj : j < k) : (flat c l)[i * k + j]? = (c a)[j]? := by
  unfold flat
  rw [List.getElem?_toArray, ← List.getElem?_drop, flat_drop hk l i a h, List.getElem?_append_left (by rw [hk]; exact hj)]
theorem flat_size {α : Type} {c : α → List Value} {k : Nat} (hk : ∀ a, (c a).length = k) (l : List α) : (flat c l).size = l.length * k := by
  unfold flat
  rw [List.size_toArray, List.length_flatMap]
  induction l with
  | nil => simp
  | cons x l ih => simp [hk, Nat.succ_mul, Nat.add_comm] at ih ⊢; omega
theorem flat_set {α : Type} {c : α → List Value} {k : Nat} (hk : ∀ a, (c a).length = k) : ∀ (l : List α) (i : Nat) (a a' : α) (j : Nat) (v : Value), l[i]? = some a → j < k → c a' = (c a).set j v →
    (l.flatMap c).set (i * k + j) v = (l.set i a').flatMap c := by
  intro l
  induction l with
  | nil => intro i a a' j v h; simp at h
  | cons x l ih =>
    intro i a a' j v h hj e
    cases i with
    | zero =>
      simp at h
      subst h
      rw [List.flatMap_cons, show (0 : Nat) * k + j = j by omega, List.set_append_left _ _ (by rw [hk]; exact hj), ← e]
      simp
    | succ i =>
      simp at h
      rw [List.flatMap_cons, List.set_append_right _ _ (by rw [hk, Nat.succ_mul]; omega), hk, show (i + 1) * k + j - k = i * k + j by rw [Nat.succ_mul]; omega, ih i a a' j v h hj e]
      simp
theorem flat_put {α : Type} {c : α → List Value} {k : Nat} (hk : ∀ a, (c a).length = k) {l : List α} {i : Nat} {a a' : α} {j : Nat} {v : Value} (h : l[i]? = some a) (hj : j < k) (e : c a' = (c a).set j v) :
    (flat c l).setIfInBounds (i * k + j) v = flat c (l.set i a') := by
  unfold flat
  rw [List.setIfInBounds_toArray, flat_set hk l i a a' j v h hj e]
theorem flat_made {α : Type} {c : α → List Value} (a : α) {z : Array Value} (hz : z.toList = c a) {k : Nat} (hk : ∀ a, (c a).length = k) (h0 : 0 < k) (n : Nat) : madeCells z (n * k) = flat c (List.replicate n a) := by
  have hs : z.size = k := by rw [← Array.length_toList, hz, hk]
  apply Array.ext
  · rw [size_madeCells, flat_size hk, List.length_replicate]
  · intro i h1 h2
    rw [size_madeCells] at h1
    have hq : i / k < n := (Nat.div_lt_iff_lt_mul h0).2 h1
    have hr : i % k < k := Nat.mod_lt _ h0
    have hg : (List.replicate n a)[i / k]? = some a := by simp [hq]
    have e := flat_get hk hg hr
    rw [show i / k * k + i % k = i by rw [Nat.mul_comm]; exact Nat.div_add_mod i k] at e
    rw [Array.getElem?_eq_getElem h2] at e
    have e2 : (c a)[i % k]? = some (z[i % k]!) := by
      rw [← hz, Array.getElem?_toList, Array.getElem?_eq_getElem (by omega), getElem!_pos z (i % k) (by omega)]
    rw [e2] at e
    injection e with e
    rw [e]
    simp [madeCells, hs]
/-- structs made in a row -/
theorem run_make_flat {α : Type} {P : Program} {c : α → List Value} (a : α) {k : Nat} (hk : ∀ a, (c a).length = k) (h0 : 0 < k) (t e : TypeId) (i : TypeInfo) (z : Value) (ht : P.underlying t = some (.slice e)) (hi : P.info? e = some i) (hz : i.zero = some z) (hs : i.size = k) (hc : z.cells.toList = c a)
    (kl kc : IntKind) (n : Nat) (hb : i.bytes * n ≤ 281474976710656) (h63 : n ≤ 9223372036854775807) (w : World) :
    (Instr.makeSlice t (.int kl (n : Int)) (.int kc (n : Int))).run P w = .ok (.slice (some ⟨w.heap.size, 0, none⟩) n n) (w.alloc (.cells (flat c (List.replicate n a)) e)) := by
  have h := run_make (P := P) w t e i z ht hi hz kl kc n n (by omega) (Int.le_refl _) (by rw [← Int.natCast_mul]; omega) (by omega)
  rw [h]
  simp only [Int.toNat_natCast, hs]
  rw [flat_made a hc hk h0]
theorem get_set {α : Type} {l : List α} {i : Nat} {a a' : α} (h : l[i]? = some a) : (l.set i a')[i]? = some a' := by
  have : i < l.length := by
    rcases Nat.lt_or_ge i l.length with k | k
    · exact k
    · rw [List.getElem?_eq_none k] at h; cases h
  simp [this]
theorem lt_of_get {α : Type} {l : List α} {i : Nat} {a : α} (h : l[i]? = some a) : i < l.length := by
  rcases Nat.lt_or_ge i l.length with k | k
  · exact k
  · rw [List.getElem?_eq_none k] at h; cases h
end Go.Proofs.Ytofmbipedljdkaa

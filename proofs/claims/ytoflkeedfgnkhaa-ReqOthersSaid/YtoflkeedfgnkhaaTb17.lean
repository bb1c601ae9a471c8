/- A table in memory: its requests, each in a block of its own, and the answers that it keeps. -/
import Derived.Test.YtoflkeedfgnkhaaPl17
import Derived.Test.YtoflkeedfgnkhaaMg17
import Derived.Test.YtoflkeedfgnkhaaRl0
import Derived.Laws.Rows
import Derived.Laws.Tables
import Derived.Deep.WholeRow
namespace Go.Proofs.Ytoflkeedfgnkhaa
open Go.RowKit Go.Maps
set_option linter.unusedVariables false
set_option maxRecDepth 100000

/-! ### slices of values, and of answers -/
/-- a slice of uint64s that reads so, and lies in such blocks -/
def VR (w : World) (G : Nat → Prop) (v : Value) (xs : List Int) : Prop := ∃ a cap, v = .slice a xs.length cap ∧ ∀ (i : Nat) (x : Int), xs[i]? = some x → ∃ g o, a = some ⟨g, o, none⟩ ∧ G g ∧ w.cell? ⟨g, o + i, none⟩ = some (.int .u64 x)
theorem VR.keep {w w' : World} {G : Nat → Prop} {v : Value} {xs : List Int} (h : VR w G v xs) {S : Nat → Prop} (o : Only S w w') (hn : ∀ g, G g → ¬ S g) : VR w' G v xs := by
  obtain ⟨a, cap, e, hc⟩ := h
  refine ⟨a, cap, e, fun i x hx => ?_⟩
  obtain ⟨g, o', e', hg, k⟩ := hc i x hx
  exact ⟨g, o', e', hg, o.cell k (hn g hg)⟩
theorem VR.still {w w' : World} {G : Nat → Prop} {v : Value} {xs : List Int} (h : VR w G v xs) (o : Only none_ w w') : VR w' G v xs := h.keep o (fun _ _ s => s)
theorem VR.more {w : World} {G G' : Nat → Prop} {v : Value} {xs : List Int} (h : VR w G v xs) (k : ∀ g, g < w.heap.size → G g → G' g) : VR w G' v xs := by
  obtain ⟨a, cap, e, hc⟩ := h
  refine ⟨a, cap, e, fun i x hx => ?_⟩
  obtain ⟨g, o', e', hg, q⟩ := hc i x hx
  refine ⟨g, o', e', k g ?_ hg, q⟩
  rcases Nat.lt_or_ge g w.heap.size with z | z
  · exact z
  · simp [World.cell?, Array.getElem?_eq_none z] at q
theorem VR.none (w : World) (G : Nat → Prop) : VR w G (.slice Option.none 0 0) [] := ⟨_, 0, rfl, fun i x hx => by simp at hx⟩
/-- an answer as it lies in memory -/
structure Ak where
  id : Int
  code : Int
  v : Value
def Ak.cells (a : Ak) : List Value := [.int .i64 a.id, .int .i64 a.code, a.v]
theorem ak3 (a : Ak) : (Ak.cells a).length = 3 := rfl
/-- .. is this one -/
def AkOk (w : World) (G : Nat → Prop) (a : Ak) (n : An) : Prop := a.id = n.id ∧ a.code = n.code ∧ VR w G a.v n.vs
def KeptAt (w : World) (G : Nat → Prop) (ks : List Ak) (ns : List An) : Prop := ks.length = ns.length ∧ ∀ (i : Nat) (a : Ak) (n : An), ks[i]? = some a → ns[i]? = some n → AkOk w G a n
theorem AkOk.keep {w w' : World} {G : Nat → Prop} {a : Ak} {n : An} (h : AkOk w G a n) {S : Nat → Prop} (o : Only S w w') (hn : ∀ g, G g → ¬ S g) : AkOk w' G a n := ⟨h.1, h.2.1, h.2.2.keep o hn⟩
theorem KeptAt.keep {w w' : World} {G : Nat → Prop} {ks : List Ak} {ns : List An} (h : KeptAt w G ks ns) {S : Nat → Prop} (o : Only S w w') (hn : ∀ g, G g → ¬ S g) : KeptAt w' G ks ns := ⟨h.1, fun i a n h1 h2 => (h.2 i a n h1 h2).keep o hn⟩
theorem KeptAt.more {w : World} {G G' : Nat → Prop} {ks : List Ak} {ns : List An} (h : KeptAt w G ks ns) (k : ∀ g, g < w.heap.size → G g → G' g) : KeptAt w G' ks ns := ⟨h.1, fun i a n h1 h2 => ⟨(h.2 i a n h1 h2).1, (h.2 i a n h1 h2).2.1, (h.2 i a n h1 h2).2.2.more k⟩⟩
theorem KeptAt.nil (w : World) (G : Nat → Prop) : KeptAt w G [] [] := ⟨rfl, fun i a n h => by simp at h⟩
theorem KeptAt.push {w : World} {G : Nat → Prop} {ks : List Ak} {ns : List An} (h : KeptAt w G ks ns) {a : Ak} {n : An} (k : AkOk w G a n) : KeptAt w G (ks ++ [a]) (ns ++ [n]) := by
  refine ⟨by rw [List.length_append, List.length_append, h.1]; rfl, fun i b m h1 h2 => ?_⟩
  rcases Nat.lt_or_ge i ks.length with c | c
  · rw [List.getElem?_append_left c] at h1
    rw [List.getElem?_append_left (by rw [← h.1]; exact c)] at h2
    exact h.2 i b m h1 h2
  · rw [List.getElem?_append_right c] at h1
    rw [List.getElem?_append_right (by rw [← h.1]; exact c), ← h.1] at h2
    cases q : i - ks.length with
    | zero =>
      rw [q] at h1 h2
      simp at h1 h2
      subst h1 h2
      exact k
    | succ j => rw [q] at h1; simp at h1
/-- a slice of answers that reads so -/
def AR (w : World) (G : Nat → Prop) (v : Value) (ns : List An) : Prop := ∃ a cap ks, v = .slice a ns.length cap ∧ KeptAt w G ks ns ∧ ∀ (i : Nat) (k : Ak), ks[i]? = some k → ∃ g o, a = some ⟨g, o, none⟩ ∧ G g ∧ w.cell? ⟨g, o + i * 3, none⟩ = some (.int .i64 k.id) ∧ w.cell? ⟨g, o + i * 3 + 1, none⟩ = some (.int .i64 k.code) ∧ w.cell? ⟨g, o + i * 3 + 2, none⟩ = some k.v
theorem AR.keep {w w' : World} {G : Nat → Prop} {v : Value} {ns : List An} (h : AR w G v ns) {S : Nat → Prop} (o : Only S w w') (hn : ∀ g, G g → ¬ S g) : AR w' G v ns := by
  obtain ⟨a, cap, ks, e, hk, hc⟩ := h
  refine ⟨a, cap, ks, e, hk.keep o hn, fun i x hx => ?_⟩
  obtain ⟨g, o', e', hg, k1, k2, k3⟩ := hc i x hx
  exact ⟨g, o', e', hg, o.cell k1 (hn g hg), o.cell k2 (hn g hg), o.cell k3 (hn g hg)⟩
theorem AR.still {w w' : World} {G : Nat → Prop} {v : Value} {ns : List An} (h : AR w G v ns) (o : Only none_ w w') : AR w' G v ns := h.keep o (fun _ _ s => s)
theorem lt_of_cell {w : World} {p : Addr} {v : Value} (h : w.cell? p = some v) : p.block < w.heap.size := by
  rcases Nat.lt_or_ge p.block w.heap.size with z | z
  · exact z
  · simp [World.cell?, Array.getElem?_eq_none z] at h
theorem AR.more {w : World} {G G' : Nat → Prop} {v : Value} {ns : List An} (h : AR w G v ns) (k : ∀ g, g < w.heap.size → G g → G' g) : AR w G' v ns := by
  obtain ⟨a, cap, ks, e, hk, hc⟩ := h
  refine ⟨a, cap, ks, e, hk.more k, fun i x hx => ?_⟩
  obtain ⟨g, o', e', hg, k1, k2, k3⟩ := hc i x hx
  exact ⟨g, o', e', k g (lt_of_cell k1) hg, k1, k2, k3⟩
theorem AR.none (w : World) (G : Nat → Prop) : AR w G (.slice Option.none 0 0) [] := ⟨_, 0, [], rfl, KeptAt.nil _ _, fun i x hx => by simp at hx⟩
theorem AR.len {w : World} {G : Nat → Prop} {v : Value} {ns : List An} (h : AR w G v ns) : ∃ a cap, v = .slice a ns.length cap := by
  obtain ⟨a, cap, ks, e, _⟩ := h
  exact ⟨a, cap, e⟩
abbrev OwnsAk (w : World) (base : Nat) (v : Value) (ks : List Ak) : Prop := Owns w base 49 3 Ak.cells v ks
theorem AR.of_owns {w : World} {base : Nat} {G : Nat → Prop} {v : Value} {ks : List Ak} {ns : List An} (h : OwnsAk w base v ks) (k : KeptAt w G ks ns) (hv : ∀ g, v.ownBlock = some g → G g) : AR w G v ns := by
  rcases h.2 with ⟨e, h2⟩ | ⟨g, cap, cur, e, hg, hh, h3, h4, _⟩
  · have : ks = [] := List.eq_nil_of_length_eq_zero h2
    subst this
    have : ns = [] := List.eq_nil_of_length_eq_zero k.1.symm
    subst this
    rw [e]
    exact AR.none _ _
  · refine ⟨_, cap, ks, by rw [e, k.1], k, fun i x hx => ⟨g, 0, rfl, hv g (by rw [e]; rfl), ?_, ?_, ?_⟩⟩
    · have := Owns.cell (by rw [← e]; exact h) ak3 hx (j := 0) (by decide)
      rw [Nat.zero_add]
      exact this
    · have := Owns.cell (by rw [← e]; exact h) ak3 hx (j := 1) (by decide)
      rw [Nat.zero_add]
      exact this
    · have := Owns.cell (by rw [← e]; exact h) ak3 hx (j := 2) (by decide)
      rw [Nat.zero_add]
      exact this

/-! ### arrays of eight -/
def b8 (f : Nat → Bool) : Array Value := #[.bool (f 0), .bool (f 1), .bool (f 2), .bool (f 3), .bool (f 4), .bool (f 5), .bool (f 6), .bool (f 7)]
theorem lt8 {k : Nat} (h : k < 8) : k = 0 ∨ k = 1 ∨ k = 2 ∨ k = 3 ∨ k = 4 ∨ k = 5 ∨ k = 6 ∨ k = 7 := by omega
theorem b8_put (f : Nat → Bool) {k : Nat} (h : k < 8) : (b8 f).setIfInBounds k (.bool true) = b8 (fun j => f j || (j == k)) := by
  rcases lt8 h with rfl | rfl | rfl | rfl | rfl | rfl | rfl | rfl <;> simp [b8]
theorem b8_same {f g : Nat → Bool} (h : ∀ k, k < 8 → f k = g k) : b8 f = b8 g := by
  unfold b8
  rw [h 0 (by omega), h 1 (by omega), h 2 (by omega), h 3 (by omega), h 4 (by omega), h 5 (by omega), h 6 (by omega), h 7 (by omega)]
theorem b8_one (f : Nat → Bool) : (b8 f).all (·.oneCell') = true := by simp [b8]; exact ⟨rfl, rfl, rfl, rfl, rfl, rfl, rfl, rfl⟩
theorem info_pl : (Try.prog.info? 73).map (fun i => (i.zero, i.size)) = some (some (.agg (b8 (fun _ => false))), 8) := by kernel_rfl
theorem zero_pl (w : World) : (zeroValue 73).run Try.prog w = .ok (.agg (b8 (fun _ => false))) w := (zero_of_info info_pl).1 w
theorem size_pl (f : Nat → Bool) : (Try.prog.info? 73).map (·.size) = some (b8 f).size := (zero_of_info info_pl).2
theorem info_bool : (Try.prog.info? 4).map (fun i => (i.zero, i.size, i.bytes)) = some (some (.bool false), 1, 1) := by kernel_rfl
theorem run_eq_bool (d : Nat) (t : TypeId) (a b : Bool) (ht : Try.prog.underlying t = some .bool) (w : World) : (Op.equalIn (d + 1) t (.bool a) (.bool b)).run Try.prog w = .ok (a == b) w := by
  simp [Op.equalIn, run_underlying ht]
theorem run_part_bool (xs : Array Value) (i : Nat) (a : Bool) (h : xs[i]? = some (.bool a)) (w : World) : (part 4 xs i).run Try.prog w = .ok (.bool a) w := by
  unfold part
  simp [h]
def eq8 (f g : Nat → Bool) : Bool := f 0 == g 0 && (f 1 == g 1 && (f 2 == g 2 && (f 3 == g 3 && (f 4 == g 4 && (f 5 == g 5 && (f 6 == g 6 && f 7 == g 7))))))
theorem run_eq_arr8 (d : Nat) (f g : Nat → Bool) (w : World) : (Op.equalIn (d + 2) 73 (.agg (b8 f)) (.agg (b8 g))).run Try.prog w = .ok (eq8 f g) w := by
  obtain ⟨i0, hi, hz0, hz1, hz2⟩ := info_parts info_bool
  have pa := fun i v h w => run_part_bool (b8 f) i v h w
  have pb := fun i v h w => run_part_bool (b8 g) i v h w
  have e := fun a b w => run_eq_bool d 4 a b Try.underlying4 w
  unfold Op.equalIn eq8
  simp only [Sem.run_bind, run_underlying Try.underlying73]
  simp [sizeOf, typeInfo, hi, hz1, List.range', pa 0 _ rfl, pa 1 _ rfl, pa 2 _ rfl, pa 3 _ rfl, pa 4 _ rfl, pa 5 _ rfl, pa 6 _ rfl, pa 7 _ rfl, pb 0 _ rfl, pb 1 _ rfl, pb 2 _ rfl, pb 3 _ rfl, pb 4 _ rfl, pb 5 _ rfl, pb 6 _ rfl, pb 7 _ rfl, e]
  by_cases h0 : f 0 = g 0
  case neg => simp [h0]
  by_cases h1 : f 1 = g 1
  case neg => simp [h0, h1]
  by_cases h2 : f 2 = g 2
  case neg => simp [h0, h1, h2]
  by_cases h3 : f 3 = g 3
  case neg => simp [h0, h1, h2, h3]
  by_cases h4 : f 4 = g 4
  case neg => simp [h0, h1, h2, h3, h4]
  by_cases h5 : f 5 = g 5
  case neg => simp [h0, h1, h2, h3, h4, h5]
  by_cases h6 : f 6 = g 6
  case neg => simp [h0, h1, h2, h3, h4, h5, h6]
  by_cases h7 : f 7 = g 7
  case neg => simp [h0, h1, h2, h3, h4, h5, h6, h7]
  simp [h0, h1, h2, h3, h4, h5, h6, h7]
theorem run_eql_arr8 (f g : Nat → Bool) (w : World) : (binOp .eql 73 (.agg (b8 f)) (.agg (b8 g))).run Try.prog w = .ok (.bool (eq8 f g)) w := by
  simp only [binOp]
  simp [Op.equal, Op.maxDepth, run_eq_arr8 9998]
theorem run_neq_arr8 (f g : Nat → Bool) (w : World) : (binOp .neq 73 (.agg (b8 f)) (.agg (b8 g))).run Try.prog w = .ok (.bool (!eq8 f g)) w := by
  simp only [binOp]
  simp [Op.equal, Op.maxDepth, run_eq_arr8 9998]

/-! ### a request -/
def rqC (k n : Int) (f : Nat → Bool) (l : Bool) (g : Nat → Int) : Array Value :=
  #[.int .i64 k, .int .i64 n, .bool (f 0), .bool (f 1), .bool (f 2), .bool (f 3), .bool (f 4), .bool (f 5), .bool (f 6), .bool (f 7), .bool l,
    .int .u64 (g 0), .int .u64 (g 1), .int .u64 (g 2), .int .u64 (g 3), .int .u64 (g 4), .int .u64 (g 5), .int .u64 (g 6), .int .u64 (g 7)]
def Rq.cells (r : Rq) : Array Value := rqC r.kind r.pl.length (opQ r) (lostQ r) (vlQ r)
theorem rqC_op (k n : Int) (f : Nat → Bool) (l : Bool) (g : Nat → Int) {j : Nat} (h : j < 8) : (rqC k n f l g)[2 + j]? = some (.bool (f j)) := by
  rcases lt8 h with rfl | rfl | rfl | rfl | rfl | rfl | rfl | rfl <;> rfl
theorem rqC_vl (k n : Int) (f : Nat → Bool) (l : Bool) (g : Nat → Int) {j : Nat} (h : j < 8) : (rqC k n f l g)[11 + j]? = some (.int .u64 (g j)) := by
  rcases lt8 h with rfl | rfl | rfl | rfl | rfl | rfl | rfl | rfl <;> rfl
theorem rqC_shut (k n : Int) (f : Nat → Bool) (l : Bool) (g : Nat → Int) {j : Nat} (h : j < 8) : (rqC k n f l g).setIfInBounds (2 + j) (.bool false) = rqC k n (fun i => f i && !(i == j)) l g := by
  rcases lt8 h with rfl | rfl | rfl | rfl | rfl | rfl | rfl | rfl <;> simp [rqC]
theorem rqC_set (k n : Int) (f : Nat → Bool) (l : Bool) (g : Nat → Int) (v : Int) {j : Nat} (h : j < 8) : (rqC k n f l g).setIfInBounds (11 + j) (.int .u64 v) = rqC k n f l (fun i => if i = j then v else g i) := by
  rcases lt8 h with rfl | rfl | rfl | rfl | rfl | rfl | rfl | rfl <;> simp [rqC]
theorem rqC_lose (k n : Int) (f : Nat → Bool) (l : Bool) (g : Nat → Int) : (rqC k n f l g).setIfInBounds 10 (.bool true) = rqC k n f true g := by simp [rqC]
theorem rqC_same {k n : Int} {f f' : Nat → Bool} {l l' : Bool} {g g' : Nat → Int} (hf : ∀ j, f j = f' j) (hl : l = l') (hg : ∀ j, g j = g' j) : rqC k n f l g = rqC k n f' l' g' := by
  rw [show f = f' from funext hf, show g = g' from funext hg, hl]
theorem cells_give {r : Rq} (h : FineQ r) {p : Nat} {v : Int} (h0 : r.pl[p]? = some 0) : (r.cells.setIfInBounds (2 + p) (.bool false)).setIfInBounds (11 + p) (.int .u64 v) = (mark p 1 v r).cells := by
  have hp := lt_of_get h0
  have := h.n8
  unfold Rq.cells
  rw [rqC_shut _ _ _ _ _ (by omega), rqC_set _ _ _ _ _ _ (by omega)]
  rw [show (mark p 1 v r).kind = r.kind from rfl, show (mark p 1 v r).pl.length = r.pl.length from List.length_set]
  exact rqC_same (fun j => (op_mark hp (by decide) j).symm) (lost_one h0).symm (fun j => (vl_mark (by rw [h.vl]; exact hp) j).symm)
theorem cells_lose {r : Rq} (h : FineQ r) {p : Nat} (h0 : r.pl[p]? = some 0) : (r.cells.setIfInBounds (2 + p) (.bool false)).setIfInBounds 10 (.bool true) = (mark p 2 0 r).cells := by
  have hp := lt_of_get h0
  have := h.n8
  unfold Rq.cells
  rw [rqC_shut _ _ _ _ _ (by omega), rqC_lose]
  rw [show (mark p 2 0 r).kind = r.kind from rfl, show (mark p 2 0 r).pl.length = r.pl.length from List.length_set]
  refine rqC_same (fun j => (op_mark hp (by decide) j).symm) (lost_two hp).symm (fun j => ?_)
  rw [vl_mark (by rw [h.vl]; exact hp) j]
  split
  · rename_i e
    subst e
    unfold vlQ
    rw [List.getD_eq_getElem?_getD, h.zero _ h0]
    rfl
  · rfl

/-! ### a table -/
structure Loc17 where
  b : Nat
  A : Int → Nat
  v : Value
  ks : List Ak
def ptr17 (g : Nat) : Value := .pointer (some ⟨g, 0, none⟩)
def ent17 (A : Int → Nat) (r : Rq) : Ent := (r.id, ptr17 (A r.id))
/-- a table at block p whose map has es, and whose requests that are looked at are those of t; c tells the blocks of each part (1 its own row, 2 the map, 3 the answers' row, 4 the answers' values, 10 and more the requests) -/
structure TB (w : World) (p : Nat) (c : Nat → Nat) (X : Loc17) (room L : Nat) (es : List Ent) (t : Tq) : Prop where
  row : Row w p 59 #[.int .i64 room, .map (some X.b), X.v]
  cp : c p = 1
  mp : Mg w X.b es
  cb : c X.b = 2
  own : OwnsAk w 0 X.v X.ks
  co : ∀ g, X.v.ownBlock = some g → c g = 3
  kept : KeptAt w (fun g => c g = 4) X.ks t.kept
  rq : ∀ r ∈ t.rs, Row w (X.A r.id) 75 r.cells ∧ c (X.A r.id) = 10 + r.id.toNat
  lt : ∀ g, c g ≠ 0 → g < w.heap.size
  good : GoodQ room t.rs
  kl : t.kept.length ≤ L
/-- its map has just its requests -/
abbrev TW (w : World) (p : Nat) (c : Nat → Nat) (X : Loc17) (room L : Nat) (t : Tq) : Prop := TB w p c X room L (t.rs.map (ent17 X.A)) t
section
variable {w w' : World} {p : Nat} {c : Nat → Nat} {X : Loc17} {room L : Nat} {es : List Ent} {t : Tq}
theorem TB.keep (h : TB w p c X room L es t) {S : Nat → Prop} (o : Only S w w') (hn : ∀ g, c g ≠ 0 → ¬ S g) : TB w' p c X room L es t where
  row := o.row h.row (hn p (by rw [h.cp]; decide))
  cp := h.cp
  mp := h.mp.keep o (hn _ (by rw [h.cb]; decide))
  cb := h.cb
  own := h.own.keep o (fun g hg => hn g (by rw [h.co g hg]; decide))
  co := h.co
  kept := h.kept.keep o (fun g hg => hn g (by have : c g = 4 := hg; rw [this]; decide))
  rq := fun r hr => ⟨o.row (h.rq r hr).1 (hn _ (by rw [(h.rq r hr).2]; omega)), (h.rq r hr).2⟩
  lt := fun g hg => Nat.lt_of_lt_of_le (h.lt g hg) o.size
  good := h.good
  kl := h.kl
theorem TB.still (h : TB w p c X room L es t) (o : Only none_ w w') : TB w' p c X room L es t := h.keep o (fun _ _ s => s)
theorem TB.up (h : TB w p c X room L es t) {L' : Nat} (k : L ≤ L') : TB w p c X room L' es t := { h with kl := Nat.le_trans h.kl k }
theorem TB.zero (h : TB w p c X room L es t) {g : Nat} (hg : w.heap.size ≤ g) : c g = 0 := Classical.byContradiction fun q => by have := h.lt g q; omega
/-- what is coloured is what was, or new -/
def Gw (w : World) (c c' : Nat → Nat) : Prop := ∀ g, c' g ≠ 0 → c g ≠ 0 ∨ w.heap.size ≤ g
theorem Gw.refl (w : World) (c : Nat → Nat) : Gw w c c := fun _ h => .inl h
theorem Gw.trans {c' c'' : Nat → Nat} (h : Gw w c c') (k : Gw w' c' c'') (s : w.heap.size ≤ w'.heap.size) : Gw w c c'' := fun g hg => by
  rcases k g hg with q | q
  · exact h g q
  · exact .inr (by omega)
/-- behind a call -/
def TWto (w : World) (p : Nat) (c : Nat → Nat) (room L : Nat) (t : Tq) (w' : World) : Prop := (∃ c' X', TW w' p c' X' room L t ∧ Gw w c c') ∧ Only (fun g => c g ≠ 0) w w'
/-- fewer requests are looked at -/
theorem TB.less (h : TB w p c X room L es t) (x : Int) : TB w p c X room L es ⟨cutQ t.rs x, t.kept⟩ :=
  { row := h.row, cp := h.cp, mp := h.mp, cb := h.cb, own := h.own, co := h.co, kept := h.kept, rq := fun r hr => h.rq r (List.mem_filter.1 hr).1, lt := h.lt, good := h.good.cut x, kl := h.kl }
theorem TB.mapped (h : TB w p c X room L es t) {es' : List Ent} (m : Mg w' X.b es') (o : Only (fun k => k = X.b) w w') : TB w' p c X room L es' t := by
  have hn : ∀ g, c g ≠ 2 → ¬ g = X.b := fun g hg q => hg (by rw [q]; exact h.cb)
  exact { row := o.row h.row (hn p (by rw [h.cp]; decide)), cp := h.cp, mp := m, cb := h.cb, own := h.own.keep o (fun g hg => hn g (by rw [h.co g hg]; decide)), co := h.co, kept := h.kept.keep o (fun g hg => hn g (by have : c g = 4 := hg; rw [this]; decide)),
          rq := fun r hr => ⟨o.row (h.rq r hr).1 (hn _ (by rw [(h.rq r hr).2]; omega)), (h.rq r hr).2⟩, lt := fun g hg => Nat.lt_of_lt_of_le (h.lt g hg) o.size, good := h.good, kl := h.kl }
/-- a request that isn't looked at has turned -/
theorem TB.other (h : TB w p c X room L es t) {a : Nat} {x : Int} (ha : c a = 10 + x.toNat) (x1 : 1 ≤ x) (hx : ∀ r ∈ t.rs, r.id ≠ x) (o : Only (fun k => k = a) w w') : TB w' p c X room L es t := by
  have hn : ∀ g, c g ≠ 10 + x.toNat → ¬ g = a := fun g hg q => hg (by rw [q]; exact ha)
  exact { row := o.row h.row (hn p (by rw [h.cp]; omega)), cp := h.cp, mp := h.mp.keep o (hn _ (by rw [h.cb]; omega)), cb := h.cb, own := h.own.keep o (fun g hg => hn g (by rw [h.co g hg]; omega)), co := h.co, kept := h.kept.keep o (fun g hg => hn g (by have : c g = 4 := hg; rw [this]; omega)),
          rq := fun r hr => ⟨o.row (h.rq r hr).1 (hn _ (by have := hx r hr; have := (h.good.fine r hr).id1; rw [(h.rq r hr).2]; omega)), (h.rq r hr).2⟩, lt := fun g hg => Nat.lt_of_lt_of_le (h.lt g hg) o.size, good := h.good, kl := h.kl }
/-- a request's row is another one -/
theorem TB.tick (h : TB w p c X room L es t) {r : Rq} (hr : r ∈ t.rs) {q a : Nat} {v : Int} (ha : a = 1 ∨ a = 2) (hd : doneQ (mark q a v r) = false) (k : Row w' (X.A r.id) 75 (mark q a v r).cells) (o : Only (fun k => k = X.A r.id) w w') :
    TB w' p c X room L es ⟨updQ t.rs r.id (mark q a v), t.kept⟩ := by
  have hc := (h.rq r hr).2
  have hn : ∀ g, c g ≠ 10 + r.id.toNat → ¬ g = X.A r.id := fun g hg q => hg (by rw [q]; exact hc)
  refine { row := o.row h.row (hn p (by rw [h.cp]; omega)), cp := h.cp, mp := h.mp.keep o (hn _ (by rw [h.cb]; omega)), cb := h.cb, own := h.own.keep o (fun g hg => hn g (by rw [h.co g hg]; omega)), co := h.co, kept := h.kept.keep o (fun g hg => hn g (by have : c g = 4 := hg; rw [this]; omega)),
           rq := fun s hs => ?_, lt := fun g hg => Nat.lt_of_lt_of_le (h.lt g hg) o.size, good := h.good.upd hr ha hd, kl := h.kl }
  obtain ⟨u, hu, rfl⟩ := updQ_mem hs
  have ei : (if u.id = r.id then mark q a v u else u).id = u.id := by split <;> rfl
  rw [ei]
  refine ⟨?_, (h.rq u hu).2⟩
  by_cases e : u.id = r.id
  · have : u = r := h.good.once.inj hu hr e
    rw [if_pos e, this]
    exact k
  · rw [if_neg e]
    refine o.row (h.rq u hu).1 (hn _ ?_)
    have := (h.good.fine u hu).id1
    have := (h.good.fine r hr).id1
    rw [(h.rq u hu).2]
    omega
theorem ent_upd (A : Int → Nat) (rs : List Rq) (x : Int) (f : Rq → Rq) (hf : ∀ s, (f s).id = s.id) : (updQ rs x f).map (ent17 A) = rs.map (ent17 A) := updQ_ids hf (fun i => ((i, ptr17 (A i)) : Ent))
theorem ent_cut (A : Int → Nat) (rs : List Rq) (x : Int) : cutV (rs.map (ent17 A)) x = (cutQ rs x).map (ent17 A) := by
  unfold cutV cutQ
  rw [List.filter_map]
  rfl
/-- one request's pointer, out of the map -/
theorem TB.look (h : TW w p c X room L t) {x : Int} (wx : (Lit.int .i64 x).wf = true) :
    (Instr.lookup 57 (.map (some X.b)) (.int .i64 x) false).run Try.prog w = .ok (match findQ t.rs x with | none => .pointer none | some r => ptr17 (X.A r.id)) w := by
  have k := h.mp.look Try.underlying57 (z := .pointer none) (by kernel_rfl) wx
  rw [k]
  congr 1
  cases q : findQ t.rs x with
  | none =>
    refine atV_no ?_
    cases e : hasV (t.rs.map (ent17 X.A)) x with
    | false => rfl
    | true =>
      obtain ⟨s, hs, e⟩ := hasV_iff.1 e
      obtain ⟨r, hr, rfl⟩ := List.mem_map.1 hs
      have := find_none q
      rw [hasQ_iff.2 ⟨r, hr, e⟩] at this
      cases this
  | some r =>
    obtain ⟨hr, rfl, _⟩ := find_some q
    have := atV_of (z := .pointer none) h.mp.1 (List.mem_map.2 ⟨r, hr, rfl⟩ : ent17 X.A r ∈ t.rs.map (ent17 X.A))
    exact this
theorem TB.len (h : TW w p c X room L t) (ty : TypeId) : (Builtin.len_ #[57] ty #[.map (some X.b)]).run Try.prog w = .ok (.int .i64 t.rs.length) w := by
  have := h.mp.len Try.underlying57 ty
  rwa [List.length_map] at this
theorem TB.has (h : TW w p c X room L t) {x : Int} : hasV (t.rs.map (ent17 X.A)) x = hasQ t.rs x := by
  unfold hasV hasQ
  rw [List.any_map]
  rfl
end
end Go.Proofs.Ytoflkeedfgnkhaa

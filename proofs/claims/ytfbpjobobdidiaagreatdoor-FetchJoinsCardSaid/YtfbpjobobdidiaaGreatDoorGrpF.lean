/- Texts of the layers below, side by side. -/
import Init
import Derived.Test.YtfbpjobobdidiaaGreatDoorGrpA
import Derived.BigRegion
import Derived.BigQuiet
import Derived.OpenShut
import Derived.Lib.SmallJoins
import Derived.Maps.RangeWalk
import Derived.Maps.OwnSet
import Derived.Maps.OwnOps
import Derived.Maps.OwnIn
import Derived.DeepKeys4
import Derived.RangeFuncNested
import Derived.RangeFuncBound
import Derived.RangeFuncCalls
import Derived.RangeFuncLeaves
import Derived.Shelf.Abstract
import Derived.Shelf.RegionOpen
import Derived.WalkKit
import Derived.OwnWalkIn
import Derived.TacticsInMore
import Derived.LoopNIn
import Derived.LoopIn
import Derived.RegionIn
import Derived.Sort.MapsRangeIn
import Derived.Sort.AssemblyPlain
import Derived.Sort.WalkA
import Derived.Sort.WalkB2
import Derived.Sort.WalkC4
import Derived.Sort.WalkA6
import Derived.Shelf.Small.Wraps
/- Plain facts of a register: who waits for what. -/
namespace Go.Proofs.YtfbpjobobdidiaaGreatDoor

structure Wt where
  r : Int
  p : Int
  deriving DecidableEq
instance : Inhabited Wt := ⟨⟨0, 0⟩⟩
structure Sx where
  t : Int
  w : Wt
  deriving DecidableEq
instance : Inhabited Sx := ⟨⟨0, ⟨0, 0⟩⟩⟩
theorem sxtake {α : Type} {xs : List α} {k : Nat} {x : α} (h : xs[k]? = some x) : xs.take (k + 1) = xs.take k ++ [x] := by
  rw [List.take_add_one, h]; rfl

def waitsB (ss : List Sx) (w : Wt) : Bool := ss.any (fun s => decide (s.w = w))
theorem waits_more (l : List Sx) (s : Sx) (w : Wt) : waitsB (l ++ [s]) w = (waitsB l w || decide (s.w = w)) := by unfold waitsB; simp
theorem waits_yes {ss : List Sx} {k : Nat} {s : Sx} {w : Wt} (h : ss[k]? = some s) (e : s.w = w) : waitsB ss w = true := by
  unfold waitsB
  rw [List.any_eq_true]
  exact ⟨s, List.mem_of_getElem? h, decide_eq_true e⟩
def ofL (ss : List Sx) (t : Int) : List Wt := (ss.filter (fun s => decide (s.t = t))).map Sx.w
theorem of_yes {l : List Sx} {s : Sx} {t : Int} (e : s.t = t) : ofL (l ++ [s]) t = ofL l t ++ [s.w] := by unfold ofL; simp [e]
theorem of_no {l : List Sx} {s : Sx} {t : Int} (e : s.t ≠ t) : ofL (l ++ [s]) t = ofL l t := by unfold ofL; simp [e]
theorem of_le (ss : List Sx) (t : Int) : (ofL ss t).length ≤ ss.length := by
  unfold ofL
  rw [List.length_map]
  exact List.length_filter_le _ _
def leftT (ss : List Sx) (t : Int) : List Sx := ss.filter (fun s => decide (s.t ≠ t))
theorem leftT_yes {l : List Sx} {s : Sx} {t : Int} (e : s.t ≠ t) : leftT (l ++ [s]) t = leftT l t ++ [s] := by unfold leftT; simp [e]
theorem leftT_no {l : List Sx} {s : Sx} {t : Int} (e : s.t = t) : leftT (l ++ [s]) t = leftT l t := by unfold leftT; simp [e]
theorem leftT_le (ss : List Sx) (t : Int) : (leftT ss t).length ≤ ss.length := List.length_filter_le _ _
def leftR (ss : List Sx) (r : Int) : List Sx := ss.filter (fun s => decide (s.w.r ≠ r))
theorem leftR_yes {l : List Sx} {s : Sx} {r : Int} (e : s.w.r ≠ r) : leftR (l ++ [s]) r = leftR l r ++ [s] := by unfold leftR; simp [e]
theorem leftR_no {l : List Sx} {s : Sx} {r : Int} (e : s.w.r = r) : leftR (l ++ [s]) r = leftR l r := by unfold leftR; simp [e]
theorem leftR_le (ss : List Sx) (r : Int) : (leftR ss r).length ≤ ss.length := List.length_filter_le _ _

/-- a rising list with a number more -/
def putI : List Int → Int → List Int
  | [], n => [n]
  | x :: l, n => if x < n then x :: putI l n else if x = n then x :: l else n :: x :: l
theorem put_at (n : Int) : ∀ (l : List Int) (k : Nat), k ≤ l.length → (∀ j x, j < k → l[j]? = some x → x < n) → (∀ x, l[k]? = some x → n ≤ x) →
    putI l n = if l[k]? = some n then l else l.take k ++ n :: l.drop k := by
  intro l
  induction l with
  | nil => intro k hk h1 h2; simp [putI]
  | cons x l ih =>
    intro k hk h1 h2
    cases k with
    | zero =>
      have hx := h2 x rfl
      show (if x < n then _ else _) = _
      rw [if_neg (by omega)]
      by_cases e : x = n
      · subst e; rw [if_pos rfl]; simp
      · rw [if_neg e, if_neg (fun q => e (by simpa using q))]; rfl
    | succ k =>
      have hx := h1 0 x (by omega) rfl
      show (if x < n then _ else _) = _
      rw [if_pos hx, ih k (by simp at hk; omega) (fun j y hj hy => h1 (j + 1) y (by omega) hy) (fun y hy => h2 y hy)]
      by_cases e : l[k]? = some n
      · rw [if_pos e, if_pos (by simpa using e)]
      · rw [if_neg e, if_neg (by simpa using e)]; rfl
theorem put_there {n : Int} {l : List Int} {k : Nat} (hk : k ≤ l.length) (h1 : ∀ j x, j < k → l[j]? = some x → x < n) (h2 : l[k]? = some n) : putI l n = l := by
  rw [put_at n l k hk h1 (fun x hx => by rw [h2] at hx; injection hx with hx; omega), if_pos h2]
theorem put_new {n : Int} {l : List Int} {k : Nat} (hk : k ≤ l.length) (h1 : ∀ j x, j < k → l[j]? = some x → x < n) (h2 : ∀ x, l[k]? = some x → n < x) : putI l n = l.take k ++ n :: l.drop k := by
  rw [put_at n l k hk h1 (fun x hx => by have := h2 x hx; omega), if_neg (fun q => by have := h2 n q; omega)]
theorem put_le (l : List Int) (n : Int) : (putI l n).length ≤ l.length + 1 := by
  induction l with
  | nil => simp [putI]
  | cons x l ih =>
    show (if x < n then x :: putI l n else if x = n then x :: l else n :: x :: l).length ≤ _
    split
    · simp only [List.length_cons]; omega
    · split <;> simp
/-- the tickets that a request's waiters wait for -/
def quitI (ss : List Sx) (r : Int) : List Int := (ss.filter (fun s => decide (s.w.r = r))).foldl (fun l s => putI l s.t) []
theorem quit_yes {l : List Sx} {s : Sx} {r : Int} (e : s.w.r = r) : quitI (l ++ [s]) r = putI (quitI l r) s.t := by unfold quitI; simp [e]
theorem quit_no {l : List Sx} {s : Sx} {r : Int} (e : s.w.r ≠ r) : quitI (l ++ [s]) r = quitI l r := by unfold quitI; simp [e]
theorem fold_le (l : List Sx) : ∀ m : List Int, (l.foldl (fun l s => putI l s.t) m).length ≤ m.length + l.length := by
  induction l with
  | nil => intro m; simp
  | cons s l ih =>
    intro m
    have h1 := ih (putI m s.t)
    have h2 := put_le m s.t
    rw [List.foldl_cons, List.length_cons]
    omega
theorem quit_le (ss : List Sx) (r : Int) : (quitI ss r).length ≤ ss.length := by
  have h1 := fold_le (ss.filter (fun s => decide (s.w.r = r))) []
  have h2 := List.length_filter_le (fun s => decide (s.w.r = r)) ss
  unfold quitI
  simp only [List.length_nil] at h1
  omega

/-- may it be -/
def mayW (t : Int) (w : Wt) : Prop := 1 ≤ t ∧ 1 ≤ w.r ∧ 0 ≤ w.p ∧ w.p ≤ 7
instance (t : Int) (w : Wt) : Decidable (mayW t w) := by unfold mayW; infer_instance
def addI (room : Nat) (ss : List Sx) (t : Int) (w : Wt) : Int := if mayW t w then if waitsB ss w then 4 else if room ≤ ss.length then 2 else 0 else 1
def addS (room : Nat) (ss : List Sx) (t : Int) (w : Wt) : List Sx := if addI room ss t w = 0 then ss ++ [⟨t, w⟩] else ss
end Go.Proofs.YtfbpjobobdidiaaGreatDoor


/- Plain facts of a register's seats: what holds of all of them, and what the laws of layer 14 ask. -/
namespace Go.Proofs.YtfbpjobobdidiaaGreatDoor

/-- what holds of every register's seats -/
structure GoodR (room : Nat) (ss : List Sx) : Prop where
  low : 1 ≤ room
  high : room ≤ 64
  len : ss.length ≤ room
  once : (ss.map Sx.w).Nodup
  may : ∀ s ∈ ss, mayW s.t s.w
theorem good_add {room : Nat} {ss : List Sx} (h : GoodR room ss) (t : Int) (x : Wt) : GoodR room (addS room ss t x) := by
  unfold addS
  by_cases k : addI room ss t x = 0
  · rw [if_pos k]
    unfold addI at k
    by_cases m : mayW t x
    · rw [if_pos m] at k
      by_cases a : waitsB ss x = true
      · rw [if_pos a] at k; cases k
      · rw [if_neg a] at k
        by_cases b : room ≤ ss.length
        · rw [if_pos b] at k; cases k
        · refine ⟨h.low, h.high, by rw [List.length_append, List.length_singleton]; omega, ?_, ?_⟩
          · rw [List.map_append, List.map_singleton, List.nodup_append]
            refine ⟨h.once, by simp, ?_⟩
            intro y hy z hz e
            rw [List.mem_singleton] at hz
            subst hz e
            obtain ⟨s, hs, e2⟩ := List.mem_map.1 hy
            apply a
            unfold waitsB
            rw [List.any_eq_true]
            exact ⟨s, hs, decide_eq_true e2⟩
          · intro s hs
            rw [List.mem_append, List.mem_singleton] at hs
            rcases hs with hs | rfl
            · exact h.may s hs
            · exact m
    · rw [if_neg m] at k; cases k
  · rw [if_neg k]; exact h
theorem good_filter {room : Nat} {ss : List Sx} (h : GoodR room ss) (f : Sx → Bool) : GoodR room (ss.filter f) :=
  ⟨h.low, h.high, Nat.le_trans (List.length_filter_le _ _) h.len, (List.Sublist.map _ List.filter_sublist).nodup h.once, fun s hs => h.may s (List.mem_filter.1 hs).1⟩
theorem good_nil {room : Nat} (h1 : 1 ≤ room) (h2 : room ≤ 64) : GoodR room [] := ⟨h1, h2, Nat.zero_le _, by simp, fun s hs => by cases hs⟩
end Go.Proofs.YtfbpjobobdidiaaGreatDoor


/- The document's own register: in memory; New, who waits, who waits for a ticket. -/
namespace Go.Proofs.YtfbpjobobdidiaaGreatDoor
open Go.RowKit
set_option linter.unusedVariables false
set_option maxRecDepth 100000

def Wt.val (w : Wt) : Value := .agg #[.int .i64 w.r, .int .i64 w.p]
def Wt.cells (w : Wt) : List Value := [.int .i64 w.r, .int .i64 w.p]
def Sx.cells (s : Sx) : List Value := [.int .i64 s.t, .int .i64 s.w.r, .int .i64 s.w.p]
theorem wt2 (w : Wt) : (Wt.cells w).length = 2 := rfl
theorem sx3 (s : Sx) : (Sx.cells s).length = 3 := rfl
theorem wt_one : ∀ y : Wt, ∀ u ∈ Wt.cells y, u.oneCell' = true := by
  intro y u hu
  simp only [Wt.cells, List.mem_cons, List.not_mem_nil, or_false] at hu
  rcases hu with rfl | rfl <;> rfl
theorem sx_one : ∀ y : Sx, ∀ u ∈ Sx.cells y, u.oneCell' = true := by
  intro y u hu
  simp only [Sx.cells, List.mem_cons, List.not_mem_nil, or_false] at hu
  rcases hu with rfl | rfl | rfl <;> rfl
theorem info_wt : (Tryz.prog.info? 36).map (fun i => (i.zero, i.size, i.bytes)) = some (some (.agg #[.int .i64 0, .int .i64 0]), 2, 16) := by kernel_rfl
theorem info_sx : (Tryz.prog.info? 158).map (fun i => (i.zero, i.size, i.bytes)) = some (some (.agg #[.int .i64 0, .int .i64 0, .int .i64 0]), 3, 24) := by kernel_rfl
theorem Owns.lower14 {α : Type} {w : World} {base base' : Nat} {e : TypeId} {k : Nat} {c : α → List Value} {v : Value} {xs : List α} (h : Owns w base e k c v xs) (hb : base' ≤ base) : Owns w base' e k c v xs := by
  refine ⟨h.1, ?_⟩
  rcases h.2 with h2 | ⟨g, cap, cur, hv, hg, r⟩
  · exact .inl h2
  · exact .inr ⟨g, cap, cur, hv, Nat.le_trans hb hg, r⟩

/-- a slice of waiters of the call's own -/
abbrev OwnsWt (w : World) (base : Nat) (v : Value) (xs : List Wt) : Prop := Owns w base 36 2 Wt.cells v xs
/-- a slice that reads as these waiters -/
def ReadsW (w : World) (v : Value) (xs : List Wt) : Prop := ∃ a cap, v = .slice a xs.length cap ∧ ∀ (i : Nat) (x : Wt), xs[i]? = some x → ∃ g o, a = some ⟨g, o, none⟩ ∧ w.cell? ⟨g, o + i * 2, none⟩ = some (.int .i64 x.r) ∧ w.cell? ⟨g, o + i * 2 + 1, none⟩ = some (.int .i64 x.p)
theorem ReadsW.of_owns {w : World} {base : Nat} {v : Value} {xs : List Wt} (h : OwnsWt w base v xs) : ReadsW w v xs := by
  rcases h.2 with ⟨hv, h2⟩ | ⟨g, cap, cur, hv, hg, hh, h3, h4, _⟩
  · have : xs = [] := List.eq_nil_of_length_eq_zero h2
    subst this
    exact ⟨none, 0, hv, fun i x hx => by simp at hx⟩
  · subst hv
    refine ⟨_, cap, rfl, fun i r hx => ⟨g, 0, rfl, ?_, ?_⟩⟩
    · have := Owns.cell h wt2 hx (j := 0) (by decide)
      rw [Nat.zero_add]
      simpa [Wt.cells] using this
    · have := Owns.cell h wt2 hx (j := 1) (by decide)
      rw [Nat.zero_add]
      simpa [Wt.cells] using this
theorem ReadsW.still {w w' : World} {v : Value} {xs : List Wt} (h : ReadsW w v xs) (o : Only none_ w w') : ReadsW w' v xs := by
  obtain ⟨a, cap, rfl, hc⟩ := h
  refine ⟨a, cap, rfl, fun i x hx => ?_⟩
  obtain ⟨g, o', rfl, h1, h2⟩ := hc i x hx
  exact ⟨g, o', rfl, o.cell h1 (fun s => s), o.cell h2 (fun s => s)⟩
theorem eq_wt (r s : Wt) (w : World) : (Op.equalIn 10000 36 (.agg #[.int .i64 r.r, .int .i64 r.p]) (.agg #[.int .i64 s.r, .int .i64 s.p])).run Tryz.prog w = .ok (decide (r = s)) w := by
  have h : decide (r = s) = (r.r == s.r && r.p == s.p) := by
    obtain ⟨a, b⟩ := r
    obtain ⟨a', b'⟩ := s
    rw [Bool.eq_iff_iff]
    simp
  rw [h]
  simp [go_sem]
  by_cases h1 : r.r = s.r <;> by_cases h2 : r.p = s.p <;> simp [h1, h2]

/-- a slice of seats, at a block that is among some -/
def OwnsSx (w : World) (M : Nat → Prop) (v : Value) (ss : List Sx) : Prop := Owns w 0 158 3 Sx.cells v ss ∧ ∀ g, v.ownBlock = some g → M g
theorem OwnsSx.keep {w w' : World} {M : Nat → Prop} {v : Value} {ss : List Sx} (h : OwnsSx w M v ss) {S : Nat → Prop} (o : Only S w w') (hn : ∀ g, M g → ¬ S g) : OwnsSx w' M v ss := ⟨h.1.keep o (fun g hg => hn g (h.2 g hg)), h.2⟩
theorem OwnsSx.form {w : World} {M : Nat → Prop} {v : Value} {ss : List Sx} (h : OwnsSx w M v ss) : ∃ A cap, v = .slice A ss.length cap ∧ Holds w A 3 Sx.cells ss := by
  rcases h.1.2 with ⟨hv, h2⟩ | ⟨g, cap, cur, hv, hg, hh, h3, h4, _⟩
  · have : ss = [] := List.eq_nil_of_length_eq_zero h2
    subst this
    exact ⟨none, 0, hv, fun i a hi => by simp at hi⟩
  · have lt := (Array.getElem?_eq_some_iff.1 hh).1
    have h1 := h.1
    rw [hv] at h1
    refine ⟨_, _, hv, fun i a hi => ⟨g, 0, rfl, lt, fun j v hj => ?_⟩⟩
    rw [Nat.zero_add]
    have hj2 : j < 3 := by have := lt_of_get hj; rw [sx3] at this; exact this
    rw [Owns.cell h1 sx3 hi hj2]
    exact hj
end Go.Proofs.YtfbpjobobdidiaaGreatDoor


/- What came into the laws of layer 14, opened: rows of what is done, rows of bytes. -/
namespace Go.Proofs.YtfbpjobobdidiaaGreatDoor
open Go.RowKit Go.ChangeShapes Go.WideShapes Go.Deep
set_option linter.unusedVariables false
set_option maxRecDepth 100000

theorem bd_u8 {a : Int} (h : (Lit.int .u8 a).wf = true) : 0 ≤ a ∧ a ≤ 255 := by
  simp only [Lit.wf, Bool.and_eq_true, decide_eq_true_eq] at h
  exact h
theorem bd_i64 {a : Int} (h : (Lit.int .i64 a).wf = true) : -9223372036854775808 ≤ a ∧ a ≤ 9223372036854775807 := by
  simp only [Lit.wf, Bool.and_eq_true, decide_eq_true_eq] at h
  exact h
theorem Only.to_below14 {a b : World} (h : Only none_ a b) : Below a.heap.size a b := h.below (Nat.le_refl _) (fun _ _ s => s)
structure Act1 where
  kind : Int
  n : Int
  w : Wt
def Act1.cells (a : Act1) : List Value := [.int .i64 a.kind, .int .i64 a.n, .int .i64 a.w.r, .int .i64 a.w.p]
instance : Inhabited Act1 := ⟨⟨0, 0, ⟨0, 0⟩⟩⟩
theorem cellsWt : Tryz.prog.cellsOf 36 = 2 := by kernel_rfl
theorem cellsI : Tryz.prog.cellsOf 3 = 1 := by kernel_rfl
theorem wt_cells {H : Type} {enc : TypeId × Value → H} {W : World} {fuel : Nat} {cs : List Value} {x : DataW H × List MemPlace} (hf : DataW.trod enc Tryz.prog W 0 (fun _ => true) true fuel 36 cs = some x) :
    ∃ r p : Int, cs = [.int .i64 r, .int .i64 p] ∧ (Lit.int .i64 r).wf = true ∧ (Lit.int .i64 p).wf = true := by
  obtain ⟨hl, m, hx⟩ := open_fields Tryz.underlying36 (by kernel_rfl) cellsWt hf
  obtain ⟨v0, y0, e0, t0⟩ := hx 0 _ rfl
  obtain ⟨v1, y1, e1, t1⟩ := hx 1 _ rfl
  obtain ⟨a0, q0, _, w0⟩ := DataW.trod_int Tryz.underlying3 t0
  obtain ⟨a1, q1, _, w1⟩ := DataW.trod_int Tryz.underlying3 t1
  simp only [List.cons.injEq, and_true] at q0 q1
  subst q0 q1
  refine ⟨a0, a1, ?_, w0, w1⟩
  apply List.ext_getElem?
  intro j
  match j with
  | 0 => exact e0
  | 1 => exact e1
  | j + 2 => rw [List.getElem?_eq_none (by rw [hl]; show 2 ≤ j + 2; omega), List.getElem?_eq_none (by show 2 ≤ j + 2; omega)]
/-- what a waiter that came in is -/
def wfW (x : Wt) : Prop := (Lit.int .i64 x.r).wf = true ∧ (Lit.int .i64 x.p).wf = true
theorem act_at {w w' : World} {A : Option Addr} {xs : List Act1} (h : Holds w A 4 Act1.cells xs) (hb : Below w.heap.size w w') {i : Nat} {a : Act1} (hi : xs[i]? = some a) :
    ∃ b o, A = some ⟨b, o, none⟩ ∧ b < w.heap.size ∧ w'.cell? ⟨b, o + i * 4, none⟩ = some (.int .i64 a.kind) ∧ w'.cell? ⟨b, o + i * 4 + 1, none⟩ = some (.int .i64 a.n) ∧ w'.cell? ⟨b, o + i * 4 + 2, none⟩ = some (.int .i64 a.w.r) ∧ w'.cell? ⟨b, o + i * 4 + 3, none⟩ = some (.int .i64 a.w.p) := by
  obtain ⟨b, o, e, hlt, hc⟩ := h.at_ hb hi
  exact ⟨b, o, e, hlt, hc 0 _ rfl, hc 1 _ rfl, hc 2 _ rfl, hc 3 _ rfl⟩
def byteC (x : Int) : List Value := [.int .u8 x]
theorem cellsB8 : Tryz.prog.cellsOf 5 = 1 := by kernel_rfl
theorem open_bytes {H : Type} {enc : TypeId × Value → H} {W : World} {fuel : Nat} {A : Option Addr} {len cap : Nat} {x : DataW H × List MemPlace} (h : DataW.trod enc Tryz.prog W 0 (fun _ => true) true fuel 77 [.slice A len cap] = some x) :
    len ≤ maxLen ∧ ∃ xs : List Int, xs.length = len ∧ Holds W A 1 byteC xs ∧ ∀ a ∈ xs, (0 ≤ a ∧ a ≤ 255) := by
  refine open_rows (c := byteC) (wf := fun a => 0 ≤ a ∧ a ≤ 255) Tryz.underlying77 cellsB8 (by decide) (fun _ => rfl) ?_ h
  intro n cs x hx
  obtain ⟨a0, q0, _, w0⟩ := DataW.trod_int Tryz.underlying5 hx
  exact ⟨a0, q0, bd_u8 w0⟩
theorem byte_at {w w' : World} {A : Option Addr} {xs : List Int} (h : Holds w A 1 byteC xs) (hb : Below w.heap.size w w') {i : Nat} {a : Int} (hi : xs[i]? = some a) :
    ∃ b o, A = some ⟨b, o, none⟩ ∧ b < w.heap.size ∧ w'.cell? ⟨b, o + i, none⟩ = some (.int .u8 a) := by
  obtain ⟨b, o, e, hlt, hc⟩ := h.at_ hb hi
  refine ⟨b, o, e, hlt, ?_⟩
  have := hc 0 _ rfl
  rwa [Nat.mul_one, Nat.add_zero] at this
end Go.Proofs.YtfbpjobobdidiaaGreatDoor


/- Plain facts of a register's seats: one request's quitting, a ticket's being taken. -/
namespace Go.Proofs.YtfbpjobobdidiaaGreatDoor

theorem mem_put (x n : Int) : ∀ l : List Int, x ∈ putI l n ↔ x = n ∨ x ∈ l := by
  intro l
  induction l with
  | nil => simp [putI]
  | cons y l ih =>
    show x ∈ (if y < n then y :: putI l n else if y = n then y :: l else n :: y :: l) ↔ _
    split
    · rw [List.mem_cons, ih, List.mem_cons]
      constructor <;> (intro h; rcases h with h | h | h <;> simp [h])
    · split
      · rename_i e
        subst e
        rw [List.mem_cons]
        constructor
        · intro h; exact .inr h
        · intro h; rcases h with h | h
          · exact .inl h
          · exact h
      · rw [List.mem_cons]
theorem mem_fold (x : Int) : ∀ (l : List Sx) (m : List Int), x ∈ l.foldl (fun l s => putI l s.t) m ↔ x ∈ m ∨ ∃ s ∈ l, s.t = x := by
  intro l
  induction l with
  | nil => intro m; simp
  | cons s l ih =>
    intro m
    rw [List.foldl_cons, ih, mem_put]
    constructor
    · intro h
      rcases h with (h | h) | ⟨s', h1, h2⟩
      · exact .inr ⟨s, by simp, h.symm⟩
      · exact .inl h
      · exact .inr ⟨s', by simp [h1], h2⟩
    · intro h
      rcases h with h | ⟨s', h1, h2⟩
      · exact .inl (.inr h)
      · rw [List.mem_cons] at h1
        rcases h1 with rfl | h1
        · exact .inl (.inl h2.symm)
        · exact .inr ⟨s', h1, h2⟩
theorem mem_quit (ss : List Sx) (r x : Int) : x ∈ quitI ss r ↔ ∃ s ∈ ss, s.w.r = r ∧ s.t = x := by
  unfold quitI
  rw [mem_fold]
  constructor
  · intro h
    rcases h with h | ⟨s, h1, h2⟩
    · cases h
    · rw [List.mem_filter] at h1
      exact ⟨s, h1.1, of_decide_eq_true h1.2, h2⟩
  · intro ⟨s, h1, h2, h3⟩
    exact .inr ⟨s, List.mem_filter.2 ⟨h1, decide_eq_true h2⟩, h3⟩
/-- who is left of a ticket's waiters -/
def othersL (l : List Wt) (r : Int) : List Wt := l.filter (fun w => decide (w.r ≠ r))
theorem others_yes {l : List Wt} {w : Wt} {r : Int} (e : w.r ≠ r) : othersL (l ++ [w]) r = othersL l r ++ [w] := by unfold othersL; simp [e]
theorem others_no {l : List Wt} {w : Wt} {r : Int} (e : w.r = r) : othersL (l ++ [w]) r = othersL l r := by unfold othersL; simp [e]
theorem others_le (l : List Wt) (r : Int) : (othersL l r).length ≤ l.length := List.length_filter_le _ _
theorem of_leftR (ss : List Sx) (r t : Int) : ofL (leftR ss r) t = othersL (ofL ss t) r := by
  unfold ofL leftR othersL
  rw [List.filter_filter, List.filter_map, List.filter_filter]
  congr 1
  apply List.filter_congr
  intro s _
  simp only [Function.comp_apply]
  exact Bool.and_comm _ _
theorem quit_again (ss : List Sx) (r : Int) : quitI (leftR ss r) r = [] := by
  have h : ∀ x, ¬ x ∈ quitI (leftR ss r) r := fun x hx => by
    rw [mem_quit] at hx
    obtain ⟨s, h1, h2, _⟩ := hx
    unfold leftR at h1
    rw [List.mem_filter] at h1
    exact of_decide_eq_true h1.2 h2
  cases q : quitI (leftR ss r) r with
  | nil => rfl
  | cons x l => exact absurd (by rw [q]; simp) (h x)
theorem parts_len (ss : List Sx) (f : Sx → Bool) : (ss.filter f).length + (ss.filter (fun s => !f s)).length = ss.length := by
  induction ss with
  | nil => rfl
  | cons s l ih =>
    cases h : f s <;> simp [h] <;> omega
theorem left_again (ss : List Sx) (r : Int) : leftR (leftR ss r) r = leftR ss r := by
  unfold leftR
  rw [List.filter_filter]
  apply List.filter_congr
  intro s _
  simp
theorem quit_frees (ss : List Sx) (r : Int) : (leftR ss r).length + (quitI ss r).length ≤ ss.length := by
  have h1 := parts_len ss (fun s => decide (s.w.r = r))
  have h2 := fold_le (ss.filter (fun s => decide (s.w.r = r))) []
  have e : leftR ss r = ss.filter (fun s => !decide (s.w.r = r)) := by
    unfold leftR
    apply List.filter_congr
    intro s _
    simp
  rw [e]
  unfold quitI
  simp only [List.length_nil] at h2
  omega
theorem quit_frees_of (ss : List Sx) (r t : Int) : (ofL ss t).length + (leftR ss r).length ≤ ss.length + (othersL (ofL ss t) r).length := by
  unfold ofL leftR othersL
  induction ss with
  | nil => simp
  | cons s l ih =>
    by_cases h1 : s.t = t <;> by_cases h2 : s.w.r = r <;> simp [h1, h2] at ih ⊢ <;> omega
theorem quit_tells (ss : List Sx) (r t : Int) : decide ((othersL (ofL ss t) r).length < (ofL ss t).length) = decide (t ∈ quitI ss r) := by
  rw [Bool.eq_iff_iff]
  simp only [decide_eq_true_eq]
  rw [mem_quit]
  unfold ofL othersL
  induction ss with
  | nil => simp
  | cons s l ih =>
    have le := List.length_filter_le (fun w => decide (w.r ≠ r)) ((l.filter (fun s => decide (s.t = t))).map Sx.w)
    by_cases h1 : s.t = t
    · by_cases h2 : s.w.r = r
      · constructor
        · intro _; exact ⟨s, by simp, h2, h1⟩
        · intro _
          simp [h1, h2] at le ⊢
          omega
      · have e : (∃ s' ∈ s :: l, s'.w.r = r ∧ s'.t = t) ↔ ∃ s' ∈ l, s'.w.r = r ∧ s'.t = t := by
          constructor
          · intro ⟨s', a, b, c⟩
            rw [List.mem_cons] at a
            rcases a with rfl | a
            · exact absurd b h2
            · exact ⟨s', a, b, c⟩
          · intro ⟨s', a, b, c⟩
            exact ⟨s', by simp [a], b, c⟩
        rw [e, ← ih]
        simp [h1, h2]
    · have e : (∃ s' ∈ s :: l, s'.w.r = r ∧ s'.t = t) ↔ ∃ s' ∈ l, s'.w.r = r ∧ s'.t = t := by
        constructor
        · intro ⟨s', a, b, c⟩
          rw [List.mem_cons] at a
          rcases a with rfl | a
          · exact absurd c h1
          · exact ⟨s', a, b, c⟩
        · intro ⟨s', a, b, c⟩
          exact ⟨s', by simp [a], b, c⟩
      rw [e, ← ih]
      simp [h1]

theorem of_taken (ss : List Sx) (t : Int) : ofL (leftT ss t) t = [] := by
  unfold ofL leftT
  rw [List.filter_filter, List.map_eq_nil_iff, List.filter_eq_nil_iff]
  intro s _
  simp
theorem take_frees (ss : List Sx) (t : Int) : (leftT ss t).length + (ofL ss t).length = ss.length := by
  have h1 := parts_len ss (fun s => decide (s.t = t))
  have e : leftT ss t = ss.filter (fun s => !decide (s.t = t)) := by
    unfold leftT
    apply List.filter_congr
    intro s _
    simp
  rw [e]
  unfold ofL
  rw [List.length_map]
  omega
theorem of_other (ss : List Sx) {t u : Int} (h : u ≠ t) : ofL (leftT ss t) u = ofL ss u := by
  unfold ofL leftT
  rw [List.filter_filter]
  congr 1
  apply List.filter_congr
  intro s _
  by_cases e : s.t = u
  · have : s.t ≠ t := fun q => h (by rw [← e, q])
    simp [e, h]
  · simp [e]
theorem taken_waits {ss : List Sx} (hn : (ss.map Sx.w).Nodup) {t : Int} {x : Wt} (h : x ∈ ofL ss t) : waitsB (leftT ss t) x = false := by
  unfold waitsB
  rw [List.any_eq_false]
  intro s hs
  unfold leftT at hs
  rw [List.mem_filter] at hs
  unfold ofL at h
  obtain ⟨s', h1, h2⟩ := List.mem_map.1 h
  rw [List.mem_filter] at h1
  intro e
  have e := of_decide_eq_true e
  have n1 := of_decide_eq_true h1.2
  have n2 := of_decide_eq_true hs.2
  have : s = s' := by
    have inj : ∀ (l : List Sx), (l.map Sx.w).Nodup → ∀ a ∈ l, ∀ b ∈ l, a.w = b.w → a = b := by
      intro l
      induction l with
      | nil => intro _ a ha; cases ha
      | cons c l ih =>
        intro hd a ha b hb hab
        rw [List.map_cons, List.nodup_cons] at hd
        rw [List.mem_cons] at ha hb
        rcases ha with rfl | ha <;> rcases hb with rfl | hb
        · rfl
        · exact absurd (List.mem_map.2 ⟨b, hb, hab.symm⟩) hd.1
        · exact absurd (List.mem_map.2 ⟨a, ha, hab⟩) hd.1
        · exact ih hd.2 a ha b hb hab
    exact inj ss hn s hs.1 s' h1.1 (by rw [e, h2])
  subst this
  exact n2 n1
end Go.Proofs.YtfbpjobobdidiaaGreatDoor


/- A map in memory, from waiters to where they wait. -/
namespace Go.Proofs.YtfbpjobobdidiaaGreatDoor
open Go.RowKit Go.Maps
set_option linter.unusedVariables false
set_option maxRecDepth 100000

/-- who waits, for which ticket, as which one that came -/
structure En where
  s : Sx
  n : Nat
  deriving DecidableEq
instance : Inhabited En := ⟨⟨⟨0, ⟨0, 0⟩⟩, 0⟩⟩

/-! ### keys -/
theorem laid14 : laidOutB Tryz.prog = true := by kernel_rfl
theorem wideW : (match Tryz.prog.underlying 36 with | some (.array _ _) | some (.struct _) => true | _ => false) = true := by rw [Tryz.underlying36]
theorem lawW : Keyed Tryz.prog 36 := Keyed.of_law (deep_law_laid laid14 (m := 2) (by omega) (of_decide_eq_true (by kernel_rfl)) (by kernel_rfl) wideW)
/-- how a waiter reads, as a key -/
def klit (x : Wt) : Lit := .string (keyBytes [.int .i64 x.r, .int .i64 x.p])
theorem keyW {x : Wt} (h : wfW x) : keyOf Tryz.prog 36 x.val = some (klit x) := by
  have hk : Tryz.prog.keyType 36 = true := by kernel_rfl
  have hc : Tryz.prog.cellsOf 36 = 2 := cellsWt
  have hi : Tryz.prog.cellsOf 3 = 1 := cellsI
  obtain ⟨m, hm⟩ : ∃ m, Tryz.prog.types.size + 1 = m + 2 := ⟨Tryz.prog.types.size - 1, by have : (1 : Nat) ≤ Tryz.prog.types.size := of_decide_eq_true (by kernel_rfl); omega⟩
  unfold keyOf klit Wt.val
  rw [Tryz.underlying36]
  simp only
  rw [if_pos (by simp [hk, Value.formed, Tryz.underlying36, hc]), hm]
  have h1 : (Lit.int .i64 x.r).wf = true := h.1
  have h2 : (Lit.int .i64 x.p).wf = true := h.2
  unfold Program.keyLits
  rw [Tryz.underlying36]
  simp [Value.cells, hc, hi, Program.keyLits, Tryz.underlying3, h1, h2]
set_option maxRecDepth 100000 in
theorem formed_agg {v : Value} (h : v.formed Tryz.prog 36 = true) : ∃ a b : Value, v = .agg #[a, b] := by
  have hc : Tryz.prog.cellsOf 36 = 2 := cellsWt
  unfold Value.formed at h
  rw [Tryz.underlying36] at h
  cases v <;> simp [hc] at h
  rename_i cs
  obtain ⟨l⟩ := cs
  match l, h with
  | [a, b], _ => exact ⟨a, b, rfl⟩
set_option maxRecDepth 100000 in
theorem lits_int {m : Nat} {a : Value} {l : List Lit} (h : Tryz.prog.keyLits (m + 1) 3 [a] = some l) : ∃ n, a = .int .i64 n ∧ (Lit.int .i64 n).wf = true ∧ l = [.int .i64 n] := by
  unfold Program.keyLits at h
  rw [Tryz.underlying3] at h
  cases a with
  | int q n =>
    simp only at h
    split at h
    · rename_i k
      obtain ⟨rfl, k2⟩ := k
      exact ⟨n, rfl, k2, (Option.some.inj h).symm⟩
    · cases h
  | _ => cases h
set_option maxRecDepth 100000 in
theorem key_inv {v : Value} {kl : Lit} (h : keyOf Tryz.prog 36 v = some kl) : ∃ x : Wt, v = x.val ∧ wfW x ∧ kl = klit x := by
  have hc : Tryz.prog.cellsOf 36 = 2 := cellsWt
  have hi : Tryz.prog.cellsOf 3 = 1 := cellsI
  obtain ⟨m, hm⟩ : ∃ m, Tryz.prog.types.size + 1 = m + 2 := ⟨Tryz.prog.types.size - 1, by have : (1 : Nat) ≤ Tryz.prog.types.size := of_decide_eq_true (by kernel_rfl); omega⟩
  have h0 := h
  unfold keyOf at h
  rw [Tryz.underlying36] at h
  simp only at h
  split at h
  · rename_i hf
    obtain ⟨a, b, rfl⟩ := formed_agg ((Bool.and_eq_true_iff.1 hf).2)
    rw [hm] at h
    unfold Program.keyLits at h
    rw [Tryz.underlying36] at h
    simp only [Option.map_eq_some_iff] at h
    obtain ⟨ls, h, rfl⟩ := h
    split at h
    · simp only [Option.map_eq_some_iff] at h
      obtain ⟨ll, h, rfl⟩ := h
      have e0 : (List.drop 0 (Value.agg #[a, b]).cells.toList).take 1 = [a] := rfl
      have e1 : (List.drop 1 (Value.agg #[a, b]).cells.toList).take 1 = [b] := rfl
      simp only [List.mapM_cons, List.mapM_nil, bind, Option.bind_eq_some_iff, hi, e0, e1, pure] at h
      obtain ⟨l1, h1, l2, ⟨l3, h3, l4, h4, h5⟩, h6⟩ := h
      obtain ⟨n1, rfl, w1, rfl⟩ := lits_int h1
      obtain ⟨n2, rfl, w2, rfl⟩ := lits_int h3
      exact ⟨⟨n1, n2⟩, rfl, ⟨w1, w2⟩, by have := keyW (x := ⟨n1, n2⟩) ⟨w1, w2⟩; unfold Wt.val at this; rw [this] at h0; exact (Option.some.inj h0).symm⟩
    · cases h
  · cases h
theorem klit_inj {x y : Wt} (hx : wfW x) (hy : wfW y) (h : klit x = klit y) : x = y := by
  have h1 := keyW hx
  rw [h] at h1
  have := lawW.inj h1 (keyW hy)
  unfold Wt.val at this
  simp at this
  obtain ⟨a, b⟩ := this
  cases x; cases y
  simp_all
theorem klit_key (x : Wt) : WideAt.IsKeyLit (klit x) := trivial
theorem klit_same {x y : Wt} (hx : wfW x) (hy : wfW y) : (klit x).sameKey (klit y) = decide (x = y) := by
  by_cases e : x = y
  · subst e; rw [WideAt.sameKey_self (klit_key x)]; simp
  · rw [decide_eq_false e]
    exact Maps.sameKey_ne (fun k => e (klit_inj hx hy k))

/-! ### what is laid at a key -/
def stDat (t : Int) (n : Nat) : DataW Unit := .agg [.lit (.int .i64 t), .lit (.int .i64 n)]
def stVal (t : Int) (n : Nat) : Value := .agg #[.int .i64 t, .int .i64 n]
def stElem : Value → Option (DataW Unit × List MemPlace)
  | .agg cs => match cs.toList with
    | [.int .i64 t, .int .i64 n] => some (.agg [.lit (.int .i64 t), .lit (.int .i64 n)], [])
    | _ => none
  | _ => none
theorem stElem_mk (t : Int) (n : Nat) : stElem (stVal t n) = some (stDat t n, []) := rfl
theorem stElem_inv {v : Value} {y : DataW Unit × List MemPlace} (h : stElem v = some y) : ∃ t n : Int, v = .agg #[.int .i64 t, .int .i64 n] ∧ y = (.agg [.lit (.int .i64 t), .lit (.int .i64 n)], []) := by
  unfold stElem at h
  split at h
  · rename_i cs
    split at h
    · rename_i t n e
      refine ⟨t, n, ?_, (Option.some.inj h).symm⟩
      congr 1
      apply Array.ext'
      exact e
    · cases h
  · cases h
theorem stVal_of {v : Value} {t : Int} {n : Nat} {zs : List MemPlace} (h : stElem v = some (stDat t n, zs)) : v = stVal t n := by
  obtain ⟨t', n', rfl, e⟩ := stElem_inv h
  injection e with e
  unfold stDat at e
  simp only [DataW.agg.injEq, List.cons.injEq, DataW.lit.injEq, Lit.int.injEq, true_and, and_true] at e
  obtain ⟨rfl, rfl⟩ := e
  rfl
theorem stDat_inj {t t' : Int} {n n' : Nat} (h : stDat t n = stDat t' n') : t = t' ∧ n = n' := by
  unfold stDat at h
  simp only [DataW.agg.injEq, List.cons.injEq, DataW.lit.injEq, Lit.int.injEq, true_and, and_true] at h
  exact ⟨h.1, by omega⟩
theorem zeroSt (w : World) : (zeroValue 193).run Tryz.prog w = .ok (stVal 0 0) w := by kernel_rfl

/-! ### entries -/
def OnceE (es : List En) : Prop := es.Pairwise (fun a b => a.s.w ≠ b.s.w)
theorem OnceE.inj : ∀ {es : List En}, OnceE es → ∀ {a b : En}, a ∈ es → b ∈ es → a.s.w = b.s.w → a = b
  | [], _, _, _, ha, _, _ => by cases ha
  | s :: r, h, a, b, ha, hb, e => by
    have h' := List.pairwise_cons.1 h
    rcases List.mem_cons.1 ha with rfl | ha'
    · rcases List.mem_cons.1 hb with rfl | hb'
      · rfl
      · exact absurd e (h'.1 b hb')
    · rcases List.mem_cons.1 hb with rfl | hb'
      · exact absurd e.symm (h'.1 a ha')
      · exact OnceE.inj (show OnceE r from h'.2) ha' hb' e
theorem OnceE.nodup {es : List En} (h : OnceE es) : es.Nodup := h.imp (fun k q => k (by rw [q]))
theorem OnceE.sub {es fs : List En} (h : OnceE es) (s : fs.Sublist es) : OnceE fs := List.Pairwise.sublist s h
def hasE (es : List En) (x : Wt) : Bool := es.any (fun e => decide (e.s.w = x))
theorem hasE_iff {es : List En} {x : Wt} : hasE es x = true ↔ ∃ e ∈ es, e.s.w = x := by
  unfold hasE
  rw [List.any_eq_true]
  simp
/-- the entry of a waiter: which ticket, which turn; nothing, if it has none -/
def tick (es : List En) (x : Wt) : Int := ((es.find? (fun e => decide (e.s.w = x))).map (fun e => e.s.t)).getD 0
def turn (es : List En) (x : Wt) : Nat := ((es.find? (fun e => decide (e.s.w = x))).map (fun e => e.n)).getD 0
theorem find_of {es : List En} (o : OnceE es) {e : En} (h : e ∈ es) : es.find? (fun a => decide (a.s.w = e.s.w)) = some e := by
  cases hf : es.find? (fun a => decide (a.s.w = e.s.w)) with
  | none => exact absurd (List.find?_eq_none.1 hf e h) (by simp)
  | some q =>
    have h1 := List.find?_some hf
    have h2 := List.mem_of_find?_eq_some hf
    rw [o.inj h2 h (by simpa using h1)]
theorem turn_of {es : List En} (o : OnceE es) {e : En} (h : e ∈ es) : turn es e.s.w = e.n := by unfold turn; rw [find_of o h]; rfl
theorem tick_of {es : List En} (o : OnceE es) {e : En} (h : e ∈ es) : tick es e.s.w = e.s.t := by unfold tick; rw [find_of o h]; rfl
theorem none_of {es : List En} {x : Wt} (h : hasE es x = false) : es.find? (fun a => decide (a.s.w = x)) = none := by
  rw [List.find?_eq_none]
  intro e he q
  have : hasE es x = true := hasE_iff.2 ⟨e, he, by simpa using q⟩
  rw [h] at this; cases this

/-- what a map reads as -/
structure Reads14 (D : DataW Unit) (es : List En) : Prop where
  has : ∀ x, wfW x → Maps.has D (klit x) = hasE es x
  at_ : ∀ e ∈ es, ∀ z, D.atKey (klit e.s.w) z = stDat e.s.t e.n
  wf : ∀ e ∈ es, wfW e.s.w
theorem Reads14.nil : Reads14 (.map []) [] := ⟨fun _ _ => rfl, fun _ h => (by cases h), fun _ h => (by cases h)⟩
theorem klit_ne {x y : Wt} (hx : wfW x) (hy : wfW y) (h : y ≠ x) : klit y ≠ klit x := fun k => h (klit_inj hy hx k)
/-- a new one is laid -/
theorem Reads14.put {D : DataW Unit} {es : List En} (h : Reads14 D es) (m : IsMap D) (e : En) (we : wfW e.s.w) (hn : hasE es e.s.w = false) : Reads14 (D.put (klit e.s.w) (stDat e.s.t e.n)) (es ++ [e]) := by
  refine ⟨fun y wy => ?_, fun f hf z => ?_, fun f hf => ?_⟩
  · by_cases k : y = e.s.w
    · subst k
      rw [has_put_same m (klit_key _)]
      exact (hasE_iff.2 ⟨e, by simp, rfl⟩).symm
    · rw [has_put_other (klit_ne we wy k), h.has y wy]
      unfold hasE
      rw [List.any_append]
      simp [show ¬ e.s.w = y from fun q => k q.symm]
  · rcases List.mem_append.1 hf with hf | hf
    · rw [atKey_put_other (klit_ne we (h.wf f hf) (fun q => by
        have : hasE es e.s.w = true := hasE_iff.2 ⟨f, hf, q⟩
        rw [hn] at this; cases this))]
      exact h.at_ f hf z
    · rw [List.mem_singleton.1 hf, atKey_put_same m (klit_key _)]
  · rcases List.mem_append.1 hf with hf | hf
    · exact h.wf f hf
    · rw [List.mem_singleton.1 hf]; exact we
def outE (es : List En) (x : Wt) : List En := es.filter (fun e => decide (e.s.w ≠ x))
theorem Reads14.del {D : DataW Unit} {es : List En} (h : Reads14 D es) (x : Wt) (wx : wfW x) : Reads14 (D.del (klit x)) (outE es x) := by
  refine ⟨fun y wy => ?_, fun f hf z => ?_, fun f hf => h.wf f (List.mem_filter.1 hf).1⟩
  · by_cases k : y = x
    · subst k
      rw [has_del_same]
      cases hq : hasE (outE es y) y with
      | false => rfl
      | true =>
        obtain ⟨f, hf, e⟩ := hasE_iff.1 hq
        have := (List.mem_filter.1 hf).2
        simp [e] at this
    · rw [has_del_other (klit_ne wx wy k), h.has y wy, Bool.eq_iff_iff, hasE_iff, hasE_iff]
      constructor
      · rintro ⟨f, hf, rfl⟩
        exact ⟨f, List.mem_filter.2 ⟨hf, by simpa using k⟩, rfl⟩
      · rintro ⟨f, hf, rfl⟩
        exact ⟨f, (List.mem_filter.1 hf).1, rfl⟩
  · have hf' := List.mem_filter.1 hf
    rw [atKey_del_other (klit_ne wx (h.wf f hf'.1) (by simpa using hf'.2))]
    exact h.at_ f hf'.1 z
theorem Reads14.look {D : DataW Unit} {es : List En} (h : Reads14 D es) (o : OnceE es) (x : Wt) (wx : wfW x) : D.atKey (klit x) (stDat 0 0) = stDat (tick es x) (turn es x) := by
  cases hc : hasE es x with
  | true =>
    obtain ⟨e, he, rfl⟩ := hasE_iff.1 hc
    rw [h.at_ e he, tick_of o he, turn_of o he]
  | false =>
    have := h.has x wx
    rw [hc] at this
    unfold tick turn
    rw [atKey_of_not_has this, none_of hc]
    rfl
/-- every key is a waiter's -/
theorem key_wt {w : World} {b n : Nat} {D : DataW Unit} (h : w.ownsMap Tryz.prog 36 stElem b n D) : ∀ kl, Maps.has D kl = true → ∃ x, wfW x ∧ kl = klit x := by
  intro kl hk
  obtain ⟨es, clock, hb, F, _, rfl⟩ := h
  obtain ⟨p, hp, hpk⟩ := List.any_eq_true.1 hk
  obtain ⟨x, hx, rfl⟩ := List.mem_map.1 (mem_sorted.1 hp)
  obtain ⟨y, hy⟩ := F.reads x hx
  rw [WideElems.rg_of hy] at hpk
  obtain ⟨a, _, wa, e2⟩ := key_inv (WideElems.rd_key hy)
  have := WideAt.sameKey_eq hpk
  exact ⟨a, wa, by rw [← this, e2]⟩
theorem tight14 {w : World} {b n : Nat} {D : DataW Unit} (h : w.ownsMap Tryz.prog 36 stElem b n D) : w.ownsMap Tryz.prog 36 stElem b (size D) D := by
  obtain ⟨es, clock, hb, F, _, rfl⟩ := h
  exact ⟨es, clock, hb, F, by rw [size_eq, length_sorted]; simp, rfl⟩
theorem sub_len14 {α : Type} [DecidableEq α] : ∀ (l l' : List α), l.Nodup → (∀ x ∈ l, x ∈ l') → l.length ≤ l'.length
  | [], _, _, _ => Nat.zero_le _
  | a :: r, l', hn, hs => by
    obtain ⟨h1, h2⟩ := List.nodup_cons.1 hn
    have ha : a ∈ l' := hs a (by simp)
    have := sub_len14 r (l'.erase a) h2 (fun x hx => by
      have hx' : x ∈ l' := hs x (by simp [hx])
      exact (List.mem_erase_of_ne (fun q => h1 (by rw [← q]; exact hx))).2 hx')
    rw [List.length_erase_of_mem ha] at this
    have : 0 < l'.length := List.length_pos_of_mem ha
    simp only [List.length_cons]
    omega
theorem same_len14 {α : Type} [DecidableEq α] {l l' : List α} (h : l.Nodup) (h' : l'.Nodup) (k : ∀ x, x ∈ l ↔ x ∈ l') : l.length = l'.length :=
  Nat.le_antisymm (sub_len14 l l' h (fun x hx => (k x).1 hx)) (sub_len14 l' l h' (fun x hx => (k x).2 hx))
/-- a key, as a waiter -/
noncomputable def unk (l : Lit) : Wt := open Classical in if h : ∃ x, wfW x ∧ l = klit x then h.choose else ⟨0, 0⟩
theorem unk_klit {x : Wt} (hx : wfW x) : unk (klit x) = x := by
  unfold unk
  have h : ∃ y, wfW y ∧ klit x = klit y := ⟨x, hx, rfl⟩
  rw [dif_pos h]
  exact (klit_inj hx h.choose_spec.1 h.choose_spec.2).symm
theorem Reads14.size {w : World} {b n : Nat} {D : DataW Unit} {es : List En} (h : Reads14 D es) (o : w.ownsMap Tryz.prog 36 stElem b n D) (hn : OnceE es) : Maps.size D = es.length := by
  have KI := key_wt o
  obtain ⟨ps, rfl, hp, hk⟩ := o.entries lawW
  show ps.length = es.length
  have e1 : (ps.map (fun p => unk p.1)).length = ps.length := List.length_map _
  have e2 : (es.map (fun e => e.s.w)).length = es.length := List.length_map _
  rw [← e1, ← e2]
  have hi : ∀ p ∈ ps, ∃ x, wfW x ∧ p.1 = klit x := fun p hp' => KI p.1 (List.any_eq_true.2 ⟨p, hp', WideAt.sameKey_self (hk p hp')⟩)
  refine same_len14 ?_ (by unfold List.Nodup; rw [List.pairwise_map]; exact hn) ?_
  · unfold List.Nodup
    rw [List.pairwise_map]
    refine hp.imp_of_mem ?_
    intro p q hp1 hq1 hne e
    obtain ⟨x, wx, hx⟩ := hi p hp1
    obtain ⟨y, wy, hy⟩ := hi q hq1
    rw [hx, hy, unk_klit wx, unk_klit wy] at e
    exact hne (by rw [hx, hy, e])
  · intro x
    constructor
    · intro hm
      obtain ⟨p, hp1, e⟩ := List.mem_map.1 hm
      obtain ⟨y, wy, hy⟩ := hi p hp1
      rw [hy, unk_klit wy] at e
      subst e
      have : Maps.has (DataW.map ps) (klit y) = true := List.any_eq_true.2 ⟨p, hp1, by rw [hy]; exact WideAt.sameKey_self (klit_key _)⟩
      rw [h.has y wy] at this
      obtain ⟨a, ha, e⟩ := hasE_iff.1 this
      exact List.mem_map.2 ⟨a, ha, e⟩
    · intro hm
      obtain ⟨a, ha, e⟩ := List.mem_map.1 hm
      have wx : wfW x := e ▸ h.wf a ha
      have h1 := h.has x wx
      rw [hasE_iff.2 ⟨a, ha, e⟩] at h1
      obtain ⟨p, hp1, hpk⟩ := List.any_eq_true.1 h1
      have := WideAt.sameKey_eq hpk
      exact List.mem_map.2 ⟨p, hp1, by simp only [this]; exact unk_klit wx⟩

/-- block b is a map that has just these entries -/
def Md14 (w : World) (b : Nat) (es : List En) : Prop := ∃ D, w.ownsMap Tryz.prog 36 stElem b es.length D ∧ Reads14 D es
theorem Md14.of {w : World} {b n : Nat} {D : DataW Unit} {es : List En} (o : w.ownsMap Tryz.prog 36 stElem b n D) (h : Reads14 D es) (hn : OnceE es) : Md14 w b es :=
  ⟨D, by rw [← h.size o hn]; exact tight14 o, h⟩
theorem owns_keep14 {w w' : World} {b n : Nat} {D : DataW Unit} (h : w.ownsMap Tryz.prog 36 stElem b n D) {S : Nat → Prop} (o : Only S w w') (hn : ¬ S b) : w'.ownsMap Tryz.prog 36 stElem b n D := by
  have lt := h.lt
  obtain ⟨es, clock, hb, r⟩ := h
  exact ⟨es, clock, (o.block b lt hn).trans hb, r⟩
theorem Md14.keep {w w' : World} {b : Nat} {es : List En} (h : Md14 w b es) {S : Nat → Prop} (o : Only S w w') (hn : ¬ S b) : Md14 w' b es := by
  obtain ⟨D, h1, h2⟩ := h
  exact ⟨D, owns_keep14 h1 o hn, h2⟩
theorem Md14.still {w w' : World} {b : Nat} {es : List En} (h : Md14 w b es) (o : Only none_ w w') : Md14 w' b es := h.keep o (fun s => s)
theorem Md14.lt {w : World} {b : Nat} {es : List En} (h : Md14 w b es) : b < w.heap.size := by
  obtain ⟨D, h1, _⟩ := h
  exact h1.lt
theorem Md14.ne {w : World} {p b : Nat} {es : List En} {t : TypeId} {cs : Array Value} (h : Md14 w b es) (r : Row w p t cs) : p ≠ b := by
  rintro rfl
  obtain ⟨D, ⟨es, clock, hb, _⟩, _⟩ := h
  unfold Row at r
  rw [r] at hb
  cases hb
theorem Md14.wf {w : World} {b : Nat} {es : List En} (h : Md14 w b es) : ∀ e ∈ es, wfW e.s.w := by
  obtain ⟨D, _, h2⟩ := h
  exact h2.wf
theorem only_turned14 {w w' : World} {b : Nat} (h : w.mapTurned w' b) : Only (fun k => k = b) w w' := (Only.of_grown h.grown).more (fun i _ e => by injection e)
/-- how many -/
theorem Md14.len {w : World} {b : Nat} {es : List En} (h : Md14 w b es) (o : OnceE es) (ty : TypeId) : (Builtin.len_ #[148] ty #[.map (some b)]).run Tryz.prog w = .ok (.int .i64 es.length) w := by
  obtain ⟨D, h1, h2⟩ := h
  have := h1.len Tryz.underlying148 ty
  rw [h2.size h1 o] at this
  exact this
/-- a lookup, that tells whether there is one -/
theorem Md14.look {w : World} {b : Nat} {es : List En} (h : Md14 w b es) (o : OnceE es) {x : Wt} (wx : wfW x) :
    (Instr.lookup 148 (.map (some b)) (.agg #[.int .i64 x.r, .int .i64 x.p]) true).run Tryz.prog w = .ok (.tuple #[stVal (tick es x) (turn es x), .bool (hasE es x)]) w := by
  obtain ⟨D, h1, h2⟩ := h
  obtain ⟨v, zs, hrun, hv⟩ := h1.look_ok lawW Tryz.underlying148 (zeroSt w) (stElem_mk 0 0) (keyW wx)
  rw [h2.has x wx] at hrun
  have e := h2.look o x wx
  rw [e] at hv
  rw [stVal_of hv] at hrun
  exact hrun
/-- .. and one that doesn't -/
theorem Md14.get {w : World} {b : Nat} {es : List En} (h : Md14 w b es) (o : OnceE es) {x : Wt} (wx : wfW x) :
    (Instr.lookup 148 (.map (some b)) (.agg #[.int .i64 x.r, .int .i64 x.p]) false).run Tryz.prog w = .ok (stVal (tick es x) (turn es x)) w := by
  obtain ⟨D, h1, h2⟩ := h
  obtain ⟨v, zs, hrun, hv⟩ := h1.lookup lawW Tryz.underlying148 (zeroSt w) (stElem_mk 0 0) (keyW wx)
  have e := h2.look o x wx
  rw [e] at hv
  rw [stVal_of hv] at hrun
  exact hrun
/-- a new one is laid -/
theorem Md14.store {w : World} {b : Nat} {es : List En} (h : Md14 w b es) (o : OnceE es) (hl : es.length ≤ 1000) (e : En) (we : wfW e.s.w) (hn : hasE es e.s.w = false) :
    ∃ w', (Instr.mapUpdate 148 (.map (some b)) (.agg #[.int .i64 e.s.w.r, .int .i64 e.s.w.p]) (.agg #[.int .i64 e.s.t, .int .i64 e.n])).run Tryz.prog w = .ok () w' ∧ Md14 w' b (es ++ [e]) ∧ Only (fun k => k = b) w w' := by
  obtain ⟨D, k1, k2⟩ := h
  have IM : IsMap D := let ⟨es, _, _, _, _, e⟩ := k1; ⟨_, e⟩
  obtain ⟨w', e1, e2, e3⟩ := k1.store lawW Tryz.underlying148 (by unfold maxLen; omega) (keyW we) (stElem_mk e.s.t e.n)
  refine ⟨w', e1, Md14.of e2 (k2.put IM e we hn) ?_, only_turned14 e3⟩
  unfold OnceE
  rw [List.pairwise_append]
  refine ⟨o, List.pairwise_singleton _ _, fun a ha c hc q => ?_⟩
  rw [List.mem_singleton.1 hc] at q
  have : hasE es e.s.w = true := hasE_iff.2 ⟨a, ha, q⟩
  rw [hn] at this; cases this
/-- one goes -/
theorem Md14.drop {w : World} {b : Nat} {es : List En} (h : Md14 w b es) (o : OnceE es) (x : Wt) (wx : wfW x) (ty : TypeId) :
    ∃ w', (Builtin.delete_ #[148, 36] ty #[.map (some b), .agg #[.int .i64 x.r, .int .i64 x.p]]).run Tryz.prog w = .ok (.tuple #[]) w' ∧ Md14 w' b (outE es x) ∧ Only (fun k => k = b) w w' ∧
      ∀ r n D left cnt, w.ranges Tryz.prog 36 stElem b r n D left cnt → ∃ cnt', w'.ranges Tryz.prog 36 stElem b r n (D.del (klit x)) (fun z => left z && !z.sameKey (klit x)) cnt' ∧ cnt' ≤ cnt := by
  obtain ⟨D, k1, k2⟩ := h
  obtain ⟨w', e1, e2, e3⟩ := k1.drop lawW Tryz.underlying148 (keyW wx) ty
  refine ⟨w', e1, Md14.of e2 (k2.del x wx) (o.sub List.filter_sublist), only_turned14 e3, fun r n D' left cnt hr => ?_⟩
  obtain ⟨w'', cnt', f1, f2, f3, _⟩ := hr.drop lawW Tryz.underlying148 (keyW wx) ty
  have : w'' = w' := by
    have := f1.symm.trans e1
    injection this
  subst this
  exact ⟨cnt', f2, f3⟩
end Go.Proofs.YtfbpjobobdidiaaGreatDoor


/- Plain facts of entries: who waits, in the order in which they came, by their turns. -/
namespace Go.Proofs.YtfbpjobobdidiaaGreatDoor
set_option linter.unusedVariables false
set_option maxRecDepth 100000

/-- the seats of entries -/
def seats (es : List En) : List Sx := es.map En.s
/-- entries in the order of their turns, none beyond the last one -/
structure FineE (came : Nat) (es : List En) : Prop where
  rise : es.Pairwise (fun a b => a.n < b.n)
  top : ∀ e ∈ es, e.n ≤ came
theorem fine_nil (n : Nat) : FineE n [] := ⟨List.Pairwise.nil, fun _ h => (by cases h)⟩
theorem FineE.sub {came : Nat} {es fs : List En} (h : FineE came es) (s : fs.Sublist es) : FineE came fs := ⟨h.rise.sublist s, fun e he => h.top e (s.subset he)⟩
theorem FineE.add {came : Nat} {es : List En} (h : FineE came es) (s : Sx) : FineE (came + 1) (es ++ [⟨s, came + 1⟩]) := by
  refine ⟨?_, fun e he => ?_⟩
  · rw [List.pairwise_append]
    refine ⟨h.rise, List.pairwise_singleton _ _, fun a ha b hb => ?_⟩
    rw [List.mem_singleton.1 hb]
    have := h.top a ha
    show a.n < came + 1
    omega
  · rcases List.mem_append.1 he with he | he
    · have := h.top e he; omega
    · rw [List.mem_singleton.1 he]; exact Nat.le_refl _
theorem has_seats (es : List En) (x : Wt) : hasE es x = waitsB (seats es) x := by
  unfold hasE waitsB seats
  rw [List.any_map]
  rfl
theorem once_of {es : List En} (h : ((seats es).map Sx.w).Nodup) : OnceE es := by
  unfold OnceE
  unfold seats List.Nodup at h
  rw [List.pairwise_map, List.pairwise_map] at h
  exact h
theorem seats_filter (es : List En) (f : Sx → Bool) : seats (es.filter (fun e => f e.s)) = (seats es).filter f := by
  unfold seats
  rw [List.filter_map]
  rfl
theorem seats_len (es : List En) : (seats es).length = es.length := List.length_map _
/-- who waits for a ticket -/
def ofE (es : List En) (t : Int) : List En := es.filter (fun e => decide (e.s.t = t))
theorem ofE_seats (es : List En) (t : Int) : (ofE es t).map (fun e => e.s.w) = ofL (seats es) t := by
  unfold ofE ofL
  rw [← seats_filter es (fun s => decide (s.t = t))]
  unfold seats
  rw [List.map_map]
  rfl
/-- a row of waiters that are those of rising entries, in the order of their turns: is those -/
theorem sorted_of {came : Nat} {es fs : List En} {ws : List Wt} (o : OnceE es) (r : FineE came es) (s : fs.Sublist es) (hn : ws.Nodup) (hm : ∀ x, x ∈ ws ↔ ∃ e ∈ fs, e.s.w = x) (hs : ws.Pairwise (fun x y => ¬ (turn es y < turn es x))) : ws = fs.map (fun e => e.s.w) := by
  have tn : ∀ e ∈ fs, turn es e.s.w = e.n := fun e he => turn_of o (s.subset he)
  have inj : ∀ x ∈ ws, ∀ y ∈ ws, turn es x = turn es y → x = y := by
    intro x hx y hy k
    obtain ⟨e, he, rfl⟩ := (hm x).1 hx
    obtain ⟨f, hf, rfl⟩ := (hm y).1 hy
    rw [tn e he, tn f hf] at k
    have : ∀ {l : List En}, l.Pairwise (fun a b => a.n < b.n) → e ∈ l → f ∈ l → e = f := by
      intro l
      induction l with
      | nil => intro _ h; cases h
      | cons z l ih =>
        intro hp h1 h2
        obtain ⟨p1, p2⟩ := List.pairwise_cons.1 hp
        rcases List.mem_cons.1 h1 with q1 | q1
        · rcases List.mem_cons.1 h2 with q2 | q2
          · rw [q1, q2]
          · have := p1 f q2; rw [← q1] at this; omega
        · rcases List.mem_cons.1 h2 with q2 | q2
          · have := p1 e q1; rw [← q2] at this; omega
          · exact ih p2 q1 q2
    rw [this r.rise (s.subset he) (s.subset hf)]
  have h1 : ws.Pairwise (fun x y => turn es x < turn es y) := by
    refine List.Pairwise.imp_of_mem (R := fun x y => x ≠ y ∧ ¬ (turn es y < turn es x)) ?_ (hn.and hs)
    intro x y hx hy ⟨ne, k⟩
    rcases Nat.lt_or_ge (turn es x) (turn es y) with q | q
    · exact q
    · exact absurd (inj x hx y hy (by omega)) ne
  have h2 : (fs.map (fun e => e.s.w)).Pairwise (fun x y => turn es x < turn es y) := by
    rw [List.pairwise_map]
    refine List.Pairwise.imp_of_mem ?_ (r.rise.sublist s)
    intro a b ha hb k
    rw [tn a ha, tn b hb]
    exact k
  have uni : ∀ {l l' : List Wt}, l.Pairwise (fun x y => turn es x < turn es y) → l'.Pairwise (fun x y => turn es x < turn es y) → (∀ x, x ∈ l ↔ x ∈ l') → l = l' := by
    intro l
    induction l with
    | nil =>
      intro l' _ _ h
      cases l' with
      | nil => rfl
      | cons b r' => have := (h b).2 (by simp); cases this
    | cons a r ih =>
      intro l' hl hl' h
      cases l' with
      | nil => have := (h a).1 (by simp); cases this
      | cons b r' =>
        obtain ⟨h1, h2⟩ := List.pairwise_cons.1 hl
        obtain ⟨h3, h4⟩ := List.pairwise_cons.1 hl'
        have e : a = b := by
          rcases List.mem_cons.1 ((h a).1 (by simp)) with q | q
          · exact q
          · rcases List.mem_cons.1 ((h b).2 (by simp)) with k | k
            · exact k.symm
            · have := h3 a q
              have := h1 b k
              omega
        subst e
        congr 1
        refine ih h2 h4 (fun x => ⟨fun hx => ?_, fun hx => ?_⟩)
        · rcases List.mem_cons.1 ((h x).1 (by simp [hx])) with q | q
          · have := h1 x hx; rw [q] at this; omega
          · exact q
        · rcases List.mem_cons.1 ((h x).2 (by simp [hx])) with q | q
          · have := h3 x hx; rw [q] at this; omega
          · exact q
  refine uni h1 h2 (fun x => ?_)
  rw [hm x]
  constructor
  · rintro ⟨e, he, rfl⟩; exact List.mem_map.2 ⟨e, he, rfl⟩
  · intro h; obtain ⟨e, he, k⟩ := List.mem_map.1 h; exact ⟨e, he, k⟩
end Go.Proofs.YtfbpjobobdidiaaGreatDoor


/- A range over a function whose body goes on each time: what a round turns is told by what it was handed (so that a body may take away what has just come). -/
namespace Go.Proofs.YtfbpjobobdidiaaGreatDoor
open Go.RowKit
set_option linter.unusedVariables false
set_option maxRecDepth 100000

section
variable {F : Fence} {n : Nat} {P : Program} {α : Type}
/-- a round goes on -/
def GoesOn (B : Nat) (Kp : α → World → World → Prop) (I : List α → World → Prop) (pre : List α) (x : α) (W : World) : Exit → Act → World → Prop
  | .normal, _, W' => KeepsFrom B W W' ∧ Kp x W W' ∧ I (pre ++ [x]) W'
  | _, _, _ => False
/-- what an iterator owes: each round is asked where Ok says so; S of all that came -/
def Handing (F : Fence) (n : Nat) (P : Program) (gf : Nat) (lb : Array Value) (encs : α → Array Value) (Ok : List α → α → Prop) (Kp : α → World → World → Prop) (S : List α → Prop) (w0 : World) : Prop :=
  ∀ (l : Nat) (J : List α → World → Prop) (W : World), Below w0.heap.size w0 W → AbidesFrom W.heap.size J →
    (∀ pre x W1, J pre W1 → Ok pre x → YieldAt F (n - 1) P l (encs x) W1 fun e W' => e = .returned (.bool true) ∧ J (pre ++ [x]) W' ∧ Kp x W1 W') →
    J [] W → CallsIn F n P gf (#[.func (.yield l) #[] #[]] ++ lb) W fun e W' => (∃ v, e = .returned v) ∧ ∃ xs, S xs ∧ J xs W'

theorem wpIn_each {g : Operand} {ps : Array Tmp} {assign body : Code} {Q : Exit → Act → World → Prop} {a : Act} {w w0 : World}
    (hro : F.round = none) (h1 : 1 ≤ n) {gf : Nat} {lb : Array Value} (hg : a.eval g = .func (.func gf) #[] lb) (hF : F.fn gf) (eg : ∀ args w, (callFunc gf args).run P w = .ok (.enter gf args) w)
    {encs : α → Array Value} {Ok : List α → α → Prop} {Kp : α → World → World → Prop} {S : List α → Prop} (hseq : Handing F (n - 1) P gf lb encs Ok Kp S w0) (hb0 : Below w0.heap.size w0 w) (hps : ∀ x, (encs x).size = ps.size)
    (hKr : ∀ (x : α) (A B : World) (l : Nat) (o o' : Obj), w.heap.size ≤ l → A.heap[l]? = some o → o.isCells = false → o.isWalk = false → Kp x (A.putObj l o') B → Kp x A B)
    (hKl : ∀ (x : α) (A B : World) (l : Nat) (o o' : Obj), w.heap.size ≤ l → B.heap[l]? = some o → o.isCells = false → o.isWalk = false → Kp x A B → Kp x A (B.putObj l o'))
    (I : List α → World → Prop) (hI : OwnFrom w.heap.size I) (h0 : I [] w) (Ax : α → Act → World → Prop) (hAx : ∀ x a', OwnFrom w.heap.size (fun (_ : Unit) W => Ax x a' W))
    (hassign : ∀ (l : Nat) (pre : List α) (x : α) (W : World) (K : Act → World → Prop), I pre W → Ok pre x → (∀ a' W', KeepsFrom w.heap.size W W' → (∀ B, Kp x W' B → Kp x W B) → I pre W' → Ax x a' W' → K a' W') →
      assign.wpIn (F.inRound l) (n - 1 - 1) P (Exit.then K (fun _ _ _ => False)) { tmps := (ps.zip (encs x)).foldl (fun t (p, v) => t.setIfInBounds p v) a.tmps, defers := [] } W)
    (hbody : ∀ (l : Nat) (pre : List α) (x : α) (a' : Act) (W : World), I pre W → Ok pre x → Ax x a' W → body.wpIn (F.inRound l) (n - 1 - 1) P (GoesOn w.heap.size Kp I pre x W) a' W)
    (hdone : ∀ (D : Nat) (xs : List α) (W : World), w.heap.size ≤ D → S xs → I xs W → W.heap[D]? = some (.deferred (some [])) → Q .normal { a with defers := { target := .collected D, args := #[] } :: a.defers } W) :
    (Code.rangeFunc g ps assign body).wpIn F n P Q a w := by
  refine wpIn_rangeFunc (fun fn hfn => ?_)
  rw [hro]
  -- the loop's record, in the states that it takes
  let st : LoopState → Loop := fun s => { state := s, pending := none, fn, tmps := a.tmps, params := ps, assign, body, defers := w.heap.size }
  have hst : ∀ s, st s = { state := s, pending := none, fn, tmps := a.tmps, params := ps, assign, body, defers := w.heap.size } := fun _ => rfl
  generalize st = st at hst
  obtain ⟨W1, hW1⟩ : ∃ W1, W1 = (w.alloc (.deferred (some []))).alloc (.loop (st .ready)) := ⟨_, rfl⟩
  have b1 : Below w.heap.size w W1 := by rw [hW1]; exact ((Below.refl _ w).alloc (Nat.le_refl _) _).alloc (by simp) _
  have z1 : W1.heap.size = w.heap.size + 2 := by rw [hW1]; simp
  have l1 : W1.heap[w.heap.size + 1]? = some (.loop (st .ready)) := by
    rw [hW1]
    have := World.alloc_heap_new (w.alloc (.deferred (some []))) (.loop (st .ready))
    rwa [World.size_alloc] at this
  have k1 : W1.heap[w.heap.size]? = some (.deferred (some [])) := by
    rw [hW1]
    exact (Below.heap_alloc _ _ _ (by simp)).trans (World.alloc_heap_new w _)
  have i1 : I [] W1 := by rw [hW1]; exact hI.alloc _ (hI.alloc _ h0)
  refine ⟨w.heap.size + 1, [{ target := .collected w.heap.size, args := #[] }], W1, { target := .fn (.func gf) lb, args := #[.func (.yield (w.heap.size + 1)) #[] #[]] }, W1, gf,
    #[.func (.yield (w.heap.size + 1)) #[] #[]] ++ lb, W1, ?_, ?_, ?_, ?_, fun _ => h1, ?_⟩
  · rw [hW1, hst]; exact run_enterLoop_outer _ _ _ _ _
  · simp only [resolve, hg]
    simp [go_sem]
  · intro f' hf'
    simp [Target.leads] at hf'
    subst hf'
    exact hF
  · simp [invoke, go_sem, eg]
  have walk : ∀ {A : World} {row : Option Nat}, (∀ r, row = some r → W1.heap.size ≤ r ∧ ∃ o : Obj, A.heap[r]? = some o ∧ o.isWalk = true) → ∀ r, row = some r → w.heap.size ≤ r ∧ ∃ o : Obj, A.heap[r]? = some o ∧ o.isCells = false :=
    fun hr r e => let ⟨hB, o, ho, hw⟩ := hr r e; ⟨by omega, o, ho, Obj.not_cells_of_walk hw⟩
  have ring := hseq (w.heap.size + 1) (fun pre W => I pre W ∧ W.heap[w.heap.size + 1]? = some (.loop (st .ready)) ∧ W.heap[w.heap.size]? = some (.deferred (some []))) W1 (hb0.trans (b1.mono hb0.size))
    (fun s A B row hs hg' hr => ⟨hI s A B row hs.1 hg' (walk (A := A) hr), (grownBy_keeps hg' (fun r e => (hr r e).2) hs.2.1 rfl).trans hs.2.1, (grownBy_keeps hg' (fun r e => (hr r e).2) hs.2.2 rfl).trans hs.2.2⟩) ?_ ⟨i1, l1, k1⟩
  · refine ring.mono ?_
    rintro e W2 ⟨⟨v, rfl⟩, xs, hS, hi, hl, hk⟩
    have he := run_endLoop (P := P) hl (by rw [hst]; simp)
    rw [hst] at he
    exact ⟨none, _, he, hdone _ xs _ (Nat.le_refl _) hS (hI.putObj _ hi (by omega) hl rfl) ((World.putObj_heap_other (by omega)).trans hk)⟩
  · -- one round
    rintro pre x W ⟨hi, hl, hk⟩ hok
    have hy := run_yield (P := P) (args := encs x) hl (by rw [hst]; exact hps x)
    rw [hst] at hy
    refine ⟨fn, _, assign, body, hy, roundIn_of_wpIn hfn (hassign _ pre x W _ hi hok (fun a' Wa kf kp ia ax => ?_))⟩
    clear hy
    have la := kf.same _ _ (by omega) hl rfl
    have ka := kf.same _ _ (Nat.le_refl _) hk rfl
    have lta := (Array.getElem?_eq_some_iff.1 la).1
    refine ⟨_, run_beginRound la (by rw [hst]), ?_⟩
    have eb : ({ st .ready with state := .busy } : Loop) = st .busy := by rw [hst, hst]
    rw [eb]
    have lb2 : (Wa.putObj (w.heap.size + 1) (.loop (st .busy))).heap[w.heap.size + 1]? = some (.loop (st .busy)) := World.putObj_heap_same lta
    have kb2 : (Wa.putObj (w.heap.size + 1) (.loop (st .busy))).heap[w.heap.size]? = some (.deferred (some [])) := (World.putObj_heap_other (by omega)).trans ka
    refine wpIn_mono (hbody _ pre x a' _ (hI.putObj _ ia (by omega) la rfl) hok ((hAx x a').putObj (s := ()) _ ax (by omega) la rfl)) ?_
    rintro e a3 W3 hp
    cases e with
    | normal =>
      obtain ⟨kf3, kp3, i3⟩ := hp
      have l3 := kf3.same _ _ (by omega) lb2 rfl
      have k3 := kf3.same _ _ (Nat.le_refl _) kb2 rfl
      have he := run_endRound (P := P) none l3
      have er : ({ st .busy with state := if (none : Option Code).isNone then .ready else .done, pending := none } : Loop) = st .ready := by rw [hst, hst]; rfl
      rw [er] at he
      refine ⟨_, _, he, rfl, ⟨hI.putObj _ i3 (by omega) l3 rfl, World.putObj_heap_same (Array.getElem?_eq_some_iff.1 l3).1, (World.putObj_heap_other (by omega)).trans k3⟩, ?_⟩
      exact kp _ (hKr x _ _ _ _ _ (by omega) la rfl rfl (hKl x _ _ _ _ _ (by omega) l3 rfl rfl kp3))
    | ret => exact hp.elim
    | exit id => exact hp.elim
    | goto t => exact hp.elim
    | panic ch => exact hp.elim
    | outgrown => exact hp.elim
end
end Go.Proofs.YtfbpjobobdidiaaGreatDoor


/- The iterator over who waits: each entry comes once, in any order; the body may take away who has just come. -/
namespace Go.Proofs.YtfbpjobobdidiaaGreatDoor
open Go.RowKit Go.Maps Go.Shelf
set_option linter.unusedVariables false
set_option maxRecDepth 100000
attribute [local go_sem] Oper.semAt_some

/-- what has come while the range is under way -/
def Got14 (es : List En) (left : Lit → Bool) (xs : List En) : Prop := xs.Nodup ∧ ∀ e, e ∈ xs ↔ e ∈ es ∧ left (klit e.s.w) = false
theorem Got14.start {D : DataW Unit} {es : List En} (h : Reads14 D es) : Got14 es (Maps.has D) [] := by
  refine ⟨List.Pairwise.nil, fun e => ⟨fun q => (by cases q), fun ⟨he, q⟩ => ?_⟩⟩
  rw [h.has _ (h.wf e he), hasE_iff.2 ⟨e, he, rfl⟩] at q
  cases q
abbrev strike14 (left : Lit → Bool) (x : Wt) : Lit → Bool := fun z => left z && !z.sameKey (klit x)
theorem Got14.step {es xs : List En} {left : Lit → Bool} {e : En} (h : Got14 es left xs) (hn : OnceE es) (hw : ∀ e ∈ es, wfW e.s.w) (he : e ∈ es) (hl : left (klit e.s.w) = true) : Got14 es (strike14 left e.s.w) (xs ++ [e]) := by
  refine ⟨?_, fun a => ?_⟩
  · unfold List.Nodup
    rw [List.pairwise_append]
    refine ⟨h.1, List.pairwise_singleton _ _, fun a ha b hb q => ?_⟩
    have : b = e := by simpa using hb
    subst this
    subst q
    have := ((h.2 _).1 ha).2
    rw [hl] at this
    cases this
  · rw [List.mem_append, h.2 a, List.mem_singleton]
    constructor
    · rintro (⟨ha, q⟩ | rfl)
      · exact ⟨ha, by show (left _ && _) = false; rw [q]; rfl⟩
      · exact ⟨he, by show (left _ && !_) = false; rw [WideAt.sameKey_self (klit_key _)]; simp⟩
    · rintro ⟨ha, q⟩
      by_cases k : a.s.w = e.s.w
      · exact .inr (hn.inj ha he k)
      · have q2 : (left (klit a.s.w) && !(klit a.s.w).sameKey (klit e.s.w)) = false := q
        rw [klit_same (hw a ha) (hw e he), decide_eq_false k] at q2
        simp at q2
        exact .inl ⟨ha, q2⟩
theorem Got14.over {es xs : List En} {left : Lit → Bool} (h : Got14 es left xs) (hn : OnceE es) (hl : ∀ kl, left kl = false) : xs.Perm es := by
  have m : ∀ e, e ∈ xs ↔ e ∈ es := fun e => by rw [h.2 e, hl]; simp
  exact (List.perm_ext_iff_of_nodup h.1 hn.nodup).2 m
theorem Got14.ok {es xs : List En} {left : Lit → Bool} {e : En} (h : Got14 es left xs) (he : e ∈ es) (hl : left (klit e.s.w) = true) : (xs ++ [e]).Nodup ∧ ∀ y ∈ xs ++ [e], y ∈ es := by
  refine ⟨?_, fun y hy => ?_⟩
  · rw [List.nodup_append]
    refine ⟨h.1, by simp, fun a ha b hb q => ?_⟩
    rw [List.mem_singleton.1 hb] at q
    subst q
    have := ((h.2 _).1 ha).2
    rw [hl] at this; cases this
  · rcases List.mem_append.1 hy with hy | hy
    · exact ((h.2 y).1 hy).1
    · rw [List.mem_singleton.1 hy]; exact he
/-- all that a map still has is what it had -/
def HasOf (es : List En) (D : DataW Unit) : Prop := ∀ kl, Maps.has D kl = true → ∃ e ∈ es, kl = klit e.s.w ∧ ∀ z, D.atKey kl z = stDat e.s.t e.n
/-- what a round may turn: the map keeps all but who has come -/
def Takes (b : Nat) (x : En) (W W' : World) : Prop := ∀ r n D left cnt, left (klit x.s.w) = false → W.ranges Tryz.prog 36 stElem b r n D left cnt →
  ∃ D' cnt', W'.ranges Tryz.prog 36 stElem b r n D' left cnt' ∧ cnt' ≤ cnt ∧ (D' = D ∨ D' = D.del (klit x.s.w))
abbrev encE (x : En) : Array Value := #[.agg #[.int .i64 x.s.w.r, .int .i64 x.s.w.p], .agg #[.int .i64 x.s.t, .int .i64 x.n]]
theorem HasOf.start {w : World} {b n : Nat} {D : DataW Unit} {es : List En} (o : w.ownsMap Tryz.prog 36 stElem b n D) (h : Reads14 D es) : HasOf es D := by
  intro kl hk
  obtain ⟨x, wx, rfl⟩ := key_wt o kl hk
  rw [h.has x wx] at hk
  obtain ⟨e, he, rfl⟩ := hasE_iff.1 hk
  exact ⟨e, he, rfl, h.at_ e he⟩
theorem HasOf.next {es : List En} {D D' : DataW Unit} {x : En} (h : HasOf es D) (hw : ∀ e ∈ es, wfW e.s.w) (hx : x ∈ es) (k : D' = D ∨ D' = D.del (klit x.s.w)) : HasOf es D' := by
  rcases k with rfl | rfl
  · exact h
  · intro kl hk
    by_cases e : kl = klit x.s.w
    · subst e; rw [has_del_same] at hk; cases hk
    · rw [has_del_other e] at hk
      obtain ⟨f, hf, rfl, k2⟩ := h kl hk
      exact ⟨f, hf, rfl, fun z => by rw [atKey_del_other e]; exact k2 z⟩

theorem has_true_of_atKey' {D : DataW Unit} {kl : Lit} {y : DataW Unit} (h : ∀ zd, D.atKey kl zd = y) : Maps.has D kl = true := has_true_of_atKey h

theorem all_any (p : Nat) (w : World) :
    Calls Tryz.prog 117 #[.pointer (some ⟨p, 0, none⟩)] w fun e w' =>
      e = .returned (.func (.func 149) #[] #[.pointer (some ⟨w.heap.size, 0, none⟩)]) ∧ w' = w.alloc (.cells #[.pointer (some ⟨p, 0, none⟩)] 93) := by
  go_enter Tryz.func117, Tryz.ntmps117
  go_wp2
  go_ret
  exact ⟨rfl, rfl⟩

set_option maxRecDepth 100000 in
set_option maxHeartbeats 2000000 in
theorem iter14 (m : Nat) (hm : 1 ≤ m) (l Bs b nn p : Nat) (D0 : DataW Unit) (es : List En) (room came : Int) (hr0 : Reads14 D0 es) (hon : OnceE es) (J : List En → World → Prop)
    (hY : ∀ pre x W, J pre W → ((pre ++ [x]).Nodup ∧ ∀ y ∈ pre ++ [x], y ∈ es) → YieldAt Fence.wide (m - 1) Tryz.prog l (encE x) W fun e W' => e = .returned (.bool true) ∧ J (pre ++ [x]) W' ∧ Takes b x W W')
    (W : World) (hJ : AbidesFrom W.heap.size J) (hBs : W.cell? ⟨Bs, 0, none⟩ = some (.pointer (some ⟨p, 0, none⟩))) (hR : Row W p 150 #[.int .i64 room, .map (some b), .int .i64 came]) (hown : W.ownsMap Tryz.prog 36 stElem b nn D0) (h0 : J [] W) :
    CallsIn Fence.wide m Tryz.prog 149 #[.func (.yield l) #[] #[], .pointer (some ⟨Bs, 0, none⟩)] W fun e W' => (∃ v, e = .returned v) ∧ ∃ xs, xs.Perm es ∧ J xs W' := by
  have c1 : W.cell? ⟨p, 1, none⟩ = some (.map (some b)) := by rw [hR.cell]; rfl
  have HO := Lib.hid (HasOf.start hown hr0)
  have HR := Lib.hid hr0
  have HN := Lib.hid hon
  clear hr0 hon hR
  refine callsIn_of_wp Tryz.func149 rfl trivial ?_ rfl
  simp only [Tryz.ntmps149, List.size_toArray, List.length_cons, List.length_nil, Nat.reduceAdd, Nat.reduceSub, Array.replicate_succ, Array.replicate_zero, List.push_toArray, List.append_toArray, List.nil_append, List.cons_append]
  gi_wp2_with (first
    | (gi_at_range; refine wpListIn_range_own _ rfl _ 148 rfl 36 193 lawW Tryz.underlying148 _ b nn _ rfl hown ?_; intro w0 hrg0 hg0 hs0)
    | gi_in)
  have J0 := hJ [] W w0 none h0 hg0 (fun r e => by cases e)
  clear h0
  go_frame
  gi_loopw [3] (fun _ wr => ∃ (left : Lit → Bool) (cnt : Nat) (xs : List En) (D : DataW Unit), wr.ranges Tryz.prog 36 stElem b W.heap.size nn D left cnt ∧ Got14 es left xs ∧ HasOf es D ∧ J xs wr)
    (fun _ wr => wr.rangeLeft b W.heap.size)
  case atStart => exact ⟨_, _, [], D0, hrg0, Got14.start HR.out, HO.out, J0⟩
  case round =>
    obtain ⟨left, cnt, xs, D, hrg, hC, hH, hJs⟩ := hrel
    gi_wp2_with (first
      | (gi_at_next; refine wpListIn_next_ranges _ rfl _ rfl 36 lawW stElem Wt.val (fun (q : Int × Int) => .agg #[.int .i64 q.1, .int .i64 q.2]) (fun key kl hk => by obtain ⟨x, hx, _⟩ := key_inv hk; exact ⟨x, hx⟩) (fun v y hv => by obtain ⟨t, n, hx, _⟩ := stElem_inv hv; exact ⟨(t, n), hx⟩) b W.heap.size nn _ _ _ rfl hrg ?_ ?_)
      | gi_in)
    · intro hc0 hl0
      gi_wp2
      go_end0
      exact ⟨⟨_, rfl⟩, xs, hC.over HN.out hl0, hJs⟩
    · intro x t tn kl yd yp w2 cnt2 hkey hlk hv hat hrg2 hlt hg2 hs2 hen
      obtain ⟨x', ex, wx, rfl⟩ := key_inv hkey
      have hx' : x = x' := by
        unfold Wt.val at ex
        simp at ex
        cases x; cases x'
        simp_all
      subst hx'
      obtain ⟨e, he, ek, ea⟩ := hH _ (has_true_of_atKey' hat)
      have exw : e.s.w = x := (klit_inj wx (HR.out.wf e he) ek).symm
      subst exw
      have yd0 : yd = stDat e.s.t e.n := (hat .nil).symm.trans (ea .nil)
      subst yd0
      have vv := stVal_of hv
      have tt : t = e.s.t ∧ tn = (e.n : Int) := by
        unfold stVal at vv
        simpa using vv
      obtain ⟨rfl, rfl⟩ := tt
      have J2 := hJ xs wr w2 (some W.heap.size) hJs hg2 (fun r q => by cases q; exact ⟨Nat.le_refl _, hrg.iter_walk⟩)
      have J3 := hJ xs _ _ none (hJ xs _ _ none J2 (World.grownBy_alloc w2 (.cells #[.int .i64 e.s.w.r, .int .i64 e.s.w.p] 36) none) (fun r q => by cases q)) (World.grownBy_alloc _ (.cells #[.int .i64 e.s.t, .int .i64 e.n] 193) none) (fun r q => by cases q)
      have OK := hC.ok he hlk
      obtain ⟨fn, tmps, assign, body, hy, hQ⟩ := hY xs e _ J3 OK
      have R3 := (hrg2.alloc (.cells #[.int .i64 e.s.w.r, .int .i64 e.s.w.p] 36)).alloc (.cells #[.int .i64 e.s.t, .int .i64 e.n] 193)
      have GS := Lib.hid (hC.step HN.out HR.out.wf he hlk)
      have HH := Lib.hid hH
      have HE := Lib.hid he
      have RR := Lib.hid R3
      have LT := Lib.hid hlt
      have RG := Lib.hid hrg
      unfold Wt.val at hen ⊢
      clear hs2 OK hkey hlk hv hat hrg2 hg2 hC hH he ek ea vv J2 J3 R3 hlt wx ex hJs
      gi_wp2
      refine hQ.mono ?_
      rintro e' W4 ⟨rfl, hJ4, hT⟩
      obtain ⟨D', cnt', r4, le4, hD⟩ := hT _ _ _ _ _ (show strike14 left e.s.w (klit e.s.w) = false from by show (left _ && !_) = false; rw [WideAt.sameKey_self (klit_key _)]; simp) RR.out
      gi_wp2
      go_roundw
      case rel => exact ⟨_, cnt', xs ++ [e], D', r4, GS.out, HH.out.next HR.out.wf HE.out hD, hJ4⟩
      case measure => rw [r4.left_eq, RG.out.left_eq]; have := LT.out; omega
end Go.Proofs.YtfbpjobobdidiaaGreatDoor


/- A row of waiters that is being sorted: in memory; how two of them compare, by a function of them (their turns). -/
namespace Go.Proofs.YtfbpjobobdidiaaGreatDoor
open Go.RowKit Go.Sort
set_option linter.unusedVariables false
set_option maxRecDepth 100000

def klt (κ : Wt → Int) (x y : Wt) : Bool := decide (κ x < κ y)
theorem klt_swo (κ : Wt → Int) : SWO (klt κ) where
  irrefl x := by unfold klt; simp
  trans x y z h1 h2 := by unfold klt at *; simp at *; omega
  ntrans x y z h1 h2 := by unfold klt at *; simp at *; omega
/-- how they compare -/
def kcmp (κ : Wt → Int) (x y : Wt) : Int := Go.Lib.compareInt (κ x) (κ y)
theorem kcmp_lt (κ : Wt → Int) (x y : Wt) : decide (kcmp κ x y < 0) = klt κ x y := by
  unfold kcmp klt Go.Lib.compareInt
  by_cases h1 : κ x < κ y
  · simp [h1]
  · by_cases h2 : κ y < κ x <;> simp [h1, h2]
theorem kcmp_yes {κ : Wt → Int} {x y : Wt} (h : klt κ x y = true) : kcmp κ x y < 0 := by rw [← kcmp_lt] at h; simpa using h
theorem kcmp_no {κ : Wt → Int} {x y : Wt} (h : klt κ x y = false) : ¬ kcmp κ x y < 0 := by rw [← kcmp_lt] at h; simpa using h

/-- the row at block g holds d; of what there was at first just it has turned -/
structure Sq (w0 w : World) (g : Nat) (d : Array Wt) : Prop where
  cell : ∀ i, i < d.size → w.cell? ⟨g, i * 2, none⟩ = some (.int .i64 d[i]!.r) ∧ w.cell? ⟨g, i * 2 + 1, none⟩ = some (.int .i64 d[i]!.p)
  fz : ∀ k, w.frozen? ⟨g, k, none⟩ = false
  ok : ∀ i, i < d.size → wfW d[i]!
  only : Only (fun k => k = g) w0 w
  lt : g < w.heap.size
theorem Sq.still {w0 w w' : World} {g : Nat} {d : Array Wt} (h : Sq w0 w g d) (o : Only none_ w w') : Sq w0 w' g d :=
  ⟨fun i hi => ⟨o.cell (h.cell i hi).1 (fun s => s), o.cell (h.cell i hi).2 (fun s => s)⟩, fun k => by
    have := o.block g h.lt (fun s => s)
    unfold World.frozen?
    rw [this]
    exact h.fz k, h.ok, h.only.idle o, Nat.lt_of_lt_of_le h.lt o.size⟩
theorem Sq.drew {w0 w : World} {g : Nat} {d : Array Wt} (h : Sq w0 w g d) : Sq w0 w.drew g d := h.still ((Only.refl _ _).drew)
theorem Sq.drewN {w0 w : World} {g : Nat} {d : Array Wt} (h : Sq w0 w g d) (n : Nat) : Sq w0 (w.drewN n) g d := h.still ((Only.refl _ _).drewN n)
/-- a waiter is laid at a place -/
def lay2 (w : World) (g i : Nat) (x : Wt) : World := (w.setCell ⟨g, i * 2, none⟩ (.int .i64 x.r)).setCell ⟨g, i * 2 + 1, none⟩ (.int .i64 x.p)
theorem lay2_frozen (w : World) (g i : Nat) (x : Wt) (a : Addr) : (lay2 w g i x).frozen? a = w.frozen? a := by unfold lay2; rw [World.frozen?_setCell, World.frozen?_setCell]
theorem lay2_size (w : World) (g i : Nat) (x : Wt) : (lay2 w g i x).heap.size = w.heap.size := by simp [lay2, World.setCell]
theorem lay2_only (w : World) (g i : Nat) (x : Wt) : Only (fun k => k = g) w (lay2 w g i x) := ((Only.refl (fun k => k = g) w).into rfl _ _).into rfl _ _
theorem cell_same {w : World} {g o : Nat} {v u : Value} (h : w.cell? ⟨g, o, none⟩ = some u) : (w.setCell ⟨g, o, none⟩ v).cell? ⟨g, o, none⟩ = some v := World.cell?_setCell_same' _ _ _ (by rw [h]; rfl)
theorem cell_else {w : World} {g o o' : Nat} {v : Value} (h : o ≠ o') : (w.setCell ⟨g, o', none⟩ v).cell? ⟨g, o, none⟩ = w.cell? ⟨g, o, none⟩ := by
  by_cases k : g < w.heap.size
  · unfold World.cell? World.setCell
    simp only [Array.getElem?_modify, if_true]
    cases hb : w.heap[g]? with
    | none => rfl
    | some ob =>
      cases ob <;> simp
      rename_i cs t fr
      rw [Array.getElem?_setIfInBounds_ne (fun e => h e.symm)]
  · unfold World.cell? World.setCell
    rw [Array.getElem?_eq_none (by simp; exact Nat.le_of_not_lt k), Array.getElem?_eq_none (Nat.le_of_not_lt k)]
theorem lay2_cell {w : World} {g i j : Nat} {x y : Wt} (h : w.cell? ⟨g, j * 2, none⟩ = some (.int .i64 y.r) ∧ w.cell? ⟨g, j * 2 + 1, none⟩ = some (.int .i64 y.p)) :
    (lay2 w g i x).cell? ⟨g, j * 2, none⟩ = some (.int .i64 (if j = i then x else y).r) ∧ (lay2 w g i x).cell? ⟨g, j * 2 + 1, none⟩ = some (.int .i64 (if j = i then x else y).p) := by
  unfold lay2
  by_cases e : j = i
  · subst e
    rw [if_pos rfl]
    refine ⟨?_, ?_⟩
    · rw [cell_else (by omega)]
      exact cell_same h.1
    · exact cell_same (u := .int .i64 y.p) (by rw [cell_else (by omega)]; exact h.2)
  · rw [if_neg e]
    refine ⟨?_, ?_⟩
    · rw [cell_else (by omega), cell_else (by omega)]; exact h.1
    · rw [cell_else (by omega), cell_else (by omega)]; exact h.2
theorem swp_at14 {d : Array Wt} {i j k : Nat} (hi : i < d.size) (hj : j < d.size) : (swp d i j)[k]! = if k = j then d[i]! else if k = i then d[j]! else d[k]! := by
  by_cases e : k = j
  · subst e; rw [if_pos rfl, swp_right d i k hj]
  · rw [if_neg e]
    by_cases e2 : k = i
    · subst e2; rw [if_pos rfl, swp_left d k j hi e]
    · rw [if_neg e2, swp_other d i j k e2 e]
/-- two change places -/
theorem Sq.swap {w0 w : World} {g : Nat} {d : Array Wt} (h : Sq w0 w g d) {i j : Nat} {x y : Wt} (hi : i < d.size) (hj : j < d.size) (hx : d[i]! = x) (hy : d[j]! = y) : Sq w0 (lay2 (lay2 w g i y) g j x) g (swp d i j) := by
  refine ⟨fun k hk => ?_, fun k => by rw [lay2_frozen, lay2_frozen]; exact h.fz k, fun k hk => ?_, h.only.same ((lay2_only w g i y).same (lay2_only _ g j x)), by rw [lay2_size, lay2_size]; exact h.lt⟩
  · rw [size_swp] at hk
    rw [swp_at14 hi hj]
    have := lay2_cell (i := j) (x := x) (lay2_cell (i := i) (x := y) (h.cell k hk))
    by_cases e : k = j
    · rw [if_pos e] at this ⊢; rw [hx]; exact this
    · rw [if_neg e] at this ⊢
      by_cases e2 : k = i
      · rw [if_pos e2] at this ⊢; rw [hy]; exact this
      · rw [if_neg e2] at this ⊢; exact this
  · rw [size_swp] at hk
    rw [swp_at14 hi hj]
    by_cases e : k = j
    · rw [if_pos e]; exact h.ok i hi
    · rw [if_neg e]
      by_cases e2 : k = i
      · rw [if_pos e2]; exact h.ok j hj
      · rw [if_neg e2]; exact h.ok k hk
/-- what compares two of them: the method of the register at block p -/
abbrev cmpV (p : Nat) : Value := .func (.func 123) #[.pointer (some ⟨p, 0, none⟩)] #[]
def Less (κ : Wt → Int) (w0 : World) (g p : Nat) : Prop := ∀ w, Only (fun k => k = g) w0 w → ∀ x y : Wt, wfW x → wfW y →
  Calls Tryz.prog 123 #[.pointer (some ⟨p, 0, none⟩), .agg #[.int .i64 x.r, .int .i64 x.p], .agg #[.int .i64 y.r, .int .i64 y.p]] w fun e w' => e = .returned (.int .i64 (kcmp κ x y)) ∧ Only none_ w w'
theorem Less.at_ {κ : Wt → Int} {w0 : World} {g p : Nat} (h : Less κ w0 g p) {w w' : World} {d : Array Wt} (s : Sq w0 w g d) (o : Only none_ w w') {i j : Nat} {x y : Wt} (hi : i < d.size) (hj : j < d.size) (hx : d[i]! = x) (hy : d[j]! = y) :
    Calls Tryz.prog 123 #[.pointer (some ⟨p, 0, none⟩), .agg #[.int .i64 x.r, .int .i64 x.p], .agg #[.int .i64 y.r, .int .i64 y.p]] w' fun e w'' => e = .returned (.int .i64 (kcmp κ x y)) ∧ Only none_ w' w'' :=
  h w' (s.only.idle o) x y (hx ▸ s.ok i hi) (hy ▸ s.ok j hj)
end Go.Proofs.YtfbpjobobdidiaaGreatDoor


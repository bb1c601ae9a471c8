/- The document's own turns: in memory; May, New, find, has, State. -/
import Derived.Test.YtmihinpbgppjlaaRs12
import Derived.Test.YtmihinpbgppjlaaSrc
import Derived.Test.YtmihinpbgppjlaaArgs
import Derived.Test.YtmihinpbgppjlaaChecked
import Derived.BigRegion
import Derived.BigQuiet
namespace Go.Proofs.Ytmihinpbgppjlaa
open Go.RowKit
set_option linter.unusedVariables false

theorem Owns.lower {α : Type} {w : World} {base base' : Nat} {e : TypeId} {k : Nat} {c : α → List Value} {v : Value} {xs : List α} (h : Owns w base e k c v xs) (hb : base' ≤ base) : Owns w base' e k c v xs := by
  refine ⟨h.1, ?_⟩
  rcases h.2 with h2 | ⟨g, cap, cur, hv, hg, r⟩
  · exact .inl h2
  · exact .inr ⟨g, cap, cur, hv, Nat.le_trans hb hg, r⟩
/-- a row of places of the document's own -/
abbrev OwnsSl (w : World) (base : Nat) (v : Value) (l : List Sl) : Prop := Owns w base 63 2 Sl.cells v l
theorem OwnsSl.form {w : World} {base : Nat} {v : Value} {l : List Sl} (h : OwnsSl w base v l) : ∃ A cap, v = .slice A l.length cap ∧ Holds w A 2 Sl.cells l := by
  rcases h.2 with ⟨hv, h2⟩ | ⟨g, cap, cur, hv, hg, hh, h3, h4, _⟩
  · have : l = [] := List.eq_nil_of_length_eq_zero h2
    subst this
    exact ⟨none, 0, hv, fun i a hi => by simp at hi⟩
  · have lt := (Array.getElem?_eq_some_iff.1 hh).1
    have h1 := h
    rw [hv] at h1
    refine ⟨_, _, hv, fun i a hi => ⟨g, 0, rfl, lt, fun j v hj => ?_⟩⟩
    rw [Nat.zero_add]
    have hj2 : j < 2 := by have := lt_of_get hj; rw [sl2] at this; exact this
    rw [Owns.cell h1 sl2 hi hj2]
    exact hj
/-- the document's own turns at block q; all their blocks are among M -/
structure RtAt (w : World) (q : Nat) (v1 v2 : Value) (M : Nat → Prop) (nd na : Nat) (ss : List Sl) : Prop where
  row : Row w q 40 #[v1, v2, .int .i64 nd, .int .i64 na]
  od : OwnsSl w 0 v1 (rowL false ss)
  oa : OwnsSl w 0 v2 (rowL true ss)
  apart : ∀ g, v1.ownBlock = some g → v2.ownBlock ≠ some g
  once : OnceL ss
  mq : M q
  m1 : ∀ g, v1.ownBlock = some g → M g
  m2 : ∀ g, v2.ownBlock = some g → M g
  lt : ∀ g, M g → g < w.heap.size
theorem RtAt.keep {w w' : World} {q : Nat} {v1 v2 : Value} {M : Nat → Prop} {nd na : Nat} {ss : List Sl} (h : RtAt w q v1 v2 M nd na ss) {S : Nat → Prop} (o : Only S w w') (hn : ∀ g, M g → ¬ S g) : RtAt w' q v1 v2 M nd na ss :=
  ⟨o.row h.row (hn q h.mq), Owns.keep h.od o (fun g hg => hn g (h.m1 g hg)), Owns.keep h.oa o (fun g hg => hn g (h.m2 g hg)), h.apart, h.once, h.mq, h.m1, h.m2, fun g hg => Nat.lt_of_lt_of_le (h.lt g hg) o.size⟩
theorem RtAt.still {w w' : World} {q : Nat} {v1 v2 : Value} {M : Nat → Prop} {nd na : Nat} {ss : List Sl} (h : RtAt w q v1 v2 M nd na ss) (o : Only none_ w w') : RtAt w' q v1 v2 M nd na ss := h.keep o (fun _ _ s => s)
/-- behind a call: its blocks are those that it had, and new ones -/
def RtTo (w : World) (q : Nat) (M : Nat → Prop) (nd na : Nat) (ss : List Sl) (w' : World) : Prop := (∃ v1 v2, ∃ M' : Nat → Prop, RtAt w' q v1 v2 M' nd na ss ∧ ∀ g, M' g → M g ∨ w.heap.size ≤ g) ∧ Only M w w'
theorem RtAt.to {w w' : World} {q : Nat} {v1 v2 : Value} {M : Nat → Prop} {nd na : Nat} {ss : List Sl} (h : RtAt w q v1 v2 M nd na ss) (o : Only none_ w w') : RtTo w q M nd na ss w' := ⟨⟨v1, v2, M, h.still o, fun g hg => .inl hg⟩, o.more (fun _ _ k => k.elim)⟩

def may12r (b r : Int) : Bool := decide (1 ≤ b ∧ b ≤ 64 ∧ 0 ≤ r ∧ r ≤ 64)
theorem rmay_any (b r : Int) (w : World) :
    Calls Try.prog 10 #[.int .i64 b, .int .i64 r] w fun e w' => e = .returned (.bool (may12r b r)) ∧ w = w' := by
  by_cases h0 : 1 ≤ b
  · have d0 : decide (1 ≤ b) = true := by simpa using h0
    by_cases h1 : b ≤ 64
    · have d1 : decide (b ≤ 64) = true := by simpa using h1
      by_cases h2 : 0 ≤ r
      · have d2 : decide (0 ≤ r) = true := by simpa using h2
        by_cases h3 : r ≤ 64
        · have d3 : decide (r ≤ 64) = true := by simpa using h3
          rw [show may12r b r = true from decide_eq_true ⟨h0, h1, h2, h3⟩]
          clear h0 h1 h2 h3
          go_enter Try.func10, Try.ntmps10
          go_wp2_with fail
          go_ret
          exact ⟨rfl, rfl⟩
        · have d3 : decide (r ≤ 64) = false := by simpa using h3
          rw [show may12r b r = false from decide_eq_false (fun q => h3 q.2.2.2)]
          clear h0 h1 h2 h3
          go_enter Try.func10, Try.ntmps10
          go_wp2_with fail
          go_ret
          exact ⟨rfl, rfl⟩
      · have d2 : decide (0 ≤ r) = false := by simpa using h2
        rw [show may12r b r = false from decide_eq_false (fun q => h2 q.2.2.1)]
        clear h0 h1 h2
        go_enter Try.func10, Try.ntmps10
        go_wp2_with fail
        go_ret
        exact ⟨rfl, rfl⟩
    · have d1 : decide (b ≤ 64) = false := by simpa using h1
      rw [show may12r b r = false from decide_eq_false (fun q => h1 q.2.1)]
      clear h0 h1
      go_enter Try.func10, Try.ntmps10
      go_wp2_with fail
      go_ret
      exact ⟨rfl, rfl⟩
  · have d0 : decide (1 ≤ b) = false := by simpa using h0
    rw [show may12r b r = false from decide_eq_false (fun q => h0 q.1)]
    clear h0
    go_enter Try.func10, Try.ntmps10
    go_wp2_with fail
    go_ret
    exact ⟨rfl, rfl⟩
theorem rnew_any (nd na : Nat) (w : World) :
    Calls Try.prog 11 #[.int .i64 nd, .int .i64 na] w fun e w' => ∃ q, e = .returned (.pointer (some ⟨q, 0, none⟩)) ∧ (∃ v1 v2, ∃ M : Nat → Prop, RtAt w' q v1 v2 M nd na [] ∧ ∀ g, M g → w.heap.size ≤ g) ∧ Only none_ w w' := by
  go_enter Try.func11, Try.ntmps11
  go_wp2_with fail
  go_ret
  have r1 := Row.fresh w 40 #[.slice none 0 0, .slice none 0 0, .int .i64 nd, .int .i64 na]
  have oa := (Only.refl none_ w).alloc (.cells #[.slice none 0 0, .slice none 0 0, .int .i64 nd, .int .i64 na] 40)
  refine ⟨w.heap.size, rfl, ⟨_, _, fun g => g = w.heap.size, ⟨r1, Owns.start _ _ _ _ _, Owns.start _ _ _ _ _, fun g hg => (by cases hg), List.Pairwise.nil, rfl, fun g hg => (by cases hg), fun g hg => (by cases hg), fun g hg => by simp only [World.size_alloc]; omega⟩, fun g hg => by omega⟩, oa⟩

set_option maxHeartbeats 1000000 in
theorem rfind_any {base : Nat} {v : Value} {l : List Sl} (x : Int) (w : World) (h : OwnsSl w base v l) (hl : l.length ≤ 1000) :
    Calls Try.prog 31 #[v, .int .i64 x] w fun e w' => e = .returned (.int .i64 (ixL l x)) ∧ w = w' := by
  obtain ⟨A, cap, rfl, ha⟩ := h.form
  have HA := Lib.hid ha
  clear h ha
  go_enter Try.func31, Try.ntmps31
  go_wp2_with fail
  go_loop [5] (fun i => ∃ k : Nat, k ≤ l.length ∧ i = .int .i64 k ∧ ∀ j a, j < k → l[j]? = some a → a.k ≠ x) (fun i => l.length - (intOf i).toNat)
  case atStart => exact ⟨0, Nat.zero_le _, rfl, fun j a hj => by omega⟩
  case round =>
    obtain ⟨k, hk, rfl, hn⟩ := hrel
    have HN := Lib.hid hn
    clear hn
    by_cases hlt : k < l.length
    · obtain ⟨y, hy⟩ : ∃ y, l[k]? = some y := ⟨_, List.getElem?_eq_getElem hlt⟩
      obtain ⟨g1, o1, rfl, lt1, c1⟩ := HA.out k y hy
      have c0 : w.cell? ⟨g1, o1 + k * 2, none⟩ = some (.int .i64 y.k) := c1 0 (.int .i64 y.k) rfl
      have HY := Lib.hid hy
      clear hy c1
      by_cases e : y.k = x
      · have t : (y.k == x) = true := by simp [e]
        have FE := Lib.hid (show ixL l x = k from ix_at HY.out e HN.out)
        clear e
        go_wp2_with fail
        go_ret
        exact ⟨by rw [FE.out]; try rfl, rfl⟩
      · have t : (y.k == x) = false := by simpa using e
        have NX := Lib.hid (show ∀ j a, j < k + 1 → l[j]? = some a → a.k ≠ x from fun j a hj ha => by
          by_cases q : j = k
          · subst q; rw [HY.out] at ha; injection ha with ha; subst ha; exact e
          · exact HN.out j a (by omega) ha)
        clear e
        go_wp2_with fail
        go_round
        case rel => exact ⟨k + 1, by omega, by go_num, NX.out⟩
        case measure => simp [intOf]; omega
    · have hge : l.length ≤ k := by omega
      have FE := Lib.hid (show ixL l x = -1 from ix_no (fun j a ha => HN.out j a (Nat.lt_of_lt_of_le (lt_of_get ha) hge) ha))
      go_wp2_with fail
      go_ret
      exact ⟨by rw [FE.out]; try rfl, rfl⟩
theorem ix_ge (l : List Sl) (x : Int) : (∃ i : Nat, ixL l x = i) ∨ ixL l x = -1 := by
  rcases ix_cases l x with ⟨i, y, h, _⟩ | ⟨h, _⟩
  · exact .inl ⟨i, h⟩
  · exact .inr h
theorem has_ix (ss : List Sl) (x : Int) : hasL ss x = (decide (0 ≤ ixL (rowL false ss) x) || decide (0 ≤ ixL (rowL true ss) x)) := by
  rcases ix_cases (rowL false ss) x with ⟨i, y, h, hy, e⟩ | ⟨h, h1⟩
  · rw [h]
    have := row_mem.1 (List.mem_of_getElem? hy)
    rw [hasL_iff.2 ⟨y, this.1, e⟩]
    simp
  · rcases ix_cases (rowL true ss) x with ⟨i, y, h', hy, e⟩ | ⟨h', h2⟩
    · rw [h, h']
      have := row_mem.1 (List.mem_of_getElem? hy)
      rw [hasL_iff.2 ⟨y, this.1, e⟩]
      simp
    · rw [h, h', stand_no h1 h2]
      rfl
theorem rhas_any {q : Nat} {v1 v2 : Value} {M : Nat → Prop} {nd na : Nat} {ss : List Sl} (x : Int) (w : World) (h : RtAt w q v1 v2 M nd na ss) (hl : ss.length ≤ 1000) :
    Calls Try.prog 42 #[.pointer (some ⟨q, 0, none⟩), .int .i64 x] w fun e w' => e = .returned (.bool (hasL ss x)) ∧ w = w' := by
  have l1 := row_le false ss
  have l2 := row_le true ss
  have F1 := Lib.hid (rfind_any x w h.od (by omega))
  have F2 := Lib.hid (rfind_any x w h.oa (by omega))
  have c0 : w.cell? ⟨q, 0, none⟩ = some v1 := by rw [h.row.cell]; rfl
  have c1 : w.cell? ⟨q, 1, none⟩ = some v2 := by rw [h.row.cell]; rfl
  rw [has_ix]
  clear h l1 l2
  generalize ixL (rowL false ss) x = i at *
  generalize ixL (rowL true ss) x = k at *
  cases d : decide (0 ≤ i) with
  | true =>
    go_enter Try.func42, Try.ntmps42
    go_wp2_with fail
    (with_reducible refine F1.out.mono ?_)
    rintro e w' ⟨rfl, rfl⟩
    go_wp2_with fail
    go_ret
    exact ⟨rfl, rfl⟩
  | false =>
    go_enter Try.func42, Try.ntmps42
    go_wp2_with fail
    (with_reducible refine F1.out.mono ?_)
    rintro e w' ⟨rfl, rfl⟩
    go_wp2_with fail
    (with_reducible refine F2.out.mono ?_)
    rintro e w' ⟨rfl, rfl⟩
    go_wp2_with fail
    go_ret
    exact ⟨by rw [Bool.false_or]; rfl, rfl⟩
end Go.Proofs.Ytmihinpbgppjlaa

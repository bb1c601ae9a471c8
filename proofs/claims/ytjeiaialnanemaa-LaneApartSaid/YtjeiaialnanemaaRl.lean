/- The document's own lanes: in memory; May, New, where a ticket stands. -/
import Derived.Test.YtjeiaialnanemaaSd
import Derived.Test.YtjeiaialnanemaaOwn
import Derived.Test.YtjeiaialnanemaaArgs
import Derived.BigRegion
namespace Go.Proofs.Ytjeiaialnanemaa
open Go.RowKit
set_option linter.unusedVariables false

theorem Owns.lower11 {α : Type} {w : World} {base base' : Nat} {e : TypeId} {k : Nat} {c : α → List Value} {v : Value} {xs : List α} (h : Owns w base e k c v xs) (hb : base' ≤ base) : Owns w base' e k c v xs := by
  refine ⟨h.1, ?_⟩
  rcases h.2 with h2 | ⟨g, cap, cur, hv, hg, r⟩
  · exact .inl h2
  · exact .inr ⟨g, cap, cur, hv, Nat.le_trans hb hg, r⟩
/-- a slice of tickets of the call's own, at a block that is among some -/
def OwnsSd (w : World) (M : Nat → Prop) (v : Value) (ss : List Sd) : Prop := Owns w 0 60 2 Sd.cells v ss ∧ ∀ g, v.ownBlock = some g → M g
theorem OwnsSd.keep {w w' : World} {M : Nat → Prop} {v : Value} {ss : List Sd} (h : OwnsSd w M v ss) {S : Nat → Prop} (o : Only S w w') (hn : ∀ g, M g → ¬ S g) : OwnsSd w' M v ss := ⟨h.1.keep o (fun g hg => hn g (h.2 g hg)), h.2⟩
theorem OwnsSd.form {w : World} {M : Nat → Prop} {v : Value} {ss : List Sd} (h : OwnsSd w M v ss) : ∃ A cap, v = .slice A ss.length cap ∧ Holds w A 2 Sd.cells ss := by
  rcases h.1.2 with ⟨hv, h2⟩ | ⟨g, cap, cur, hv, hg, hh, h3, h4, _⟩
  · have : ss = [] := List.eq_nil_of_length_eq_zero h2
    subst this
    exact ⟨none, 0, hv, fun i a hi => by simp at hi⟩
  · have lt := (Array.getElem?_eq_some_iff.1 hh).1
    have h1 := h.1
    rw [hv] at h1
    refine ⟨_, _, hv, fun i a hi => ⟨g, 0, rfl, lt, fun j v hj => ?_⟩⟩
    rw [Nat.zero_add]
    have hj2 : j < 2 := by have := lt_of_get hj; rw [sd2] at this; exact this
    rw [Owns.cell h1 sd2 hi hj2]
    exact hj
/-- the document's own lanes at block q; all their blocks are among M -/
structure RL (w : World) (q : Nat) (v : Value) (M : Nat → Prop) (n room : Nat) (ss : List Sd) : Prop where
  row : Row w q 41 #[.int .i64 n, .int .i64 room, v]
  own : OwnsSd w M v ss
  mq : M q
  lt : ∀ g, M g → g < w.heap.size
theorem RL.keep {w w' : World} {q : Nat} {v : Value} {M : Nat → Prop} {n room : Nat} {ss : List Sd} (h : RL w q v M n room ss) {S : Nat → Prop} (o : Only S w w') (hn : ∀ g, M g → ¬ S g) : RL w' q v M n room ss :=
  ⟨o.row h.row (hn q h.mq), h.own.keep o hn, h.mq, fun g hg => Nat.lt_of_lt_of_le (h.lt g hg) o.size⟩
theorem RL.still {w w' : World} {q : Nat} {v : Value} {M : Nat → Prop} {n room : Nat} {ss : List Sd} (h : RL w q v M n room ss) (o : Only none_ w w') : RL w' q v M n room ss := h.keep o (fun _ _ s => s)
/-- behind a call: its blocks are those that it had, and new ones -/
def RLto (w : World) (q : Nat) (M : Nat → Prop) (n room : Nat) (ss : List Sd) (w' : World) : Prop := (∃ v, ∃ M' : Nat → Prop, RL w' q v M' n room ss ∧ ∀ g, M' g → M g ∨ w.heap.size ≤ g) ∧ Only M w w'

def may11 (b r : Int) : Bool := decide (1 ≤ b ∧ b ≤ 256 ∧ 1 ≤ r ∧ r ≤ 128)
theorem may11_any (b r : Int) (w : World) :
    Calls Try.prog 10 #[.int .i64 b, .int .i64 r] w fun e w' => e = .returned (.bool (may11 b r)) ∧ w = w' := by
  by_cases h0 : 1 ≤ b
  · have d0 : decide (1 ≤ b) = true := by simpa using h0
    by_cases h1 : b ≤ 256
    · have d1 : decide (b ≤ 256) = true := by simpa using h1
      by_cases h2 : 1 ≤ r
      · have d2 : decide (1 ≤ r) = true := by simpa using h2
        by_cases h3 : r ≤ 128
        · have d3 : decide (r ≤ 128) = true := by simpa using h3
          rw [show may11 b r = true from decide_eq_true ⟨h0, h1, h2, h3⟩]
          clear h0 h1 h2 h3
          go_enter Try.func10, Try.ntmps10
          go_wp2_with fail
          go_ret
          exact ⟨rfl, rfl⟩
        · have d3 : decide (r ≤ 128) = false := by simpa using h3
          rw [show may11 b r = false from decide_eq_false (fun q => h3 q.2.2.2)]
          clear h0 h1 h2 h3
          go_enter Try.func10, Try.ntmps10
          go_wp2_with fail
          go_ret
          exact ⟨rfl, rfl⟩
      · have d2 : decide (1 ≤ r) = false := by simpa using h2
        rw [show may11 b r = false from decide_eq_false (fun q => h2 q.2.2.1)]
        clear h0 h1 h2
        go_enter Try.func10, Try.ntmps10
        go_wp2_with fail
        go_ret
        exact ⟨rfl, rfl⟩
    · have d1 : decide (b ≤ 256) = false := by simpa using h1
      rw [show may11 b r = false from decide_eq_false (fun q => h1 q.2.1)]
      clear h0 h1
      go_enter Try.func10, Try.ntmps10
      go_wp2_with fail
      go_ret
      exact ⟨rfl, rfl⟩
  · have d0 : decide (1 ≤ b) = false := by simpa using h0
    rw [show may11 b r = false from decide_eq_false (fun q => h0 q.1)]
    clear h0
    go_enter Try.func10, Try.ntmps10
    go_wp2_with fail
    go_ret
    exact ⟨rfl, rfl⟩
theorem rnew11_any (n room : Nat) (w : World) :
    Calls Try.prog 11 #[.int .i64 n, .int .i64 room] w fun e w' => ∃ q, e = .returned (.pointer (some ⟨q, 0, none⟩)) ∧ (∃ v, ∃ M : Nat → Prop, RL w' q v M n room [] ∧ ∀ g, M g → w.heap.size ≤ g) ∧ Only none_ w w' := by
  go_enter Try.func11, Try.ntmps11
  go_wp2_with fail
  go_ret
  have r1 := Row.fresh w 41 #[.int .i64 n, .int .i64 room, .slice none 0 0]
  have oa := (Only.refl none_ w).alloc (.cells #[.int .i64 n, .int .i64 room, .slice none 0 0] 41)
  refine ⟨w.heap.size, rfl, ⟨_, fun g => g = w.heap.size, ⟨r1, ⟨Owns.start _ _ _ _ _, fun g hg => by cases hg⟩, rfl, fun g hg => by simp only [World.size_alloc]; omega⟩, fun g hg => by omega⟩, oa⟩

set_option maxHeartbeats 1000000 in
theorem at11_any {q : Nat} {v : Value} {M : Nat → Prop} {n room : Nat} {ss : List Sd} (x : Int) (w : World) (h : RL w q v M n room ss) (hl : ss.length ≤ 1000) :
    Calls Try.prog 29 #[.pointer (some ⟨q, 0, none⟩), .int .i64 x] w fun e w' => e = .returned (.int .i64 (tkI ss x)) ∧ w = w' := by
  obtain ⟨r, o, _, _⟩ := h
  obtain ⟨A, cap, rfl, ha⟩ := o.form
  have HA := Lib.hid ha
  have c2 : w.cell? ⟨q, 2, none⟩ = some (.slice A ss.length cap) := by rw [r.cell]; rfl
  clear r o ha
  go_enter Try.func29, Try.ntmps29
  go_wp2_with fail
  go_loop [5] (fun i => ∃ k : Nat, k ≤ ss.length ∧ i = .int .i64 k ∧ ∀ j a, j < k → ss[j]? = some a → a.k ≠ x) (fun i => ss.length - (intOf i).toNat)
  case atStart => exact ⟨0, Nat.zero_le _, rfl, fun j a hj => by omega⟩
  case round =>
    obtain ⟨k, hk, rfl, hn⟩ := hrel
    have HN := Lib.hid hn
    clear hn
    by_cases hlt : k < ss.length
    · obtain ⟨y, hy⟩ : ∃ y, ss[k]? = some y := ⟨_, List.getElem?_eq_getElem hlt⟩
      obtain ⟨g1, o1, rfl, lt1, c1⟩ := HA.out k y hy
      have c0 : w.cell? ⟨g1, o1 + k * 2 + 1, none⟩ = some (.int .i64 y.k) := c1 1 (.int .i64 y.k) rfl
      have HY := Lib.hid hy
      clear hy c1
      by_cases e : y.k = x
      · have t : (y.k == x) = true := by simp [e]
        have FE := Lib.hid (show tkI ss x = k from by unfold tkI; rw [tk_at HY.out e HN.out])
        clear e
        go_wp2_with fail
        go_ret
        exact ⟨by rw [FE.out]; try rfl, rfl⟩
      · have t : (y.k == x) = false := by simpa using e
        have NX := Lib.hid (show ∀ j a, j < k + 1 → ss[j]? = some a → a.k ≠ x from fun j a hj ha => by
          by_cases q : j = k
          · subst q; rw [HY.out] at ha; injection ha with ha; subst ha; exact e
          · exact HN.out j a (by omega) ha)
        clear e
        go_wp2_with fail
        go_round
        case rel => exact ⟨k + 1, by omega, by go_num, NX.out⟩
        case measure => simp [intOf]; omega
    · have hge : ss.length ≤ k := by omega
      have FE := Lib.hid (show tkI ss x = -1 from by unfold tkI; rw [tk_no (fun j a ha => HN.out j a (Nat.lt_of_lt_of_le (lt_of_get ha) hge) ha)])
      go_wp2_with fail
      go_ret
      exact ⟨by rw [FE.out]; try rfl, rfl⟩
theorem block11_any {q : Nat} {v : Value} {M : Nat → Prop} {n room : Nat} {ss : List Sd} (x : Int) (w : World) (h : RL w q v M n room ss) (hl : ss.length ≤ 1000) :
    Calls Try.prog 21 #[.pointer (some ⟨q, 0, none⟩), .int .i64 x] w fun e w' => e = .returned (.tuple #[.int .i64 (blockI ss x), .bool (tkAt ss x).isSome]) ∧ Only none_ w w' := by
  have AT := Lib.hid (at11_any x w h hl)
  obtain ⟨r, o, _, _⟩ := h
  obtain ⟨A, cap, rfl, ha⟩ := o.form
  have HA := Lib.hid ha
  have c2 : w.cell? ⟨q, 2, none⟩ = some (.slice A ss.length cap) := by rw [r.cell]; rfl
  clear r o ha
  cases hk : tkAt ss x with
  | none =>
    have E := Lib.hid (show tkI ss x = -1 ∧ blockI ss x = 0 from by unfold tkI blockI; rw [hk]; exact ⟨rfl, rfl⟩)
    clear hk
    go_enter Try.func21, Try.ntmps21
    go_wp2_with fail
    (with_reducible refine AT.out.mono ?_)
    rintro e w' ⟨rfl, rfl⟩
    rw [E.out.1]
    go_wp2_with fail
    go_ret2
    exact ⟨by rw [E.out.2]; rfl, Only.refl _ _⟩
  | some k =>
    obtain ⟨s, hs, _⟩ := tk_of hk
    have E := Lib.hid (show tkI ss x = k ∧ blockI ss x = s.b from by unfold tkI blockI; rw [hk]; simp [hs])
    have lk := lt_of_get hs
    obtain ⟨g1, o1, rfl, lt1, c1⟩ := HA.out k s hs
    have c0 : w.cell? ⟨g1, o1 + k * 2, none⟩ = some (.int .i64 s.b) := c1 0 (.int .i64 s.b) rfl
    have dn : decide ((k : Int) < 0) = false := by simp
    clear hk c1 hs
    go_enter Try.func21, Try.ntmps21
    go_wp2_with fail
    (with_reducible refine AT.out.mono ?_)
    rintro e w' ⟨rfl, rfl⟩
    rw [E.out.1]
    go_wp2_with fail
    go_ret2
    exact ⟨by rw [E.out.2]; rfl, Only.refl _ _⟩
end Go.Proofs.Ytjeiaialnanemaa

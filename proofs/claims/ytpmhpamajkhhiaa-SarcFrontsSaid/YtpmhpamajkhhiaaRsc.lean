/- The document's own policy in memory; its small functions; the counts weighed. -/
import Derived.Test.YtpmhpamajkhhiaaRfFront
import Derived.Test.YtpmhpamajkhhiaaRfQ
import Derived.Test.YtpmhpamajkhhiaaSc
import Derived.Test.YtpmhpamajkhhiaaCross7
import Derived.Test.YtpmhpamajkhhiaaFind
import Derived.Deep.RegionHeld3
namespace Go.Proofs.Ytpmhpamajkhhiaa
open Go.RowKit
set_option linter.unusedVariables false

/-- the blocks at which the document's own lists may lie -/
def okB (ro : Nat → Prop) (vu : Value) : Nat → Prop := fun g => ro g ∧ vu.ownBlock ≠ some g
/-- the document's own policy: at block r, its shelf at block q, the marks at block hb, all rows at blocks that may be -/
structure RRaw (w : World) (r q hb : Nat) (ro : Nat → Prop) (c : Sc) : Prop where
  it : ∃ vu, Row w r 67 #[.pointer (some ⟨q, 0, none⟩), .int .i64 c.want, .int .u64 c.miss, .int .u64 c.hits, vu] ∧ OwnsOk w ro vu (ints c.us) ∧ RSh w q hb (okB ro vu) c.s
  rq : r ≠ q
  rh : r ≠ hb
  rb : ¬ ro r
  qb : ¬ ro q
  hbb : ¬ ro hb
  bw : ∀ g, w.heap.size ≤ g → ro g
structure RSc (w : World) (r q hb : Nat) (ro : Nat → Prop) (c : Sc) : Prop where
  raw : RRaw w r q hb ro c
  fine : c.Fine
/-- what the document's own calls may turn -/
def rset (r q hb : Nat) (ro : Nat → Prop) : Nat → Prop := fun k => k = r ∨ k = q ∨ k = hb ∨ ro k
section
variable {w w' : World} {r q hb : Nat} {ro : Nat → Prop} {c : Sc}
theorem RRaw.keep (h : RRaw w r q hb ro c) {S : Nat → Prop} (k : Only S w w') (hr : ¬ S r) (hq : ¬ S q) (hh : ¬ S hb) (hB : ∀ g, ro g → ¬ S g) : RRaw w' r q hb ro c := by
  obtain ⟨⟨vu, rw_, o, s⟩, a1, a2, a3, a4, a5, a6⟩ := h
  exact ⟨⟨vu, k.row rw_ hr, o.keep k hB, s.keep k hq hh (fun g hg => hB g hg.1)⟩, a1, a2, a3, a4, a5, fun g hg => a6 g (Nat.le_trans k.size hg)⟩
theorem RRaw.still (h : RRaw w r q hb ro c) (k : Only none_ w w') : RRaw w' r q hb ro c := h.keep k (fun s => s) (fun s => s) (fun s => s) (fun _ _ s => s)
theorem RSc.still (h : RSc w r q hb ro c) (k : Only none_ w w') : RSc w' r q hb ro c := ⟨h.raw.still k, h.fine⟩
theorem RSc.keep (h : RSc w r q hb ro c) {S : Nat → Prop} (k : Only S w w') (hr : ¬ S r) (hq : ¬ S q) (hh : ¬ S hb) (hB : ∀ g, ro g → ¬ S g) : RSc w' r q hb ro c := ⟨h.raw.keep k hr hq hh hB, h.fine⟩
theorem RRaw.mono (h : RRaw w r q hb ro c) {ro' : Nat → Prop} (k : ∀ g, g < w.heap.size → ro g → ro' g) (hr : ¬ ro' r) (hq : ¬ ro' q) (hh : ¬ ro' hb) (hn : ∀ g, w.heap.size ≤ g → ro' g) : RRaw w r q hb ro' c := by
  obtain ⟨⟨vu, rw_, o, s⟩, a1, a2, a3, a4, a5, a6⟩ := h
  refine ⟨⟨vu, rw_, ⟨o.1, fun g hg => k g (o.lt hg) (o.2 g hg)⟩, s.mono (fun g hg e => ⟨k g hg e.1, e.2⟩) (fun e => hq e.1) (fun e => hh e.1) (fun g hg => ⟨hn g hg, fun e => ?_⟩)⟩, a1, a2, hr, hq, hh, hn⟩
  have := o.lt e
  omega
theorem RSc.mono (h : RSc w r q hb ro c) {ro' : Nat → Prop} (k : ∀ g, g < w.heap.size → ro g → ro' g) (hr : ¬ ro' r) (hq : ¬ ro' q) (hh : ¬ ro' hb) (hn : ∀ g, w.heap.size ≤ g → ro' g) : RSc w r q hb ro' c := ⟨h.raw.mono k hr hq hh hn, h.fine⟩
theorem RRaw.r0 (h : RRaw w r q hb ro c) : w.cell? ⟨r, 0, none⟩ = some (.pointer (some ⟨q, 0, none⟩)) := by obtain ⟨⟨vu, rw_, o, s⟩, _⟩ := h; exact (rw_.cell 0).trans rfl
theorem RRaw.r1 (h : RRaw w r q hb ro c) : w.cell? ⟨r, 1, none⟩ = some (.int .i64 c.want) := by obtain ⟨⟨vu, rw_, o, s⟩, _⟩ := h; exact (rw_.cell 1).trans rfl
theorem RRaw.r2 (h : RRaw w r q hb ro c) : w.cell? ⟨r, 2, none⟩ = some (.int .u64 c.miss) := by obtain ⟨⟨vu, rw_, o, s⟩, _⟩ := h; exact (rw_.cell 2).trans rfl
theorem RRaw.r3 (h : RRaw w r q hb ro c) : w.cell? ⟨r, 3, none⟩ = some (.int .u64 c.hits) := by obtain ⟨⟨vu, rw_, o, s⟩, _⟩ := h; exact (rw_.cell 3).trans rfl
theorem RRaw.q0 (h : RRaw w r q hb ro c) : w.cell? ⟨q, 0, none⟩ = some (.int .i64 c.s.n) := by obtain ⟨⟨vu, rw_, o, ⟨f, ⟨v0, v1, x, _⟩, _⟩⟩, _⟩ := h; exact (x.cell 0).trans rfl
theorem RRaw.q1 (h : RRaw w r q hb ro c) : w.cell? ⟨q, 1, none⟩ = some (.int .i64 c.s.bot) := by obtain ⟨⟨vu, rw_, o, ⟨f, ⟨v0, v1, x, _⟩, _⟩⟩, _⟩ := h; exact (x.cell 1).trans rfl
theorem RRaw.q4 (h : RRaw w r q hb ro c) : w.cell? ⟨q, 4, none⟩ = some (.slice (some ⟨hb, 0, none⟩) c.s.n c.s.n) := by obtain ⟨⟨vu, rw_, o, ⟨f, ⟨v0, v1, x, _⟩, _⟩⟩, _⟩ := h; exact (x.cell 4).trans rfl
theorem RRaw.frz (h : RRaw w r q hb ro c) : ∀ i, w.frozen? ⟨r, i, none⟩ = false := by obtain ⟨⟨vu, rw_, o, s⟩, _⟩ := h; exact rw_.frozen
theorem RRaw.lt (h : RRaw w r q hb ro c) : r < w.heap.size := by obtain ⟨⟨vu, rw_, o, s⟩, _⟩ := h; exact rw_.lt
theorem RRaw.mark (h : RRaw w r q hb ro c) {j : Nat} (hj : j < c.s.n) : w.cell? ⟨hb, j, none⟩ = some (.bool (c.s.h j)) := by obtain ⟨⟨vu, rw_, o, s⟩, _⟩ := h; exact s.marked hj
theorem RRaw.list0 (h : RRaw w r q hb ro c) : ∃ a n k, w.cell? ⟨q, 2, none⟩ = some (.slice a n k) ∧ n = c.s.l0.length ∧ Reads w (.slice a n k) (ints c.s.l0) := by
  obtain ⟨⟨vu, rw_, o, s⟩, _⟩ := h
  obtain ⟨v, cv, ov⟩ := s.listAt (k := 0) (by decide)
  have rv := Reads.of_owns ov
  obtain ⟨a, k, rfl, hc⟩ := rv
  rw [ints_len] at cv
  exact ⟨a, _, k, cv, rfl, ⟨a, k, by rw [ints_len]; rfl, hc⟩⟩
theorem RRaw.list1 (h : RRaw w r q hb ro c) : ∃ a n k, w.cell? ⟨q, 3, none⟩ = some (.slice a n k) ∧ n = c.s.l1.length ∧ Reads w (.slice a n k) (ints c.s.l1) := by
  obtain ⟨⟨vu, rw_, o, s⟩, _⟩ := h
  obtain ⟨v, cv, ov⟩ := s.listAt (k := 1) (by decide)
  have rv := Reads.of_owns ov
  obtain ⟨a, k, rfl, hc⟩ := rv
  rw [ints_len] at cv
  exact ⟨a, _, k, cv, rfl, ⟨a, k, by rw [ints_len]; rfl, hc⟩⟩
theorem RRaw.shelfFine (h : RRaw w r q hb ro c) : c.s.Fine := by obtain ⟨⟨vu, rw_, o, s⟩, _⟩ := h; exact s.fine
/-- a cell of its own is set -/
theorem RRaw.put_ (h : RRaw w r q hb ro c) (i : Nat) (v : Value) (c' : Sc) (hs : c'.s = c.s) (hu : c'.us = c.us)
    (he : ∀ vu, (#[.pointer (some ⟨q, 0, none⟩), .int .i64 c.want, .int .u64 c.miss, .int .u64 c.hits, vu] : Array Value).setIfInBounds i v = #[.pointer (some ⟨q, 0, none⟩), .int .i64 c'.want, .int .u64 c'.miss, .int .u64 c'.hits, vu]) : RRaw (w.setCell ⟨r, i, none⟩ v) r q hb ro c' := by
  obtain ⟨⟨vu, rw_, o, s⟩, a1, a2, a3, a4, a5, a6⟩ := h
  have k : Only (fun k => k = r) w (w.setCell ⟨r, i, none⟩ v) := (Only.refl (fun k => k = r) w).into rfl _ _
  refine ⟨⟨vu, ?_, ?_, ?_⟩, a1, a2, a3, a4, a5, fun g hg => a6 g (Nat.le_trans k.size hg)⟩
  · have := rw_.put i v
    rw [he vu] at this
    exact this
  · rw [hu]
    exact o.keep k (fun g hg e => a3 (e ▸ hg))
  · rw [hs]
    exact s.keep k (fun e => a1 e.symm) (fun e => a2 e.symm) (fun g hg e => a3 (e ▸ hg.1))
theorem RRaw.setW (h : RRaw w r q hb ro c) (x : Nat) : RRaw (w.setCell ⟨r, 1, none⟩ (.int .i64 x)) r q hb ro ⟨c.s, c.us, x, c.miss, c.hits⟩ := h.put_ _ _ _ rfl rfl (fun _ => rfl)
theorem RRaw.setM (h : RRaw w r q hb ro c) (x : Nat) : RRaw (w.setCell ⟨r, 2, none⟩ (.int .u64 x)) r q hb ro ⟨c.s, c.us, c.want, x, c.hits⟩ := h.put_ _ _ _ rfl rfl (fun _ => rfl)
theorem RRaw.setH (h : RRaw w r q hb ro c) (x : Nat) : RRaw (w.setCell ⟨r, 3, none⟩ (.int .u64 x)) r q hb ro ⟨c.s, c.us, c.want, c.miss, x⟩ := h.put_ _ _ _ rfl rfl (fun _ => rfl)
/-- the shelf turns -/
theorem RRaw.turn (h : RRaw w r q hb ro c) {s' : Sh} (hs : ∀ ok, RSh w q hb ok c.s → RSh w' q hb ok s') (k : Only (fun k => k = q ∨ k = hb) w w') : RRaw w' r q hb ro ⟨s', c.us, c.want, c.miss, c.hits⟩ := by
  obtain ⟨⟨vu, rw_, o, s⟩, a1, a2, a3, a4, a5, a6⟩ := h
  exact ⟨⟨vu, k.row rw_ (fun e => e.elim a1 a2), o.keep k (fun g hg e => e.elim (fun e => a4 (e ▸ hg)) (fun e => a5 (e ▸ hg))), hs _ s⟩, a1, a2, a3, a4, a5, fun g hg => a6 g (Nat.le_trans k.size hg)⟩
theorem RRaw.shelf (h : RRaw w r q hb ro c) : ∃ ok, RSh w q hb ok c.s := by obtain ⟨⟨vu, rw_, o, s⟩, _⟩ := h; exact ⟨_, s⟩
end
theorem Only.qh {r q hb : Nat} {ro : Nat → Prop} {w w' : World} (o : Only (fun k => k = q ∨ k = hb) w w') : Only (rset r q hb ro) w w' := o.more (fun _ _ e => e.elim (fun e => .inr (.inl e)) (fun e => .inr (.inr (.inl e))))

theorem smay_split (n : Nat) (i k : Int) : (hasN n i && hasL k) = (decide (0 ≤ i) && decide (i < (n : Int)) && decide (0 ≤ k) && decide (k ≤ 1)) := by
  unfold hasN hasL
  by_cases a : 0 ≤ i <;> by_cases b : i < (n : Int) <;> by_cases c : 0 ≤ k <;> by_cases d : k ≤ 1 <;> simp [a, b, c, d] <;> omega
set_option maxHeartbeats 1000000 in
theorem smay_ref (r q hb : Nat) (ro : Nat → Prop) (c : Sc) (i k : Int) (w : World) (h : RRaw w r q hb ro c) :
    Calls Try.prog 50 #[.pointer (some ⟨r, 0, none⟩), .int .i64 i, .int .i64 k] w fun e w' => e = .returned (.bool (hasN c.s.n i && hasL k)) ∧ w = w' := by
  have c0 := h.r0
  have d0 := h.q0
  clear h
  rw [smay_split]
  cases e1 : decide (0 ≤ i) with
  | false =>
    go_enter Try.func50, Try.ntmps50
    go_wp2
    go_ret
    exact ⟨rfl, rfl⟩
  | true =>
    cases e2 : decide (i < (c.s.n : Int)) with
    | false =>
      go_enter Try.func50, Try.ntmps50
      go_wp2
      go_ret
      exact ⟨rfl, rfl⟩
    | true =>
      cases e3 : decide (0 ≤ k) with
      | false =>
        go_enter Try.func50, Try.ntmps50
        go_wp2
        go_ret
        exact ⟨rfl, rfl⟩
      | true =>
        cases e4 : decide (k ≤ 1) with
        | false =>
          go_enter Try.func50, Try.ntmps50
          go_wp2
          go_ret
          exact ⟨rfl, rfl⟩
        | true =>
          go_enter Try.func50, Try.ntmps50
          go_wp2
          go_ret
          exact ⟨rfl, rfl⟩
theorem sin_ref (r q hb : Nat) (ro : Nat → Prop) (c : Sc) (j : Nat) (w : World) (h : RRaw w r q hb ro c) (hj : j < c.s.n) :
    Calls Try.prog 39 #[.pointer (some ⟨r, 0, none⟩), .int .i64 j] w fun e w' => e = .returned (.bool (c.s.liesB j)) ∧ Only none_ w w' := by
  have c0 := h.r0
  obtain ⟨ok, s⟩ := h.shelf
  obtain ⟨x, b, e⟩ := where_ok c.s hj
  have WR := where_ref q hb ok c.s j w s
  rw [e] at WR
  have WR := Lib.hid WR
  clear h s e
  generalize c.s.liesB j = t at *
  go_enter Try.func39, Try.ntmps39
  go_wp2_with fail
  (with_reducible refine (WR.out).mono ?_)
  rintro e w1 ⟨rfl, o1⟩
  have O1 := Lib.hid o1
  clear o1
  go_wp2
  go_ret
  exact ⟨rfl, O1.out⟩
end Go.Proofs.Ytpmhpamajkhhiaa

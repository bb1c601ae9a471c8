/- The document's own tracker: in memory; New, May, Same. -/
import Derived.Test.YtfmmmiiohaaegaaSm
import Derived.Test.YtfmmmiiohaaegaaRtLook
import Derived.Test.YtfmmmiiohaaegaaAmpLaw
import Derived.BigRegion
namespace Go.Proofs.Ytfmmmiiohaaegaa
open Go.RowKit Go.Maps
set_option linter.unusedVariables false

/-- a slice of streams of the call's own, at a block that is among some -/
def OwnsSm (w : World) (M : Nat → Prop) (v : Value) (ss : List Sm) : Prop := Owns w 0 59 6 Sm.cells v ss ∧ ∀ g, v.ownBlock = some g → M g
theorem OwnsSm.keep {w w' : World} {M : Nat → Prop} {v : Value} {ss : List Sm} (h : OwnsSm w M v ss) {S : Nat → Prop} (o : Only S w w') (hn : ∀ g, M g → ¬ S g) : OwnsSm w' M v ss := ⟨h.1.keep o (fun g hg => hn g (h.2 g hg)), h.2⟩
theorem OwnsSm.still {w w' : World} {M : Nat → Prop} {v : Value} {ss : List Sm} (h : OwnsSm w M v ss) (o : Only none_ w w') : OwnsSm w' M v ss := h.keep o (fun _ _ s => s)
theorem Owns.row10 {α : Type} {w : World} {base : Nat} {e : TypeId} {k : Nat} {c : α → List Value} {n g cap : Nat} {xs : List α} (h : Owns w base e k c (.slice (some ⟨g, 0, none⟩) n cap) xs) :
    ∃ cur : Array Value, Row w g e cur ∧ base ≤ g ∧ n = xs.length ∧ n ≤ cap ∧ cap ≤ maxLen ∧ cur.size = cap * k ∧ cur.toList.take (n * k) = xs.flatMap c := by
  obtain ⟨h1, h2⟩ := h
  rcases h2 with ⟨h', _⟩ | ⟨g', cap', cur, h', hb, hg, h3, h4, h5, h6⟩
  · simp at h'
  · simp only [Value.slice.injEq, Option.some.injEq, Addr.mk.injEq, and_true] at h'
    obtain ⟨rfl, rfl, rfl⟩ := h'
    exact ⟨cur, hg, hb, rfl, h3, h4, h5, h6⟩
/-- an element's cell is written -/
theorem Owns.put10 {α : Type} {w : World} {base : Nat} {e : TypeId} {k : Nat} {c : α → List Value} (hk : ∀ a, (c a).length = k) {n g cap : Nat} {xs : List α} (h : Owns w base e k c (.slice (some ⟨g, 0, none⟩) n cap) xs) {i j : Nat} {a a' : α} {u : Value} (hi : xs[i]? = some a) (hj : j < k) (hc : c a' = (c a).set j u) :
    Owns (w.setCell ⟨g, i * k + j, none⟩ u) base e k c (.slice (some ⟨g, 0, none⟩) n cap) (xs.set i a') := by
  obtain ⟨cur, r, hb, hn, h3, h4, h5, h6⟩ := h.row10
  have hl := lt_of_get hi
  have hbd : i * k + j < n * k := by
    have : (i + 1) * k ≤ n * k := Nat.mul_le_mul_right k (by omega)
    rw [Nat.succ_mul] at this
    omega
  have e1 : (cur.setIfInBounds (i * k + j) u).toList.take (n * k) = (xs.set i a').flatMap c := by
    rw [Array.toList_setIfInBounds, List.take_set, h6, flat_set hk xs i a a' j u hi hj hc]
  refine ⟨?_, .inr ⟨g, cap, _, by rw [List.length_set, hn], hb, r.put (i * k + j) u, by rw [List.length_set]; omega, h4, by rw [Array.size_setIfInBounds]; exact h5, ?_⟩⟩
  · have := h.1
    rw [List.length_set, ← flat_set hk xs i a a' j u hi hj hc, List.length_set]
    exact this
  · rw [List.length_set, ← hn]; exact e1
theorem OwnsSm.form {w : World} {M : Nat → Prop} {v : Value} {ss : List Sm} (h : OwnsSm w M v ss) : ∃ A cap, v = .slice A ss.length cap ∧ Holds w A 6 Sm.cells ss ∧ (ss ≠ [] → ∃ g, A = some ⟨g, 0, none⟩ ∧ g < w.heap.size ∧ ss.length ≤ cap ∧ cap ≤ maxLen ∧ M g) := by
  rcases h.1.2 with ⟨hv, h2⟩ | ⟨g, cap, cur, hv, hg, hh, h3, h4, _⟩
  · have : ss = [] := List.eq_nil_of_length_eq_zero h2
    subst this
    exact ⟨none, 0, hv, fun i a hi => by simp at hi, fun q => absurd rfl q⟩
  · have lt := (Array.getElem?_eq_some_iff.1 hh).1
    have h1 := h.1
    rw [hv] at h1
    refine ⟨_, _, hv, fun i a hi => ⟨g, 0, rfl, lt, fun j v hj => ?_⟩, fun _ => ⟨g, rfl, lt, h3, h4, h.2 g (by rw [hv]; rfl)⟩⟩
    rw [Nat.zero_add]
    have hj2 : j < 6 := by have := lt_of_get hj; rw [sm6] at this; exact this
    rw [Owns.cell h1 sm6 hi hj2]
    exact hj
/-- its block is none of a table's -/
theorem OwnsSm.not_row {w : World} {M : Nat → Prop} {v : Value} {ss : List Sm} (h : OwnsSm w M v ss) {g : Nat} (hg : v.ownBlock = some g) {t : TypeId} {cs : Array Value} (r : Row w g t cs) : t = 59 := by
  rcases h.1.2 with ⟨hv, _⟩ | ⟨g', cap, cur, hv, _, hh, _⟩
  · rw [hv] at hg; cases hg
  · rw [hv] at hg
    have hg : some g' = some g := hg
    injection hg with hg
    subst hg
    exact (Row.one (show Row w g' 59 cur from hh) r).1.symm
theorem RT.not_row {w : World} {q size life : Nat} {ok : Nat → Prop} {es : List En} (h : RT w q ok size life es) {g : Nat} {cs : Array Value} (r : Row w g 59 cs) (hq : q ≠ g) : RT w q (fun x => ok x ∧ x ≠ g) size life es := by
  obtain ⟨⟨v, r1, o⟩, l1, l2⟩ := h
  refine ⟨⟨v, r1, o.1, fun x hx => ⟨o.2 x hx, ?_⟩⟩, fun e => l1 e.1, fun x hx => ⟨l2 x hx, by have := r.lt; omega⟩⟩
  rintro rfl
  rcases o.1.2 with ⟨hv, _⟩ | ⟨g', cap, cur, hv, _, hh, _⟩
  · rw [hv] at hx; cases hx
  · rw [hv] at hx
    have hx : some g' = some x := hx
    injection hx with hx
    subst hx
    have := (Row.one (show Row w g' 83 cur from hh) r).1
    revert this
    decide
/-- on to a later world, under another bound -/
theorem RT.to {w w' : World} {q size life : Nat} {ok ok' : Nat → Prop} {es : List En} (h : RT w q ok size life es) {S : Nat → Prop} (k : Only S w w') (hq : ¬ S q) (hb : ∀ g, ok g → ¬ S g) (hm : ∀ g, g < w.heap.size → ok g → ok' g) (hq' : ¬ ok' q) (hn : ∀ g, w'.heap.size ≤ g → ok' g) : RT w' q ok' size life es := by
  obtain ⟨⟨v, r, o⟩, l1, l2⟩ := h
  have o' := o.keep k hb
  exact ⟨⟨v, k.row r hq, o'.1, fun g hg => hm g (o.lt hg) (o.2 g hg)⟩, hq', hn⟩

/-- the document's own tracker at block q; all its blocks are among M -/
structure RSat (w : World) (q qt : Nat) (v : Value) (M : Nat → Prop) (c : Cf) (t : Tr) : Prop where
  row : Row w q 48 #[v, .pointer (some ⟨qt, 0, none⟩), .int .i64 t.uses, .int .i64 t.begun, .int .i64 c.most, .int .i64 c.deg, .int .i64 c.blk]
  own : OwnsSm w M v t.ss
  tab : RT w qt (fun g => (M g ∧ g ≠ q ∧ g ≠ qt) ∨ w.heap.size ≤ g) c.size c.life t.es
  mt : M qt
  mq : M q
  ne : q ≠ qt
  lt : ∀ g, M g → g < w.heap.size
def RS (w : World) (q : Nat) (M : Nat → Prop) (c : Cf) (t : Tr) : Prop := ∃ qt v, RSat w q qt v M c t
theorem RSat.keep {w w' : World} {q qt : Nat} {v : Value} {M : Nat → Prop} {c : Cf} {t : Tr} (h : RSat w q qt v M c t) {S : Nat → Prop} (o : Only S w w') (hn : ∀ g, M g → ¬ S g) : RSat w' q qt v M c t :=
  ⟨o.row h.row (hn q h.mq), h.own.keep o hn,
    (h.tab.mono (ok' := fun g => (M g ∧ g ≠ q ∧ g ≠ qt) ∨ w.heap.size ≤ g ∧ True) (fun g _ k => k.imp id (fun k => ⟨k, trivial⟩)) (fun k => by rcases k with k | k; exact k.2.2 rfl; have := h.tab.lt; omega) (fun g hg => .inr ⟨hg, trivial⟩)).to
      (S := fun g => S g ∧ g < w.heap.size) ⟨o.os, o.tape, o.output, o.size, fun k hk hs => o.block k hk (fun s => hs ⟨s, hk⟩)⟩ (fun s => hn qt h.mt s.1)
      (fun g k s => by rcases k with k | k; exact hn g k.1 s.1; omega) (fun g hg k => by rcases k with k | k; exact .inl k; omega) (fun k => by rcases k with k | k; exact k.2.2 rfl; have := h.lt _ h.mt; have := o.size; omega) (fun g hg => .inr hg),
    h.mt, h.mq, h.ne, fun g hg => Nat.lt_of_lt_of_le (h.lt g hg) o.size⟩
theorem RS.keep {w w' : World} {q : Nat} {M : Nat → Prop} {c : Cf} {t : Tr} (h : RS w q M c t) {S : Nat → Prop} (o : Only S w w') (hn : ∀ g, M g → ¬ S g) : RS w' q M c t := by
  obtain ⟨qt, v, h⟩ := h
  exact ⟨qt, v, h.keep o hn⟩
theorem RS.still {w w' : World} {q : Nat} {M : Nat → Prop} {c : Cf} {t : Tr} (h : RS w q M c t) (o : Only none_ w w') : RS w' q M c t := h.keep o (fun _ _ s => s)
theorem RS.lt {w : World} {q : Nat} {M : Nat → Prop} {c : Cf} {t : Tr} (h : RS w q M c t) : ∀ g, M g → g < w.heap.size := by
  obtain ⟨qt, v, h⟩ := h
  exact h.lt
/-- behind a call: its blocks are those that it had, and new ones -/
def RSto (w : World) (q : Nat) (M : Nat → Prop) (c : Cf) (t : Tr) (w' : World) : Prop := (∃ M' : Nat → Prop, RS w' q M' c t ∧ ∀ g, M' g → M g ∨ w.heap.size ≤ g) ∧ Only M w w'

def mayCf (m s l d b : Int) : Bool := decide (1 ≤ m ∧ m ≤ 16 ∧ (1 ≤ s ∧ s ≤ 32 ∧ 1 ≤ l ∧ l ≤ 64) ∧ 1 ≤ d ∧ d ≤ 16 ∧ 1 ≤ b ∧ b ≤ 256)
theorem mayCf_iff {m s l d b : Int} : mayCf m s l d b = true ↔ 1 ≤ m ∧ m ≤ 16 ∧ (1 ≤ s ∧ s ≤ 32 ∧ 1 ≤ l ∧ l ≤ 64) ∧ 1 ≤ d ∧ d ≤ 16 ∧ 1 ≤ b ∧ b ≤ 256 := by unfold mayCf; simp
theorem may10_any (m s l d b : Int) (w : World) :
    Calls Try.prog 10 #[.int .i64 m, .int .i64 s, .int .i64 l, .int .i64 d, .int .i64 b] w fun e w' => e = .returned (.bool (mayCf m s l d b)) ∧ w = w' := by
  have M8 := fun w => may8_any s l w
  by_cases h0 : 1 ≤ m
  · have d0 : decide (1 ≤ m) = true := by simpa using h0
    by_cases h1 : m ≤ 16
    · have d1 : decide (m ≤ 16) = true := by simpa using h1
      by_cases h2 : 1 ≤ s ∧ s ≤ 32 ∧ 1 ≤ l ∧ l ≤ 64
      · rw [decide_eq_true h2] at M8
        by_cases h3 : 1 ≤ d
        · have d3 : decide (1 ≤ d) = true := by simpa using h3
          by_cases h4 : d ≤ 16
          · have d4 : decide (d ≤ 16) = true := by simpa using h4
            by_cases h5 : 1 ≤ b
            · have d5 : decide (1 ≤ b) = true := by simpa using h5
              by_cases h6 : b ≤ 256
              · have d6 : decide (b ≤ 256) = true := by simpa using h6
                rw [show mayCf m s l d b = true from by rw [mayCf_iff]; exact ⟨h0, h1, h2, h3, h4, h5, h6⟩]
                have M8 := Lib.hid M8
                clear h0 h1 h2 h3 h4 h5 h6
                go_enter Try.func10, Try.ntmps10
                go_wp2_with fail
                (with_reducible refine (M8.out _).mono ?_)
                rintro e w' ⟨rfl, rfl⟩
                go_wp2_with fail
                go_ret
                exact ⟨rfl, rfl⟩
              · have d6 : decide (b ≤ 256) = false := by simpa using h6
                rw [show mayCf m s l d b = false from by unfold mayCf; exact decide_eq_false (fun q => h6 q.2.2.2.2.2.2)]
                have M8 := Lib.hid M8
                clear h0 h1 h2 h3 h4 h5 h6
                go_enter Try.func10, Try.ntmps10
                go_wp2_with fail
                (with_reducible refine (M8.out _).mono ?_)
                rintro e w' ⟨rfl, rfl⟩
                go_wp2_with fail
                go_ret
                exact ⟨rfl, rfl⟩
            · have d5 : decide (1 ≤ b) = false := by simpa using h5
              rw [show mayCf m s l d b = false from by unfold mayCf; exact decide_eq_false (fun q => h5 q.2.2.2.2.2.1)]
              have M8 := Lib.hid M8
              clear h0 h1 h2 h3 h4 h5
              go_enter Try.func10, Try.ntmps10
              go_wp2_with fail
              (with_reducible refine (M8.out _).mono ?_)
              rintro e w' ⟨rfl, rfl⟩
              go_wp2_with fail
              go_ret
              exact ⟨rfl, rfl⟩
          · have d4 : decide (d ≤ 16) = false := by simpa using h4
            rw [show mayCf m s l d b = false from by unfold mayCf; exact decide_eq_false (fun q => h4 q.2.2.2.2.1)]
            have M8 := Lib.hid M8
            clear h0 h1 h2 h3 h4
            go_enter Try.func10, Try.ntmps10
            go_wp2_with fail
            (with_reducible refine (M8.out _).mono ?_)
            rintro e w' ⟨rfl, rfl⟩
            go_wp2_with fail
            go_ret
            exact ⟨rfl, rfl⟩
        · have d3 : decide (1 ≤ d) = false := by simpa using h3
          rw [show mayCf m s l d b = false from by unfold mayCf; exact decide_eq_false (fun q => h3 q.2.2.2.1)]
          have M8 := Lib.hid M8
          clear h0 h1 h2 h3
          go_enter Try.func10, Try.ntmps10
          go_wp2_with fail
          (with_reducible refine (M8.out _).mono ?_)
          rintro e w' ⟨rfl, rfl⟩
          go_wp2_with fail
          go_ret
          exact ⟨rfl, rfl⟩
      · rw [decide_eq_false h2] at M8
        rw [show mayCf m s l d b = false from by unfold mayCf; exact decide_eq_false (fun q => h2 q.2.2.1)]
        have M8 := Lib.hid M8
        clear h0 h1 h2
        go_enter Try.func10, Try.ntmps10
        go_wp2_with fail
        (with_reducible refine (M8.out _).mono ?_)
        rintro e w' ⟨rfl, rfl⟩
        go_wp2_with fail
        go_ret
        exact ⟨rfl, rfl⟩
    · have d1 : decide (m ≤ 16) = false := by simpa using h1
      rw [show mayCf m s l d b = false from by unfold mayCf; exact decide_eq_false (fun q => h1 q.2.1)]
      clear h0 h1 M8
      go_enter Try.func10, Try.ntmps10
      go_wp2_with fail
      go_ret
      exact ⟨rfl, rfl⟩
  · have d0 : decide (1 ≤ m) = false := by simpa using h0
    rw [show mayCf m s l d b = false from by unfold mayCf; exact decide_eq_false (fun q => h0 q.1)]
    clear h0 M8
    go_enter Try.func10, Try.ntmps10
    go_wp2_with fail
    go_ret
    exact ⟨rfl, rfl⟩

set_option maxHeartbeats 1000000 in
theorem rnew10_any (c : Cf) (w : World) :
    Calls Try.prog 11 #[.int .i64 c.most, .int .i64 c.size, .int .i64 c.life, .int .i64 c.deg, .int .i64 c.blk] w fun e w' => ∃ q, e = .returned (.pointer (some ⟨q, 0, none⟩)) ∧ (∃ M : Nat → Prop, RS w' q M c ⟨[], [], 0, 0⟩ ∧ ∀ g, M g → w.heap.size ≤ g) ∧ Only none_ w w' := by
  have N := Lib.hid (fun w => rnew8_any c.size c.life w)
  go_enter Try.func11, Try.ntmps11
  go_wp2_with fail
  (with_reducible refine (N.out _).mono ?_)
  rintro e w1 ⟨qt, rfl, hr, lq, o⟩
  have HR := Lib.hid hr
  have LQ := Lib.hid lq
  have OO := Lib.hid o
  have lt := hr.lt
  clear hr lq o N
  go_wp2_with fail
  go_ret
  have r1 := Row.fresh w1 48 #[.slice none 0 0, .pointer (some ⟨qt, 0, none⟩), .int .i64 0, .int .i64 0, .int .i64 c.most, .int .i64 c.deg, .int .i64 c.blk]
  have oa := (Only.refl none_ w1).alloc (.cells #[.slice none 0 0, .pointer (some ⟨qt, 0, none⟩), .int .i64 0, .int .i64 0, .int .i64 c.most, .int .i64 c.deg, .int .i64 c.blk] 48)
  have z := oa.size
  simp only [World.size_alloc] at z
  have lqq := LQ.out
  have zo := OO.out.size
  refine ⟨w1.heap.size, rfl, ⟨fun g => qt ≤ g ∧ g ≤ w1.heap.size, ⟨qt, _, r1, ⟨Owns.start _ _ _ _ _, fun g hg => by cases hg⟩, ?_, ⟨Nat.le_refl _, by omega⟩, ⟨by omega, Nat.le_refl _⟩, by omega, fun g hg => ?_⟩, fun g hg => ?_⟩, OO.out.idle oa⟩
  · exact HR.out.to oa (fun s => s) (fun _ _ s => s) (fun g hl hg => .inl ⟨⟨by omega, by omega⟩, by omega, by omega⟩) (fun k => by simp only [World.size_alloc] at k; omega) (fun g hg => .inr hg)
  · simp only [World.size_alloc]; omega
  · omega

end Go.Proofs.Ytfmmmiiohaaegaa

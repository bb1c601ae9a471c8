/- The code's own tracker: in memory. -/
import Derived.Test.YtfmmmiiohaaegaaRs
import Derived.Test.YtfmmmiiohaaegaaTpLook
import Derived.Test.YtfmmmiiohaaegaaTpTell
import Derived.Test.YtfmmmiiohaaegaaActs8
namespace Go.Proofs.Ytfmmmiiohaaegaa
open Go.RowKit Go.Maps
set_option linter.unusedVariables false

/-- the code's own tracker at block q: its table at block p, that one's map at block b, behind L looks; all its blocks are among M -/
structure StAt (w : World) (q p b L : Nat) (v : Value) (M : Nat → Prop) (c : Cf) (t : Tr) : Prop where
  row : Row w q 70 #[.int .i64 c.most, .int .i64 c.deg, .int .i64 c.blk, .pointer (some ⟨p, 0, none⟩), v, .int .i64 t.begun, .int .i64 t.uses]
  own : OwnsSm w M v t.ss
  tab : Tb w p b L c.size c.life t.es
  le : L ≤ t.uses
  mq : M q
  mp : M p
  mb : M b
  lt : ∀ g, M g → g < w.heap.size
theorem OwnsSm.keep' {w w' : World} {M : Nat → Prop} {v : Value} {ss : List Sm} (h : OwnsSm w M v ss) {S : Nat → Prop} (o : Only S w w') (hn : ∀ g, v.ownBlock = some g → ¬ S g) : OwnsSm w' M v ss := ⟨h.1.keep o hn, h.2⟩
theorem StAt.keep {w w' : World} {q p b L : Nat} {v : Value} {M : Nat → Prop} {c : Cf} {t : Tr} (h : StAt w q p b L v M c t) {S : Nat → Prop} (o : Only S w w') (hn : ∀ g, M g → ¬ S g) : StAt w' q p b L v M c t :=
  ⟨o.row h.row (hn q h.mq), h.own.keep o hn, h.tab.keep o (hn p h.mp) (hn b h.mb), h.le, h.mq, h.mp, h.mb, fun g hg => Nat.lt_of_lt_of_le (h.lt g hg) o.size⟩
theorem StAt.still {w w' : World} {q p b L : Nat} {v : Value} {M : Nat → Prop} {c : Cf} {t : Tr} (h : StAt w q p b L v M c t) (o : Only none_ w w') : StAt w' q p b L v M c t := h.keep o (fun _ _ s => s)
theorem StAt.qp {w : World} {q p b L : Nat} {v : Value} {M : Nat → Prop} {c : Cf} {t : Tr} (h : StAt w q p b L v M c t) : q ≠ p := h.row.apart h.tab.row (by decide)
theorem StAt.qb {w : World} {q p b L : Nat} {v : Value} {M : Nat → Prop} {c : Cf} {t : Tr} (h : StAt w q p b L v M c t) : q ≠ b := h.tab.md.ne h.row
theorem StAt.gq {w : World} {q p b L : Nat} {v : Value} {M : Nat → Prop} {c : Cf} {t : Tr} (h : StAt w q p b L v M c t) {g : Nat} (hg : v.ownBlock = some g) : g ≠ q := by
  rintro rfl
  have := h.own.not_row hg h.row
  revert this; decide
theorem StAt.gp {w : World} {q p b L : Nat} {v : Value} {M : Nat → Prop} {c : Cf} {t : Tr} (h : StAt w q p b L v M c t) {g : Nat} (hg : v.ownBlock = some g) : g ≠ p := by
  rintro rfl
  have := h.own.not_row hg h.tab.row
  revert this; decide
theorem StAt.gb {w : World} {q p b L : Nat} {v : Value} {M : Nat → Prop} {c : Cf} {t : Tr} (h : StAt w q p b L v M c t) {g : Nat} (hg : v.ownBlock = some g) : g ≠ b := by
  rcases h.own.1.2 with ⟨hv, _⟩ | ⟨g', cap, cur, hv, _, hh, _⟩
  · rw [hv] at hg; cases hg
  · rw [hv] at hg
    have hg : some g' = some g := hg
    injection hg with hg
    subst hg
    exact h.tab.md.ne (show Row w g' 59 cur from hh)
/-- some tracker of the code's own -/
def ST (w : World) (q : Nat) (M : Nat → Prop) (c : Cf) (t : Tr) : Prop := ∃ p b L v, StAt w q p b L v M c t
theorem ST.keep {w w' : World} {q : Nat} {M : Nat → Prop} {c : Cf} {t : Tr} (h : ST w q M c t) {S : Nat → Prop} (o : Only S w w') (hn : ∀ g, M g → ¬ S g) : ST w' q M c t := by
  obtain ⟨p, b, L, v, h⟩ := h
  exact ⟨p, b, L, v, h.keep o hn⟩
theorem ST.still {w w' : World} {q : Nat} {M : Nat → Prop} {c : Cf} {t : Tr} (h : ST w q M c t) (o : Only none_ w w') : ST w' q M c t := h.keep o (fun _ _ s => s)
theorem ST.lt {w : World} {q : Nat} {M : Nat → Prop} {c : Cf} {t : Tr} (h : ST w q M c t) : ∀ g, M g → g < w.heap.size := by
  obtain ⟨p, b, L, v, h⟩ := h
  exact h.lt
/-- behind a call: its blocks are those that it had, and new ones -/
def STto (w : World) (q : Nat) (M : Nat → Prop) (c : Cf) (t : Tr) (w' : World) : Prop := (∃ M' : Nat → Prop, ST w' q M' c t ∧ ∀ g, M' g → M g ∨ w.heap.size ≤ g) ∧ Only M w w'
end Go.Proofs.Ytfmmmiiohaaegaa

/- What an access tells: plain facts; a region that reads, whose callees only make memory: one walk. -/
import Derived.Test.YtfmmmiiohaaegaaOld10
import Derived.BigQuiet
namespace Go.Proofs.Ytfmmmiiohaaegaa
open Go.RowKit
set_option linter.unusedVariables false

/-- a world behind another one, in which nothing of before has turned -/
structure After (w0 : World) where
  val : World
  only : Only none_ w0 val
instance (w0 : World) : Nonempty (After w0) := ⟨⟨w0, Only.refl _ _⟩⟩
/-- a region that asks the tape, each of whose operations reads alone, or calls what only makes memory: the lexical walk serves -/
theorem wp_region_after {P : Program} {id : Nat} {Q : Exit → Act → World → Prop} {a : Act} {w w0 : World} {l : List Oper} (hm : P.follows .mixedOrders = true) (hB : Region.lexB .any l.toArray = true) (ho : Only none_ w0 w)
    (h : wpQuiet P l.toArray (fun w' => ∃ i : After w0, w' = i.val) (fun a' => ∀ w', (∃ i : After w0, w' = i.val) → Q .normal a' w') l a) : (Code.region id l.toArray true).wp P Q a w :=
  wp_region_quiet (C := fun w' => ∃ i : After w0, w' = i.val) hm hB ⟨⟨_, ho.drew⟩, rfl⟩ (by simpa using h)
theorem Calls.after {P : Program} {f : FuncId} {args : Array Value} {w0 : World} {v : Value} (i : After w0)
    (h : Calls P f args i.val fun e w' => e = .returned v ∧ Only none_ i.val w') : Calls P f args i.val fun e w' => e = .returned v ∧ ∃ j : After w0, w' = j.val :=
  h.mono fun _ _ ⟨he, o⟩ => ⟨he, ⟨_, i.only.same o⟩, rfl⟩

/-- what an access tells -/
theorem acc_told {c : Cf} {t : Tr} (h : Fine10 c t) (f n : Int) :
    accI c t f n ≤ t.begun + 1 ∧ (accS c t f n).begun = max t.begun (accI c t f n) ∧ 0 ≤ (accR c t f n).c ∧ (accR c t f n).c ≤ c.deg ∧
    ((mayAcc c.blk f n = false ∧ accI c t f n = 0 ∧ accR c t f n = ⟨0, 0⟩ ∧ accC c.blk f n = 1) ∨
     (mayAcc c.blk f n = true ∧ accC c.blk f n = 0 ∧ (0 < (accR c t f n).c → 1 ≤ accI c t f n ∧ f + n ≤ (accR c t f n).f ∧ (accR c t f n).f + (accR c t f n).c ≤ c.blk))) := by
  unfold accI accS accR accC
  cases hm : mayAcc c.blk f n with
  | false => simp
  | true =>
    have hb := mayAcc_iff.1 hm
    simp only [if_true]
    cases ht : topOf t.ss f with
    | some k =>
      obtain ⟨s, hs, hx, _⟩ := top_of ht
      have hmem := List.mem_of_getElem? hs
      have hi := h.ids s hmem
      have hM := h.may s hmem
      have r := read_run hM hb.1 hb.2.1 (show s.f.n + n ≤ _ by omega)
      simp only [hs, Option.getD_some]
      refine ⟨by omega, by omega, r.1, r.2.1, .inr ⟨trivial, trivial, fun k => ⟨hi.1, ?_, (r.2.2.1 k).2⟩⟩⟩
      rw [(r.2.2.1 k).1]
      omega
    | none =>
      cases hl : lookB c.size c.life t.es f n with
      | false => simp
      | true =>
        have hs : (Fl.start f).May c.deg c.blk := start_may ⟨h.ok.d1, h.ok.d16⟩ ⟨h.ok.b1, h.ok.b256⟩ ⟨hb.2.2.1, by omega⟩
        have r := read_run hs hb.1 hb.2.1 (show f + n ≤ _ by omega)
        simp only [if_true]
        refine ⟨Nat.le_refl _, by omega, r.1, r.2.1, .inr ⟨trivial, trivial, fun k => ⟨by omega, ?_, (r.2.2.1 k).2⟩⟩⟩
        rw [(r.2.2.1 k).1]
        exact Int.le_max_right _ _
theorem pair_rise {c : Cf} {t : Tr} (h : Fine10 c t) {i : Nat} {a b : Sm} (hi : t.ss[i]? = some a) (hj : t.ss[i + 1]? = some b) : a.id < b.id := pair_at h.rank.rise hi hj (Nat.lt_succ_self i)
end Go.Proofs.Ytfmmmiiohaaegaa

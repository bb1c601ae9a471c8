/- A region that reads, whose callees only make memory: one walk serves all its orders. -/
import Derived.Test.YtofmbipedljdkaaHeap
import Derived.Test.YtofmbipedljdkaaProg
import Derived.BigQuiet
namespace Go.Proofs.Ytofmbipedljdkaa
open Go.RowKit
set_option linter.unusedVariables false

/-- a world behind another one, in which nothing of before has turned -/
structure After (w0 : World) where
  val : World
  only : Only none_ w0 val
instance (w0 : World) : Nonempty (After w0) := ⟨⟨w0, Only.refl _ _⟩⟩
/-- a region that asks the tape, each of whose operations reads alone, or calls what only makes memory: the lexical walk serves -/
theorem wp_region_after {P : Program} {id : Nat} {Q : Exit → Act → World → Prop} {a : Act} {w w0 : World} {l : List Oper} (hm : P.follows .mixedOrders = true) (hB : Region.lexB .any l.toArray = true) (ho : Only none_ w0 w)
    (h : wpQuiet P l.toArray (fun w' => ∃ i : After w0, w' = i.val) (fun a' => ∀ w', (∃ i : After w0, w' = i.val) → Q .normal a' w') l a) : (Code.region id l.toArray true).wp P Q a w :=
  wp_region_quiet (C := fun w' => ∃ i : After w0, w' = i.val) hm hB ⟨⟨_, ho.drew⟩, rfl⟩ (by simpa using h)
theorem Calls.after {P : Program} {f : FuncId} {args : Array Value} {w0 : World} {v : Value} (i : After w0)
    (h : Calls P f args i.val fun e w' => e = .returned v ∧ Only none_ i.val w') : Calls P f args i.val fun e w' => e = .returned v ∧ ∃ j : After w0, w' = j.val :=
  h.mono fun _ _ ⟨he, o⟩ => ⟨he, ⟨_, i.only.same o⟩, rfl⟩
/-- the operations of a region of a number -/
def regionAt (n : Nat) : Code → Option (List Oper)
  | .region i ops _ => if i == n then some ops.toList else none
  | .seq a b => match regionAt n a with | some l => some l | none => regionAt n b
  | .cond _ a b => match regionAt n a with | some l => some l | none => regionAt n b
  | .block _ a => regionAt n a
  | .loop a => regionAt n a
  | .rangeFunc _ _ a b => match regionAt n a with | some l => some l | none => regionAt n b
  | .scope a => regionAt n a
  | _ => none
def opsAt (f : Func) (n : Nat) : List Oper := match f.body with | some c => (regionAt n c).getD [] | none => []
theorem lex_from {md : Region.Mode} {l l' : List Oper} (h : Region.lexB md l'.toArray = true) (e : l = l') : Region.lexB md l.toArray = true := e ▸ h
end Go.Proofs.Ytofmbipedljdkaa

/- A part of a function's text: its operations, found by number; a statement that ends as it should. -/
import Derived.Test.YtmihinpbgppjlaaProg
import Derived.WalkKit
import Derived.BigQuiet
namespace Go.Proofs.Ytmihinpbgppjlaa
set_option linter.unusedVariables false

/-- the operations of a region of a number -/
def regionAt (n : Nat) : Code → Option (List Oper)
  | .region i ops _ => if i == n then some ops.toList else none
  | .seq a b => match regionAt n a with | some l => some l | none => regionAt n b
  | .cond _ a b => match regionAt n a with | some l => some l | none => regionAt n b
  | .block _ a => regionAt n a
  | .loop a => regionAt n a
  | .rangeFunc _ _ a b => match regionAt n a with | some l => some l | none => regionAt n b
  | .scope a => regionAt n a
  | _ => none
def opsAt (f : Func) (n : Nat) : List Oper := match f.body with | some c => (regionAt n c).getD [] | none => []
theorem lex_from {md : Region.Mode} {l l' : List Oper} (h : Region.lexB md l'.toArray = true) (e : l = l') : Region.lexB md l.toArray = true := e ▸ h
/-- a statement that ends as it should, and R then holds -/
def PostN (R : Act → World → Prop) : Exit → Act → World → Prop
  | .normal, a, w => R a w
  | _, _, _ => False
theorem wp_of_postN {P : Program} {s : Code} {R : Act → World → Prop} {Q : Exit → Act → World → Prop} {a : Act} {w : World} (h : Code.wp P s (PostN R) a w) (hQ : ∀ a' w', R a' w' → Q .normal a' w') : Code.wp P s Q a w :=
  Code.wp_mono (fun e a w h => by cases e <;> first | exact hQ _ _ h | exact (h : False).elim) h
end Go.Proofs.Ytmihinpbgppjlaa

/- What the laws share of tables. -/
import Derived.Test.YtfmmmiiohaaegaaTpLook
import Derived.Test.YtfmmmiiohaaegaaTpTell
import Derived.Test.YtfmmmiiohaaegaaRtLook
import Derived.Test.YtfmmmiiohaaegaaSame8
namespace Go.Proofs.Ytfmmmiiohaaegaa
open Go.RowKit Go.ChangeShapes Go.WideShapes Go.Deep
set_option linter.unusedVariables false


theorem Only.to_below8 {a b : World} (h : Only none_ a b) : Below a.heap.size a b := h.below (Nat.le_refl _) (fun _ _ s => s)
theorem below_on8 {w w1 w2 : World} (h : Below w.heap.size w w1) (o : Only none_ w1 w2) : Below w.heap.size w w2 := Only.below_to h o (Nat.le_refl _) (fun _ _ s => s)
theorem below_two {w w1 w2 : World} {p b : Nat} (h : Below w.heap.size w w1) (o : Only (two8 p b) w1 w2) (hp : w.heap.size ≤ p) (hb : w.heap.size ≤ b) : Below w.heap.size w w2 :=
  Only.below_to h o (Nat.le_refl _) (fun i hi e => by unfold two8 at e; omega)

theorem Holds.still8 {α : Type} {w w' : World} {A : Option Addr} {k : Nat} {c : α → List Value} {xs : List α} (h : Holds w A k c xs) (o : Only none_ w w') : Holds w' A k c xs := h.below o.to_below8
theorem same8_self (A B : Option Addr) (ca cb : Nat) (es : List En) (w : World) (ha : Holds w A 2 En.cells es) (hb : Holds w B 2 En.cells es) (le : es.length ≤ 32) :
    Calls Try.prog 19 #[.slice A es.length ca, .slice B es.length cb] w fun e w' => e = .returned (.bool true) ∧ Only none_ w w' := by
  have := same8_any A B ca cb es es w ha hb (by omega) (by omega)
  rw [show decide (es = es) = true by simp] at this
  exact this
end Go.Proofs.Ytfmmmiiohaaegaa

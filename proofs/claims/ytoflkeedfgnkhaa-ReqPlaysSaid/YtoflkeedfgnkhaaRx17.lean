/- The document's own table: Open, whatever is asked. -/
import Derived.Test.YtoflkeedfgnkhaaRo17
import Derived.Test.YtoflkeedfgnkhaaRn17
namespace Go.Proofs.Ytoflkeedfgnkhaa
open Go.RowKit Go.Maps
set_option linter.unusedVariables false
section
variable {w w' : World} {q : Nat} {c : Nat → Nat} {X : Loc18} {room L : Nat} {t : Tq}
theorem ropen_any (x k n : Int) (w : World) (h : RW w q c X room L t) (wx : (Lit.int .i64 x).wf = true) :
    Calls Try.prog 26 #[.pointer (some ⟨q, 0, none⟩), .int .i64 x, .int .i64 k, .int .i64 n] w fun e w' => e = .returned (.int .i64 (openI room t.rs x k n)) ∧ RBto w q c room (L + 1) ⟨openS room t.rs x k n, t.kept⟩ w' := by
  by_cases z : openI room t.rs x k n = 0
  · have hm : mayO x k n := Classical.byContradiction fun q => by
      unfold openI at z
      rw [if_neg q] at z
      exact absurd z (by decide)
    have hx : hasQ t.rs x = false := by
      unfold openI at z
      rw [if_pos hm] at z
      cases e : hasQ t.rs x with
      | false => rfl
      | true => rw [e, if_pos rfl] at z; exact absurd z (by decide)
    have hl : t.rs.length < room := Classical.byContradiction fun q => by
      unfold openI at z
      rw [if_pos hm, hx, if_neg (by decide), if_pos (by omega)] at z
      exact absurd z (by decide)
    have hn : 0 ≤ n := by have := hm.2.2.1; omega
    obtain ⟨m, rfl⟩ := Int.eq_ofNat_of_zero_le hn
    have e : openS room t.rs x k m = t.rs ++ [newQ x k m] := if_pos z
    rw [z, e]
    exact ropen_new x k m w h wx hm hx hl
  · have e : openS room t.rs x k n = t.rs := if_neg z
    rw [e]
    exact (ropen_old x k n w h z).mono (fun e w' q => ⟨q.1, RB.same h q.2⟩)
end
end Go.Proofs.Ytoflkeedfgnkhaa

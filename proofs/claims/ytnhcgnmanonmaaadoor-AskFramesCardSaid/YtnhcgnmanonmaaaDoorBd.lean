/- The table of bounds, as the program's text lays it, in memory. No condition but that. -/
import Derived.Test.YtnhcgnmanonmaaaDoorRows
import Derived.Test.YtnhcgnmanonmaaaDoorAo
import Derived.ProofKit
import Derived.OpenShut
import Derived.LaidMore
import Derived.Lay
import Derived.Lib.LaidU8
import Derived.Stop.Joined
namespace Go.Proofs.YtnhcgnmanonmaaaDoor
open Go.ChangeShapes Go.WideShapes Go.ChangeAt Go.RowKit Go.Lib
set_option linter.unusedVariables false

def laidB : List (String × DataW Unit) := [("forerunner/ask.bounds", Rows.laid_forerunner_ask_bounds)]
theorem bounds_told : Rows.laid_forerunner_ask_bounds = .agg ((lows.zip tops).map fun q => .agg ([q.1, q.2].map fun z => (.lit (.int .i64 z) : DataW Unit))) := rfl
theorem bd_of {W : World} (h : laidMetH Tryd.prog laidB W) : Bd W := by
  rw [MakeChecks.laidMetH_plain _ _ _ (by kernel_rfl)] at h
  obtain ⟨ps, ⟨g, t, cs, fuel, p, q, hg, ht, hv, hd, _, _⟩, _, _⟩ := h
  obtain rfl := Option.some.inj ((show Tryd.prog.globalNamed "forerunner/ask.bounds" = some 0 by kernel_rfl).symm.trans hg)
  obtain rfl := Option.some.inj ((show (Tryd.prog.globals[0]?).map (·.type) = some 47 by kernel_rfl).symm.trans ht)
  rw [bounds_told] at hd
  have c46 : Tryd.prog.cellsOf 46 = 2 := by kernel_rfl
  have cI : Tryd.prog.cellsOf 3 = 1 := by kernel_rfl
  have both : ∀ (i : Nat) (l g : Int), lows[i]? = some l → tops[i]? = some g → W.cell? ⟨0, i * 2, none⟩ = some (.int .i64 l) ∧ W.cell? ⟨0, i * 2 + 1, none⟩ = some (.int .i64 g) := by
    intro i l g hl hg2
    have hi : i < 14 := lt_of_get hl
    obtain ⟨fuel', d, q, hdi, he⟩ := array_elem Tryd.underlying47 hd i hi
    have hz : (lows.zip tops)[i]? = some (l, g) := by
      rw [List.getElem?_zip_eq_some]
      exact ⟨hl, hg2⟩
    rw [List.getElem?_map, hz] at hdi
    obtain rfl := Option.some.inj hdi
    rw [c46] at he
    have hcs := ints_of_struct Tryd.underlying46 (fun j f hj => by
      match j, hj with
      | 0, hj => simp at hj; subst hj; exact ⟨Tryd.underlying3, rfl, cI⟩
      | 1, hj => simp at hj; subst hj; exact ⟨Tryd.underlying3, rfl, cI⟩
      | j + 2, hj => simp at hj) (by rw [c46]; rfl) he
    have e0 := congrArg (·[0]?) hcs
    have e1 := congrArg (·[1]?) hcs
    simp only [List.getElem?_take, List.getElem?_drop] at e0 e1
    constructor
    · rw [World.var?_cell hg hv (i * 2), ← Array.getElem?_toList]
      simpa using e0
    · rw [World.var?_cell hg hv (i * 2 + 1), ← Array.getElem?_toList]
      simpa using e1
  constructor
  · intro i l hl
    obtain ⟨g, hg2⟩ : ∃ g, tops[i]? = some g := ⟨_, List.getElem?_eq_getElem (show i < 14 from lt_of_get hl)⟩
    exact (both i l g hl hg2).1
  · intro i g hg2
    obtain ⟨l, hl⟩ : ∃ l, lows[i]? = some l := ⟨_, List.getElem?_eq_getElem (show i < 14 from lt_of_get hg2)⟩
    exact (both i l g hl hg2).2
theorem laid_met (os : Os) (args : Array Value) : laidMetH Tryd.prog laidB ((World.laidAll Tryd.prog os laidB).forCall (fun _ _ => 0) ⟨#[], args, []⟩).memory := by
  rw [MakeChecks.laidMetH_plain _ _ _ (by kernel_rfl)]
  exact laidMet_laidAll _ (by kernel_rfl) (by kernel_rfl)
theorem laid_shaped (os : Os) : (World.laidAll Tryd.prog os laidB).Shaped Tryd.prog := World.shaped_of_ZipB (by kernel_rfl) (by kernel_rfl)
end Go.Proofs.YtnhcgnmanonmaaaDoor

/- What the small functions of package ask answer: a bound, the options as numbers. No condition but what each says. -/
import Derived.Test.YtnhcgnmanonmaaaDoorArgs
import Derived.Deep.QuietTactic
import Derived.Lib.Walk
import Derived.Laws.Rows
import Derived.Laws.Tables
import Derived.Deep.WholeRow
namespace Go.Proofs.YtnhcgnmanonmaaaDoor
open Go.RowKit
set_option linter.unusedVariables false

/-- between two bounds -/
def inB (l g n : Int) : Bool := decide (l ≤ n ∧ n ≤ g)
theorem has_any (l g n : Int) (w : World) :
    Calls Tryd.prog 18 #[.agg #[.int .i64 l, .int .i64 g], .int .i64 n] w fun e w' => e = .returned (.bool (inB l g n)) ∧ Only none_ w w' := by
  by_cases h1 : l ≤ n
  · by_cases h2 : n ≤ g
    · go_enter Tryd.func18, Tryd.ntmps18
      go_wp2
      go_ret
      refine ⟨by rw [show inB l g n = true from decide_eq_true (by omega)]; rfl, ?_⟩
      exact ((Only.refl none_ w).alloc _)
    · go_enter Tryd.func18, Tryd.ntmps18
      go_wp2
      go_ret
      refine ⟨by rw [show inB l g n = false from decide_eq_false (by omega)]; rfl, ?_⟩
      exact ((Only.refl none_ w).alloc _)
  · go_enter Tryd.func18, Tryd.ntmps18
    go_wp2
    go_ret
    refine ⟨by rw [show inB l g n = false from decide_eq_false (by omega)]; rfl, ?_⟩
    exact ((Only.refl none_ w).alloc _)

/-- the options, as numbers -/
structure Opt where
  (b0 b1 b2 b3 b4 b5 b6 b7 b8 b9 b10 b11 b12 b13 : Int)
  deriving DecidableEq
def Opt.cells (o : Opt) : Array Value := #[.int .i64 o.b0, .int .i64 o.b1, .int .i64 o.b2, .int .i64 o.b3, .int .i64 o.b4, .int .i64 o.b5, .int .i64 o.b6, .int .i64 o.b7, .int .i64 o.b8, .int .i64 o.b9, .int .i64 o.b10, .int .i64 o.b11, .int .i64 o.b12, .int .i64 o.b13]
def Opt.val (o : Opt) : Value := .agg #[.int .i64 o.b0, .int .i64 o.b1, .int .i64 o.b2, .int .i64 o.b3, .int .i64 o.b4, .int .i64 o.b5, .int .i64 o.b6, .int .i64 o.b7, .int .i64 o.b8, .int .i64 o.b9, .int .i64 o.b10, .int .i64 o.b11, .int .i64 o.b12, .int .i64 o.b13]

/-- a whole row, and one value beside it, as a call's answer -/
theorem results_row_tmp {P : Program} {fn : Func} {p q : Tmp} {ty : TypeId} (h : fn.results = #[.cell p ty, .tmp q]) (tmps : Array Value) (w : World) (g : Nat) (t : TypeId) (cs : Array Value) (fr : Nat × Nat) (d : TypeDesc)
    (hp : tmps.getD p undef = .pointer (some ⟨g, 0, none⟩)) (hg : w.heap[g]? = some (.cells cs t fr))
    (hu : P.underlying ty = some d) (hd : (match d with | .struct _ | .array _ _ => true | _ => false) = true) (hi : (P.info? ty).map (·.size) = some cs.size) :
    (results fn tmps).run P w = .ok (.tuple #[.agg cs, tmps.getD q undef]) w := by
  have hp' : tmps[p]?.getD undef = .pointer (some ⟨g, 0, none⟩) := by simpa using hp
  simp [results, h, hp', asAddr, run_loadVar_row w g t ty cs fr d hg hu hd hi]
theorem info_opt : (Tryd.prog.info? 23).map (·.size) = some 14 := by kernel_rfl
theorem info_nums : (Tryd.prog.info? 43).map (·.size) = some 14 := by kernel_rfl
theorem results_nums {fn : Func} {p : Tmp} (h : fn.results = #[.cell p 43]) (tmps : Array Value) (w : World) (g : Nat) (o : Opt)
    (hp : tmps.getD p undef = .pointer (some ⟨g, 0, none⟩)) (hg : Row w g 43 o.cells) : (results fn tmps).run Tryd.prog w = .ok o.val w :=
  results_cell_row h tmps w g 43 _ (0, 0) _ hp hg Tryd.underlying43 rfl info_nums
theorem results_opt {fn : Func} {p : Tmp} (h : fn.results = #[.cell p 23]) (tmps : Array Value) (w : World) (g : Nat) (o : Opt)
    (hp : tmps.getD p undef = .pointer (some ⟨g, 0, none⟩)) (hg : Row w g 23 o.cells) : (results fn tmps).run Tryd.prog w = .ok o.val w :=
  results_cell_row h tmps w g 23 _ (0, 0) _ hp hg Tryd.underlying23 rfl info_opt
theorem results_opt2 {fn : Func} {p q : Tmp} (h : fn.results = #[.cell p 23, .tmp q]) (tmps : Array Value) (w : World) (g : Nat) (o : Opt)
    (hp : tmps.getD p undef = .pointer (some ⟨g, 0, none⟩)) (hg : Row w g 23 o.cells) : (results fn tmps).run Tryd.prog w = .ok (.tuple #[o.val, tmps.getD q undef]) w :=
  results_row_tmp h tmps w g 23 _ (0, 0) _ hp hg Tryd.underlying23 rfl info_opt
theorem numbers_any (o : Opt) (w : World) :
    Calls Tryd.prog 17 #[o.val] w fun e w' => e = .returned o.val ∧ Only none_ w w' := by
  obtain ⟨b0, b1, b2, b3, b4, b5, b6, b7, b8, b9, b10, b11, b12, b13⟩ := o
  unfold Opt.val
  dsimp only
  go_enter Tryd.func17, Tryd.ntmps17
  go_wp2
  refine bodyPost_ret (results_nums rfl _ _ (w.heap.size + 1) ⟨b0, b1, b2, b3, b4, b5, b6, b7, b8, b9, b10, b11, b12, b13⟩ rfl ?_) rfl ⟨rfl, ?_⟩
  · have r := Row.fresh (w.alloc (.cells #[.int .i64 b0, .int .i64 b1, .int .i64 b2, .int .i64 b3, .int .i64 b4, .int .i64 b5, .int .i64 b6, .int .i64 b7, .int .i64 b8, .int .i64 b9, .int .i64 b10, .int .i64 b11, .int .i64 b12, .int .i64 b13] 23)) 43 (Opt.cells ⟨b0, b1, b2, b3, b4, b5, b6, b7, b8, b9, b10, b11, b12, b13⟩)
    rw [World.size_alloc] at r
    exact r
  · exact (((Only.refl none_ w).alloc _).alloc _)
end Go.Proofs.YtnhcgnmanonmaaaDoor

/- A set of blocks in memory, which is an array of 256 bools: its cells by a function. -/
import Derived.Test.YtobeoknaanbakaaRs13
import Derived.Laws.Rows
import Derived.Laws.Tables
import Derived.Deep.WholeRow
namespace Go.Proofs.Ytobeoknaanbakaa
open Go.RowKit
set_option linter.unusedVariables false

def bits (p : Int → Bool) : Array Value := Array.ofFn (n := 256) fun i => .bool (p (i.val : Int))
theorem bits_size (p : Int → Bool) : (bits p).size = 256 := by simp [bits]
theorem bits_get (p : Int → Bool) {i : Nat} (h : i < 256) : (bits p)[i]? = some (.bool (p (i : Int))) := by simp [bits, h]
theorem bits_put (p : Int → Bool) (x : Nat) : (bits p).setIfInBounds x (.bool true) = bits (fun y => p y || decide (y = (x : Int))) := by
  apply Array.ext_getElem?
  intro i
  rw [Array.getElem?_setIfInBounds]
  by_cases h : i < 256
  · rw [bits_get p h, bits_get _ h]
    by_cases e : x = i
    · subst e
      rw [if_pos rfl, if_pos (by rw [bits_size]; exact h)]
      simp
    · rw [if_neg e]
      have : ¬ ((i : Int) = (x : Int)) := by omega
      simp [this]
  · rw [Array.getElem?_eq_none (by rw [bits_size]; omega), Array.getElem?_eq_none (by rw [bits_size]; omega)]
    by_cases e : x = i
    · subst e; rw [if_pos rfl, if_neg (by rw [bits_size]; exact h)]
    · rw [if_neg e]
theorem bits_one (p : Int → Bool) : (bits p).all (·.oneCell') = true := by
  rw [Array.all_eq_true]
  intro i hi
  simp [bits]
  rfl
theorem bits_same {p q : Int → Bool} (h : ∀ x : Int, 0 ≤ x → x < 256 → p x = q x) : bits p = bits q := by
  apply Array.ext_getElem?
  intro i
  by_cases k : i < 256
  · rw [bits_get p k, bits_get q k, h i (by omega) (by omega)]
  · rw [Array.getElem?_eq_none (by rw [bits_size]; omega), Array.getElem?_eq_none (by rw [bits_size]; omega)]
theorem info_set : (Try.prog.info? 46).map (fun i => (i.zero, i.size)) = some (some (.agg (bits (fun _ => false))), 256) := by kernel_rfl
theorem zero_set (w : World) : (zeroValue 46).run Try.prog w = .ok (.agg (bits (fun _ => false))) w := (zero_of_info info_set).1 w
theorem size_set (p : Int → Bool) : (Try.prog.info? 46).map (·.size) = some (bits p).size := by rw [bits_size]; exact (zero_of_info info_set).2
/-- it lies at block g -/
def SetAt (w : World) (g : Nat) (p : Int → Bool) : Prop := Row w g 46 (bits p)
theorem SetAt.still {w w' : World} {g : Nat} {p : Int → Bool} (h : SetAt w g p) (o : Only none_ w w') : SetAt w' g p := o.still h
theorem SetAt.cell {w : World} {g : Nat} {p : Int → Bool} (h : SetAt w g p) {i : Nat} (hi : i < 256) : w.cell? ⟨g, i, none⟩ = some (.bool (p (i : Int))) := by rw [Row.cell h, bits_get p hi]
/-- a whole set into its block -/
theorem Row.whole {w : World} {g : Nat} {t : TypeId} {cs : Array Value} (h : Row w g t cs) (ds : Array Value) : Row (w.setRow g ds) g t ds := setRow_heap w g cs ds t (0, 0) h
theorem SetAt.store {w : World} {g : Nat} {p : Int → Bool} (h : SetAt w g p) (q : Int → Bool) : SetAt (w.setRow g (bits q)) g q := Row.whole h (bits q)
theorem Only.whole {S : Nat → Prop} {a w : World} (h : Only S a w) {g : Nat} (hg : g < a.heap.size → S g) (cs : Array Value) : Only S a (w.setRow g cs) :=
  h.trans (S' := fun k => k = g) ⟨rfl, rfl, rfl, by simp, fun k _ hn => setRow_other _ _ _ _ hn⟩ (fun i hi s => by subst s; exact hg hi)
/-- a whole row, and one value beside it, as a call's answer -/
theorem results_row_tmp {P : Program} {fn : Func} {p q : Tmp} {ty : TypeId} (h : fn.results = #[.cell p ty, .tmp q]) (tmps : Array Value) (w : World) (g : Nat) (t : TypeId) (cs : Array Value) (fr : Nat × Nat) (d : TypeDesc)
    (hp : tmps.getD p undef = .pointer (some ⟨g, 0, none⟩)) (hg : w.heap[g]? = some (.cells cs t fr))
    (hu : P.underlying ty = some d) (hd : (match d with | .struct _ | .array _ _ => true | _ => false) = true) (hi : (P.info? ty).map (·.size) = some cs.size) :
    (results fn tmps).run P w = .ok (.tuple #[.agg cs, tmps.getD q undef]) w := by
  have hp' : tmps[p]?.getD undef = .pointer (some ⟨g, 0, none⟩) := by simpa using hp
  simp [results, h, hp', asAddr, run_loadVar_row w g t ty cs fr d hg hu hd hi]
theorem results_set2 {fn : Func} {p q : Tmp} (h : fn.results = #[.cell p 46, .tmp q]) (tmps : Array Value) (w : World) (g : Nat) (f : Int → Bool)
    (hp : tmps.getD p undef = .pointer (some ⟨g, 0, none⟩)) (hg : SetAt w g f) : (results fn tmps).run Try.prog w = .ok (.tuple #[.agg (bits f), tmps.getD q undef]) w :=
  results_row_tmp h tmps w g 46 (bits f) (0, 0) _ hp hg Try.underlying46 rfl (size_set f)
theorem info_run : (Try.prog.info? 27).map (·.size) = some 2 := by kernel_rfl
/-- a run as a call's answer -/
theorem results_run {fn : Func} {p : Tmp} (h : fn.results = #[.cell p 27]) (tmps : Array Value) (w : World) (g : Nat) (r : Rn)
    (hp : tmps.getD p undef = .pointer (some ⟨g, 0, none⟩)) (hg : Row w g 27 #[.int .i64 r.f, .int .i64 r.c]) : (results fn tmps).run Try.prog w = .ok r.val w :=
  results_cell_row h tmps w g 27 _ (0, 0) _ hp hg Try.underlying27 rfl info_run
theorem results_run2 {fn : Func} {p q : Tmp} (h : fn.results = #[.cell p 27, .tmp q]) (tmps : Array Value) (w : World) (g : Nat) (r : Rn)
    (hp : tmps.getD p undef = .pointer (some ⟨g, 0, none⟩)) (hg : Row w g 27 #[.int .i64 r.f, .int .i64 r.c]) : (results fn tmps).run Try.prog w = .ok (.tuple #[r.val, tmps.getD q undef]) w :=
  results_row_tmp h tmps w g 27 _ (0, 0) _ hp hg Try.underlying27 rfl info_run
end Go.Proofs.Ytobeoknaanbakaa

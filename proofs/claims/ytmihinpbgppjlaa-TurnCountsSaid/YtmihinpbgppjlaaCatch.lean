/- What package refuse answers: Unless leaves by a panic of its code; Catch is OK, or the code by which what it was handed left. -/
import Derived.Test.YtmihinpbgppjlaaHeap
import Derived.Test.YtmihinpbgppjlaaChecked
import Derived.WalkLawsBesides
namespace Go.Proofs.Ytmihinpbgppjlaa
open Go.RowKit

/-- a panic of a code -/
abbrev left (c : Int) : Ending := .panicked [{ v := .iface 25 (.int .i64 c), recovered := false }]

theorem unless_yes (c : Value) (w : World) : Calls Try.prog 26 #[.bool true, c] w fun e w' => e = .returned (.tuple #[]) ∧ w = w' := by
  go_enter Try.func26, Try.ntmps26
  go_wp2
  go_end0
  exact ⟨rfl, rfl⟩
theorem unless_no (c : Int) (w : World) : Calls Try.prog 26 #[.bool false, .int .i64 c] w fun e w' => e = left c ∧ w = w' := by
  go_enter Try.func26, Try.ntmps26
  go_wp2
  exact ⟨rfl, rfl, rfl⟩

theorem run_assert_code (c : Int) (w : World) : (Instr.typeAssert (.iface 25 (.int .i64 c)) 20 25 true).run Try.prog w = .ok (.tuple #[.int .i64 c, .bool true]) w := by kernel_rfl

/-- what Catch's closure does: it is done, or leaves by a panic of a code; a new block of the caller's own stays as it is -/
theorem taken_back (p : Addr) (c : Int) (older : List PanicEntry) (w : World) (v0 : Value) (hc : w.cell? p = some v0) (hz : w.frozen? p = false) :
    CallsD Try.prog 41 #[.pointer (some p)] (.panicking ({ v := .iface 25 (.int .i64 c), recovered := false } :: older)) w fun e u' w' =>
      e = .returned (.tuple #[]) ∧ u' = .panicking ({ v := .iface 25 (.int .i64 c), recovered := true } :: older) ∧ w' = w.setCell p (.int .i64 c) := by
  have ta := run_assert_code
  refine callsD_of_wpS Try.func41 rfl fun c₀ cs hu => ?_
  apply wpS_seq
  apply wpS_region
  simp [wpOpsS, go_sem, recoverD, hu, Try.ntmps41, Exit.thenS]
  simp only [show Array.replicate 10 undef = #[undef, undef, undef, undef, undef, undef, undef, undef, undef, undef] from rfl]
  simp
  apply wpS_of_wp
  go_wp2
  simp [bodyPostS, results, Try.results41]

theorem idle_back (p : Addr) (w : World) :
    CallsD Try.prog 41 #[.pointer (some p)] .returning w fun e u' w' => e = .returned (.tuple #[]) ∧ u' = .returning ∧ w' = w := by
  refine callsD_of_wpS Try.func41 rfl fun c₀ cs hu => ?_
  apply wpS_seq
  apply wpS_region
  simp [wpOpsS, go_sem, recoverD, hu, Try.ntmps41, Exit.thenS]
  simp only [show Array.replicate 10 undef = #[undef, undef, undef, undef, undef, undef, undef, undef, undef, undef] from rfl]
  simp
  apply wpS_of_wp
  go_wp2
  cases c₀
  simp_all [bodyPostS, results, Try.results41]

/-- how what Catch is handed ends: it is done, or leaves by a panic of a code -/
def done : Option Int → Ending
  | none => .returned (.tuple #[])
  | some c => left c

set_option maxHeartbeats 400000 in
theorem catch_any (G : FuncId) (caps : Array Value) (w : World) (R : Option Int → World → Prop) (hG : ∀ w, (callFunc G caps).run Try.prog w = .ok (.enter G caps) w)
    (h : Calls Try.prog G caps (w.alloc (.cells #[.int .i64 0] 25)) fun e w' => ∃ r, e = done r ∧ R r w' ∧ Row w' w.heap.size 25 #[.int .i64 0]) :
    Calls Try.prog 24 #[.func (.func G) #[] caps] w fun e w' => ∃ r w1, e = .returned (.int .i64 (r.getD 0)) ∧ R r w1 ∧ Row w1 w.heap.size 25 #[.int .i64 0] ∧ w' = w1.setCell ⟨w.heap.size, 0, none⟩ (.int .i64 (r.getD 0)) := by
  have hmf : ∀ (fn : Fn) (first cap : Array Value) (w : World), (Instr.makeFunc fn first cap).run Try.prog w = .ok (.func fn first cap) w := fun _ _ _ _ => rfl
  have H := Lib.hid h
  clear h
  go_enter_defers Try.func24, Try.ntmps24
  go_wp2_with fail
  (with_reducible refine H.out.mono ?_)
  rintro e w1 ⟨r, rfl, hR, hrow⟩
  have c1 := hrow.cell 0
  have c2 := hrow.frozen 0
  simp only [List.getElem?_toArray, List.getElem?_cons_zero] at c1
  rcases r with _ | c
  · simp only [done]
    go_wp2_with fail
    refine leaves_cons (f := 41) (args := #[.pointer (some ⟨w.heap.size, 0, none⟩)]) (by simp) (by simp [go_sem]) ?_
    refine (idle_back ⟨w.heap.size, 0, none⟩ _).mono ?_
    rintro e u' w'' ⟨rfl, rfl, rfl⟩
    simp only [Leaves, settle]
    refine ⟨.int .i64 0, by simp [results, Try.results24, go_sem, c1], none, _, rfl, hR, hrow, rfl⟩
  · simp only [done, left]
    go_wp2_with fail
    refine leaves_cons (f := 41) (args := #[.pointer (some ⟨w.heap.size, 0, none⟩)]) (by simp) (by simp [go_sem]) ?_
    refine (taken_back ⟨w.heap.size, 0, none⟩ c [] _ _ c1 c2).mono ?_
    rintro e u' w'' ⟨rfl, rfl, rfl⟩
    simp only [Leaves, settle, List.dropWhile]
    refine ⟨.int .i64 c, by simp [results, Try.results24, go_sem, c1], some c, _, rfl, hR, hrow, rfl⟩

theorem catch_code (G : FuncId) (caps : Array Value) (w : World) (S : Nat → Prop) (Q : Option Int → World → Prop) (hG : ∀ w, (callFunc G caps).run Try.prog w = .ok (.enter G caps) w) (hS : ¬ S w.heap.size)
    (hQ : ∀ r w1 v, Only S (w.alloc (.cells #[.int .i64 0] 25)) w1 → Q r w1 → Q r (w1.setCell ⟨w.heap.size, 0, none⟩ v))
    (h : Calls Try.prog G caps (w.alloc (.cells #[.int .i64 0] 25)) fun e w' => ∃ r, e = done r ∧ Q r w' ∧ Only S (w.alloc (.cells #[.int .i64 0] 25)) w') :
    Calls Try.prog 24 #[.func (.func G) #[] caps] w fun e w' => ∃ r, e = .returned (.int .i64 (r.getD 0)) ∧ Q r w' ∧ Only S w w' := by
  refine (catch_any G caps w (fun r w' => Q r w' ∧ Only S (w.alloc (.cells #[.int .i64 0] 25)) w') hG (h.mono ?_)).mono ?_
  · rintro e w' ⟨r, he, hq, ho⟩
    exact ⟨r, he, ⟨hq, ho⟩, ho.row (Row.fresh _ _ _) hS⟩
  · rintro e w' ⟨r, w1, he, ⟨hq, ho⟩, _, rfl⟩
    exact ⟨r, he, hQ r w1 _ ho hq, (((Only.refl S w).alloc _).same ho).put (fun k => by simp at k) _⟩
end Go.Proofs.Ytmihinpbgppjlaa

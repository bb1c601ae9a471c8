/- What becomes of a ticket that comes in; a ticket comes in again. -/
import Derived.Test.YtfbpjobobdidiaaGreatDoorGrpO
namespace Go.Proofs.YtfbpjobobdidiaaGreatDoor
open Go.RowKit Go.Maps
set_option linter.unusedVariables false
set_option maxRecDepth 100000

section
variable {p : Nat} {c : Nat → Nat} {X : Loc} {F H : Nat} {ks : List Tk} {E : Eng}
def fateN (b7 n tries : Int) (well : Bool) : Int := if well then 0 else if 0 < n ∧ tries + 1 < b7 then 1 else 2
theorem efate_any (t : Tk) (n : Int) (well : Bool) (w : World) (h : EP w p c X F H ks E) (ht : 0 ≤ t.tries ∧ t.tries ≤ 1000) :
    Calls Tryz.prog 120 #[ptrTo p, t.told n, .bool well] w fun e w' => e = .returned (.int .i64 (fateN E.o.b7 n t.tries well)) ∧ Only none_ w w' := by
  obtain ⟨W1, hW1⟩ : ∃ W1, W1 = w.alloc (.cells (t.toldC n) 54) := ⟨_, rfl⟩
  have o1 : Only none_ w W1 := by rw [hW1]; exact (Only.refl _ _).alloc _
  have r1 : Row W1 w.heap.size 54 (t.toldC n) := by rw [hW1]; exact Row.fresh _ _ _
  have od := o1.drew
  have q7 : W1.cell? ⟨p, 7, none⟩ = some (.int .i64 E.o.b7) := (h.still o1).cell 7
  have q4 : W1.cell? ⟨w.heap.size, 4, none⟩ = some (.int .i64 t.tries) := r1.cell 4
  have q5 : W1.cell? ⟨w.heap.size, 5, none⟩ = some (.int .i64 n) := r1.cell 5
  have v1 : IntKind.i64.wrap (t.tries + 1) = t.tries + 1 := by rw [IntKind.wrap_i64]; omega
  have O1 := Lib.hid o1
  have OD := Lib.hid od
  clear h o1 r1 od ht
  unfold Tk.told Tk.toldC at *
  unfold ptrTo
  generalize E.o.b7 = b7 at *
  cases well with
  | true =>
    go_enter Tryz.func120, Tryz.ntmps120
    go_wp2_with fail
    rw [← hW1]
    go_ret
    exact ⟨rfl, O1.out⟩
  | false =>
    by_cases k1 : 0 < n
    · have d1 : decide (0 < n) = true := decide_eq_true k1
      by_cases k2 : t.tries + 1 < b7
      · have d2 : decide (t.tries + 1 < b7) = true := decide_eq_true k2
        have EQ := Lib.hid (show fateN b7 n t.tries false = 1 from by unfold fateN; rw [if_neg (by decide), if_pos ⟨k1, k2⟩])
        clear k1 k2
        go_enter Tryz.func120, Tryz.ntmps120
        go_upto_region 3 with fail
        rw [← hW1]
        clear hW1
        go_quiet (fail)
        go_wp2_with fail
        go_ret
        exact ⟨by rw [EQ.out]; rfl, O1.out.drewN _⟩
      · have d2 : decide (t.tries + 1 < b7) = false := decide_eq_false k2
        have EQ := Lib.hid (show fateN b7 n t.tries false = 2 from by unfold fateN; rw [if_neg (by decide), if_neg (fun q => k2 q.2)])
        clear k1 k2
        go_enter Tryz.func120, Tryz.ntmps120
        go_upto_region 3 with fail
        rw [← hW1]
        clear hW1
        go_quiet (fail)
        go_wp2_with fail
        go_ret
        exact ⟨by rw [EQ.out]; rfl, O1.out.drewN _⟩
    · have d1 : decide (0 < n) = false := decide_eq_false k1
      have EQ := Lib.hid (show fateN b7 n t.tries false = 2 from by unfold fateN; rw [if_neg (by decide), if_neg (fun q => k1 q.1)])
      clear k1
      go_enter Tryz.func120, Tryz.ntmps120
      go_upto_region 3 with fail
      rw [← hW1]
      clear hW1
      go_quiet (fail)
      go_wp2_with fail
      go_ret
      exact ⟨by rw [EQ.out]; rfl, O1.out.drewN _⟩
end
end Go.Proofs.YtfbpjobobdidiaaGreatDoor

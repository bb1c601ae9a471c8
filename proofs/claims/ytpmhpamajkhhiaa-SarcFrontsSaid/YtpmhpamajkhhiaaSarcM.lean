/- What package sarc's New answers. -/
import Derived.Test.YtpmhpamajkhhiaaVictim
namespace Go.Proofs.Ytpmhpamajkhhiaa
open Go.RowKit
set_option linter.unusedVariables false

def MakesSc (n bot : Nat) (w : World) (e : Ending) (w' : World) : Prop := ∃ P p b, e = .returned (.tuple #[.pointer (some ⟨P, 0, none⟩), .int .i64 0]) ∧ SLies w' P p b (newSc n bot) ∧ w.heap.size ≤ P ∧ w.heap.size ≤ p ∧ w.heap.size ≤ b ∧ Only none_ w w'

theorem scells_new (p n bot : Nat) : tab 71 (scell p (newSc n bot)) = #[.pointer (some ⟨p, 0, none⟩), .int .i64 n, .int .i64 bot, .int .i64 0, .int .i64 0, .int .i64 0, .int .i64 0, .int .i64 0, .int .i64 0, .int .i64 0, .int .i64 0, .int .i64 0, .int .i64 0, .int .i64 0, .int .i64 0, .int .i64 0, .int .i64 0, .int .i64 0, .int .i64 0, .int .i64 0, .int .i64 0, .int .i64 0, .int .i64 0, .int .i64 0, .int .i64 0, .int .i64 0, .int .i64 0, .int .i64 0, .int .i64 0, .int .i64 0, .int .i64 0, .int .i64 0, .int .i64 0, .int .i64 0, .int .i64 0, .int .i64 0, .int .i64 0, .int .i64 0, .int .i64 0, .int .i64 0, .int .i64 0, .int .i64 0, .int .i64 0, .int .i64 0, .int .i64 0, .int .i64 0, .int .i64 0, .int .i64 0, .int .i64 0, .int .i64 0, .int .i64 0, .int .i64 0, .int .i64 0, .int .i64 0, .int .i64 0, .int .i64 0, .int .i64 0, .int .i64 0, .int .i64 0, .int .i64 0, .int .i64 0, .int .i64 0, .int .i64 0, .int .i64 0, .int .i64 0, .int .i64 0, .int .i64 0, .int .i64 0, .int .i64 0, .int .u64 0, .int .u64 0] := by kernel_rfl

set_option maxHeartbeats 1000000 in
theorem snew_yes (n bot : Nat) (w : World) (h1 : 1 ≤ bot) (h2 : bot ≤ n) (h3 : n ≤ 64) :
    Calls Try.prog 10 #[.int .i64 n, .int .i64 bot] w (MakesSc n bot w) := by
  have NW := Lib.hid (new_yes n bot w h1 h2 h3)
  have FN := Lib.hid (fine_newSc h1 h2 h3)
  go_enter Try.func10, Try.ntmps10
  go_wp2_with fail
  (with_reducible refine (NW.out).mono ?_)
  rintro e w1 ⟨p, b, rfl, hl, lp, lb, o1⟩
  have HL := Lib.hid hl
  have O1 := Lib.hid o1
  have l1 := hl.lt
  clear hl o1
  go_wp2_with fail
  go_ret2
  have r := Row.fresh w1 63 (tab 71 (scell p (newSc n bot)))
  have oa := (Only.refl none_ w1).alloc (.cells (tab 71 (scell p (newSc n bot))) 63)
  rw [scells_new] at r oa
  exact ⟨w1.heap.size, p, b, rfl, ⟨⟨by rw [scells_new]; exact r, HL.out.still oa, by omega, by omega⟩, FN.out⟩, O1.out.size, lp, lb, O1.out.same oa⟩
theorem snew_no (n bot : Int) (w : World) (h : ¬ (1 ≤ n ∧ n ≤ 64 ∧ 1 ≤ bot ∧ bot ≤ n)) :
    Calls Try.prog 10 #[.int .i64 n, .int .i64 bot] w fun e w' => e = .returned (.tuple #[.pointer none, .int .i64 1]) ∧ w = w' := by
  have NO := Lib.hid (new_no n bot w h)
  clear h
  go_enter Try.func10, Try.ntmps10
  go_wp2_with fail
  (with_reducible refine (NO.out).mono ?_)
  rintro e w' ⟨rfl, rfl⟩
  go_wp2
  go_ret2
  exact ⟨rfl, rfl⟩
end Go.Proofs.Ytpmhpamajkhhiaa

/- The code's own register, by what its calls answer. -/
import Derived.Test.YtgngaimbpnlkjaaQu14
namespace Go.Proofs.Ytgngaimbpnlkjaa
open Go.RowKit
set_option linter.unusedVariables false

theorem wadd_any {p : Nat} {M : Nat → Prop} {room L : Nat} {ss : List Sx} (t : Int) (x : Wt) (w : World) (h : WG w p M room L ss) (wx : wfW x) (hL : L < 1000000) :
    Calls Try.prog 11 #[.pointer (some ⟨p, 0, none⟩), .int .i64 t, x.val] w fun e w' => e = .returned (.int .i64 (addI room ss t x)) ∧ WGto w p M room (L + 1) (addS room ss t x) w' := by
  obtain ⟨b, came, es, k, rfl, hc, mp, mb⟩ := h.ex
  refine (add11 t x wx w k (by omega)).mono ?_
  rintro e w' ⟨rfl, came', es', k', hs, hl, o⟩
  refine ⟨rfl, ?_⟩
  rw [← hs]
  exact h.went mp mb k' (by omega) o
theorem wtake_any {p : Nat} {M : Nat → Prop} {room L : Nat} {ss : List Sx} (t : Int) (w : World) (h : WG w p M room L ss) :
    Calls Try.prog 14 #[.pointer (some ⟨p, 0, none⟩), .int .i64 t] w fun e w' => ∃ v', e = .returned v' ∧ RdW w' w.heap.size v' (ofL ss t) ∧ WGtoV w p M room L (leftT ss t) v' w' := by
  obtain ⟨b, came, es, k, rfl, hc, mp, mb⟩ := h.ex
  refine (take14 t w k).mono ?_
  rintro e w' ⟨v', rfl, hr, ⟨es', k', hs⟩, o⟩
  refine ⟨v', rfl, hr, ?_⟩
  rw [← hs]
  exact h.wentV mp mb k' hc o (fun g hg => (hr.late g hg).1)
theorem wquit_any {p : Nat} {M : Nat → Prop} {room L : Nat} {ss : List Sx} (r : Int) (w : World) (h : WG w p M room L ss) :
    Calls Try.prog 17 #[.pointer (some ⟨p, 0, none⟩), .int .i64 r] w fun e w' => ∃ v', e = .returned v' ∧ OwnsInts w' w.heap.size v' (quitI ss r) ∧ WGtoV w p M room L (leftR ss r) v' w' := by
  obtain ⟨b, came, es, k, rfl, hc, mp, mb⟩ := h.ex
  refine (quit17 r w k).mono ?_
  rintro e w' ⟨v', rfl, hr, ⟨es', k', hs⟩, o⟩
  refine ⟨v', rfl, hr, ?_⟩
  rw [← hs]
  exact h.wentV mp mb k' hc o (fun g hg => (hr.base_le hg).1)
theorem wof_any {p : Nat} {M : Nat → Prop} {room L : Nat} {ss : List Sx} (t : Int) (w : World) (h : WG w p M room L ss) :
    Calls Try.prog 21 #[.pointer (some ⟨p, 0, none⟩), .int .i64 t] w fun e w' => ∃ v', e = .returned v' ∧ RdW w' w.heap.size v' (ofL ss t) ∧ Only none_ w w' := by
  obtain ⟨b, came, es, k, rfl, hc, mp, mb⟩ := h.ex
  exact of21 t w k
theorem wwaits_any {p : Nat} {M : Nat → Prop} {room L : Nat} {ss : List Sx} (x : Wt) (w : World) (h : WG w p M room L ss) (wx : wfW x) :
    Calls Try.prog 19 #[.pointer (some ⟨p, 0, none⟩), x.val] w fun e w' => e = .returned (.bool (waitsB ss x)) ∧ Only none_ w w' := by
  obtain ⟨b, came, es, k, rfl, hc, mp, mb⟩ := h.ex
  rw [← has_seats]
  exact waits19 x wx w k
theorem wfree_any {p : Nat} {M : Nat → Prop} {room L : Nat} {ss : List Sx} (w : World) (h : WG w p M room L ss) :
    Calls Try.prog 23 #[.pointer (some ⟨p, 0, none⟩)] w fun e w' => e = .returned (.int .i64 ((room : Int) - (ss.length : Int))) ∧ Only none_ w w' := by
  obtain ⟨b, came, es, k, rfl, hc, mp, mb⟩ := h.ex
  rw [seats_len]
  exact free23 w k
end Go.Proofs.Ytgngaimbpnlkjaa

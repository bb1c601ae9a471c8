/- What number, told and the document's plain answer: a float64's bits, or the NaN of every NaN. No condition. -/
import Derived.Test.YthknbmjobllonaaFref
import Derived.Defers
import Derived.Recover
import Derived.Laws.Pointers
import Derived.Below
import Derived.WalkSmall
namespace Go.Proofs.Ythknbmjobllonaa
open Go.RowKit Fl

/-- some answer, and a world in which nothing that was there has turned -/
def Kept (v : Value) (w : World) (e : Ending) (w' : World) : Prop := e = .returned v ∧ Below w.heap.size w w'
/-- a panic of the program's own -/
def Panics (w : World) (e : Ending) (w' : World) : Prop := ∃ u x, e = .panicked [{ v := .iface u x, recovered := false }] ∧ w = w'

theorem mathNaN_any (x : Nat) (w : World) : Calls Try.prog 30 #[.float .f64 x] w fun e w' => e = .returned (.bool (nan x)) ∧ w = w' := by
  have t : (Ieee.double.order x x != some .eq) = nan x := by
    by_cases c : nan x = true
    · rw [order_nan_left c, c]; rfl
    · have c : nan x = false := by simpa using c
      rw [order_self c, c]; rfl
  have H := Lib.hid t
  go_enter Try.func30, Try.ntmps30
  go_wp2
  go_ret
  exact ⟨by rw [← H.out]; rfl, rfl⟩

theorem number_num (x : Nat) (h : nan x = false) (w : World) : Calls Try.prog 25 #[.float .f64 x] w fun e w' => e = .returned (.float .f64 x) ∧ w = w' := by
  go_enter Try.func25, Try.ntmps25
  go_wp2_with (go_at_call 30; (with_reducible refine (mathNaN_any _ _).mono ?_); rintro e w' ⟨rfl, rfl⟩)
  go_ret
  exact ⟨rfl, rfl⟩

theorem number_nan (x : Nat) (h : nan x = true) (w : World) : Calls Try.prog 25 #[.float .f64 x] w (Panics w) := by
  go_enter Try.func25, Try.ntmps25
  go_wp2_with (go_at_call 30; (with_reducible refine (mathNaN_any _ _).mono ?_); rintro e w' ⟨rfl, rfl⟩)
  exact ⟨rfl, _, _, rfl, rfl⟩

theorem told_catch (p : Addr) (x : Int) (u : TypeId) (pv : Value) (older : List PanicEntry) (w : World) (hp : w.cell? p = some (.int .u64 x)) (hfp : w.frozen? p = false) :
    CallsD Try.prog 28 #[.pointer (some p)] (.panicking ({ v := .iface u pv, recovered := false } :: older)) w fun e u' w' =>
      e = .returned (.tuple #[]) ∧ u' = .panicking ({ v := .iface u pv, recovered := true } :: older) ∧ w' = w.setCell p (.int .u64 9221120237041090561) := by
  refine callsD_of_wpS Try.func28 rfl fun c₀ cs hu => ?_
  apply wpS_seq
  apply wpS_region
  simp [wpOpsS, go_sem, recoverD, hu, Try.ntmps28, Exit.thenS]
  refine wpS_cond (t := true) (by simp [Act.eval, Array.replicate]) ?_
  simp only [if_true]
  apply wpS_region
  simp [wpOpsS, go_sem, hp, hfp, bodyPostS, results, Try.results28]

theorem told_idle (p : Addr) (w : World) :
    CallsD Try.prog 28 #[.pointer (some p)] .returning w fun e u' w' => e = .returned (.tuple #[]) ∧ u' = .returning ∧ w' = w := by
  refine callsD_of_wpS Try.func28 rfl fun c₀ cs hu => ?_
  apply wpS_seq
  apply wpS_region
  simp [wpOpsS, go_sem, recoverD, hu, Try.ntmps28, Exit.thenS]
  refine wpS_cond (t := false) (by simp [Act.eval, Array.replicate]) ?_
  simp only [Bool.false_eq_true, if_false]
  refine wpS_of_wp (wp_skip ?_)
  cases c₀
  simp_all [bodyPostS, results, Try.results28]

theorem below_one (w : World) (x : Value) (t : TypeId) : Below w.heap.size w (w.alloc (.cells #[x] t)) :=
  (Below.refl _ _).alloc (Nat.le_refl _) _

theorem told_num (x : Nat) (h : nan x = false) (w : World) : Calls Try.prog 22 #[.float .f64 x] w (Kept (.int .u64 x) w) := by
  have hmf : ∀ (fn : Fn) (first cap : Array Value) (w : World), (Instr.makeFunc fn first cap).run Try.prog w = .ok (.func fn first cap) w := fun _ _ _ _ => rfl
  have hb := tobits x
  go_enter_defers Try.func22, Try.ntmps22
  go_wp2_with (first | (go_at_call 25; (with_reducible refine (number_num _ h _).mono ?_); rintro e w' ⟨rfl, rfl⟩))
  refine leaves_cons (f := 28) (args := #[.pointer (some ⟨w.heap.size, 0, none⟩)]) (by simp) (by simp [go_sem]) ?_
  refine (told_idle ⟨w.heap.size, 0, none⟩ _).mono ?_
  rintro e u' w'' ⟨rfl, rfl, rfl⟩
  simp only [Leaves, settle]
  refine ⟨.int .u64 x, by simp [results, Try.results22, go_sem], rfl, ?_⟩
  first | exact below_one _ _ _ | exact Below.setCell (below_one _ _ _) (by simp) _

theorem told_nan (x : Nat) (h : nan x = true) (w : World) : Calls Try.prog 22 #[.float .f64 x] w (Kept (.int .u64 9221120237041090561) w) := by
  have hmf : ∀ (fn : Fn) (first cap : Array Value) (w : World), (Instr.makeFunc fn first cap).run Try.prog w = .ok (.func fn first cap) w := fun _ _ _ _ => rfl
  have hb := tobits x
  go_enter_defers Try.func22, Try.ntmps22
  go_wp2_with (first | (go_at_call 25; (with_reducible refine (number_nan _ h _).mono ?_); rintro e w' ⟨u, v, rfl, rfl⟩))
  refine leaves_cons (f := 28) (args := #[.pointer (some ⟨w.heap.size, 0, none⟩)]) (by simp) (by simp [go_sem]) ?_
  refine (told_catch ⟨w.heap.size, 0, none⟩ 0 u v [] _ ?_ ?_).mono ?_
  · simp [go_sem]
  · simp [go_sem]
  rintro e u' w'' ⟨rfl, rfl, rfl⟩
  simp only [Leaves, settle, List.dropWhile]
  refine ⟨.int .u64 9221120237041090561, by simp [results, Try.results22, go_sem], rfl, ?_⟩
  first | exact below_one _ _ _ | exact Below.setCell (below_one _ _ _) (by simp) _

theorem told_any (x : Nat) (w : World) : Calls Try.prog 22 #[.float .f64 x] w (Kept (.int .u64 (canon x)) w) := by
  by_cases h : nan x = true
  · rw [canon_nan h]; exact told_nan x h w
  · have h : nan x = false := by simpa using h
    rw [canon_num h]; exact told_num x h w

theorem plain_any (x : Nat) (hx : x < 18446744073709551616) (w : World) : Calls Try.prog 23 #[.float .f64 x] w fun e w' => e = .returned (.int .u64 (canon x)) ∧ w = w' := by
  have hb := tobits x
  by_cases h : nan x = true
  · rw [canon_nan h]
    go_enter Try.func23, Try.ntmps23
    go_wp2_with (go_at_call 15; (with_reducible refine (isNaN_ref _ hx _).mono ?_); rintro e w' ⟨rfl, rfl⟩)
    go_ret
    exact ⟨rfl, rfl⟩
  · have h : nan x = false := by simpa using h
    rw [canon_num h]
    go_enter Try.func23, Try.ntmps23
    go_wp2_with (go_at_call 15; (with_reducible refine (isNaN_ref _ hx _).mono ?_); rintro e w' ⟨rfl, rfl⟩)
    go_ret
    exact ⟨rfl, rfl⟩
end Go.Proofs.Ythknbmjobllonaa

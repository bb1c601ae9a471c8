/- What quotient answers, or that it panics; and what Scale makes of either: a product by a number, held. -/
import Derived.Test.YtkjjahkldahahaaDiv
import Derived.Defers
import Derived.Recover
import Derived.Laws.Pointers
import Derived.Below
import Derived.WalkSmall
namespace Go.Proofs.Ytkjjahkldahahaa
open Go.RowKit Nums

/-- some answer, and a world that is as it was but for draws -/
def Told (v : Value) (w : World) (e : Ending) (w' : World) : Prop := e = .returned v ∧ ∃ n, w' = w.drewN n
/-- some answer, and a world in which nothing that was there has turned -/
def Kept (v : Value) (w : World) (e : Ending) (w' : World) : Prop := e = .returned v ∧ Below w.heap.size w w'

theorem div64_any (hi lo y : Nat) (hlt : hi < y) (hlo : lo < 18446744073709551616) (hy : y < 18446744073709551616) (w : World) :
    Calls Try.prog 31 #[.int .u64 hi, .int .u64 lo, .int .u64 y] w
      (Told (.tuple #[.int .u64 (((hi * 18446744073709551616 + lo) / y : Nat) : Int), .int .u64 (((hi * 18446744073709551616 + lo) % y : Nat) : Int)]) w) := by
  by_cases h : 0 < hi
  · refine (div64_high hi lo y h hlt hlo hy w).mono ?_
    rintro e w' ⟨rfl, rfl⟩
    exact ⟨rfl, 0, rfl⟩
  · obtain rfl : hi = 0 := by omega
    rw [Nat.zero_mul, Nat.zero_add]
    exact (div64_low lo y hlo hy (by omega) w).mono fun e w' ⟨n, he, hw⟩ => ⟨he, n, hw⟩

theorem quotient_fits (hi lo c : Nat) (hlt : hi < c) (hlo : lo < 18446744073709551616) (hc : c < 18446744073709551616) (w : World) :
    Calls Try.prog 28 #[.int .u64 hi, .int .u64 lo, .int .u64 c] w (Told (.int .u64 (((hi * 18446744073709551616 + lo) / c : Nat) : Int)) w) := by
  have H := Lib.hid (div64_any hi lo c hlt hlo hc w)
  generalize (hi * 18446744073709551616 + lo) / c = q at *
  generalize (hi * 18446744073709551616 + lo) % c = r at *
  have t : ¬ c ≤ hi := by omega
  go_enter Try.func28, Try.ntmps28
  go_wp2_with (go_at_call 31; (with_reducible refine H.out.mono ?_); rintro e w' ⟨rfl, n, rfl⟩)
  go_ret
  exact ⟨rfl, _, rfl⟩

/-- a panic of the program's own -/
def Panics (w : World) (e : Ending) (w' : World) : Prop := ∃ u x, e = .panicked [{ v := .iface u x, recovered := false }] ∧ w = w'

theorem quotient_panics (hi lo c : Nat) (hle : c ≤ hi) (w : World) :
    Calls Try.prog 28 #[.int .u64 hi, .int .u64 lo, .int .u64 c] w (Panics w) := by
  go_enter Try.func28, Try.ntmps28
  go_wp2
  exact ⟨rfl, _, _, rfl, rfl⟩

theorem catch_panicking (p q : Addr) (x : Int) (y : Bool) (u : TypeId) (pv : Value) (older : List PanicEntry) (w : World) (hpq : p ≠ q) (hp : w.cell? p = some (.int .u64 x)) (hq : w.cell? q = some (.bool y)) (hfp : w.frozen? p = false) (hfq : w.frozen? q = false) :
    CallsD Try.prog 27 #[.pointer (some p), .pointer (some q)] (.panicking ({ v := .iface u pv, recovered := false } :: older)) w fun e u' w' =>
      e = .returned (.tuple #[]) ∧ u' = .panicking ({ v := .iface u pv, recovered := true } :: older) ∧ w' = (w.setCell p (.int .u64 18446744073709551615)).setCell q (.bool true) := by
  have hq2 : (w.setCell p (.int .u64 18446744073709551615)).cell? q = some (.bool y) := by rw [World.cell?_setCell_other _ _ _ _ hpq]; exact hq
  have hfq2 : (w.setCell p (.int .u64 18446744073709551615)).frozen? q = false := by rw [World.frozen?_setCell]; exact hfq
  refine callsD_of_wpS Try.func27 rfl fun c₀ cs hu => ?_
  apply wpS_seq
  apply wpS_region
  simp [wpOpsS, go_sem, recoverD, hu, Try.ntmps27, Exit.thenS]
  refine wpS_cond (t := true) (by simp [Act.eval, Array.replicate]) ?_
  simp only [if_true]
  apply wpS_region
  simp [wpOpsS, go_sem, hp, hq2, hfp, hfq2, bodyPostS, results, Try.results27]

theorem catch_idle (p q : Addr) (w : World) :
    CallsD Try.prog 27 #[.pointer (some p), .pointer (some q)] .returning w fun e u' w' => e = .returned (.tuple #[]) ∧ u' = .returning ∧ w' = w := by
  refine callsD_of_wpS Try.func27 rfl fun c₀ cs hu => ?_
  apply wpS_seq
  apply wpS_region
  simp [wpOpsS, go_sem, recoverD, hu, Try.ntmps27, Exit.thenS]
  refine wpS_cond (t := false) (by simp [Act.eval, Array.replicate]) ?_
  simp only [Bool.false_eq_true, if_false]
  refine wpS_of_wp (wp_skip ?_)
  cases c₀
  simp_all [bodyPostS, results, Try.results27]

theorem below_two (w : World) (x y : Value) (t u : TypeId) : Below w.heap.size w ((w.alloc (.cells #[x] t)).alloc (.cells #[y] u)) :=
  ((Below.refl _ _).alloc (Nat.le_refl _) _).alloc (by simp) _

theorem scale_zero (a b : Nat) (w : World) : Calls Try.prog 17 #[.int .u64 a, .int .u64 b, .int .u64 0] w (Kept (.tuple #[.int .u64 0, .bool false]) w) := by
  have hmf : ∀ (fn : Fn) (first cap : Array Value) (w : World), (Instr.makeFunc fn first cap).run Try.prog w = .ok (.func fn first cap) w := fun _ _ _ _ => rfl
  go_enter_defers Try.func17, Try.ntmps17
  go_wp2
  simp only [bodyPostD, Leaves]
  exact ⟨.tuple #[.int .u64 0, .bool false], by simp [results, Try.results17, go_sem], rfl, below_two _ _ _ _ _⟩

theorem scale_over (a b c : Nat) (ha : a < 18446744073709551616) (hb : b < 18446744073709551616) (h0 : 0 < c) (h : c ≤ a * b / 18446744073709551616) (w : World) :
    Calls Try.prog 17 #[.int .u64 a, .int .u64 b, .int .u64 c] w (Kept (.tuple #[.int .u64 18446744073709551615, .bool true]) w) := by
  have hmf : ∀ (fn : Fn) (first cap : Array Value) (w : World), (Instr.makeFunc fn first cap).run Try.prog w = .ok (.func fn first cap) w := fun _ _ _ _ => rfl
  have M := fun w => mul64_any a b ha hb w
  generalize a * b / 18446744073709551616 = hi at *
  generalize a * b % 18446744073709551616 = lo at *
  have HM := Lib.hid M
  have HQ := Lib.hid (quotient_panics hi lo c h)
  have t : ((c : Int) == 0) = false := by simpa using (by omega : (c : Int) ≠ 0)
  clear M h
  go_enter_defers Try.func17, Try.ntmps17
  go_wp2_with (first | (go_at_call 24; (with_reducible refine (HM.out _).mono ?_); rintro e w' ⟨rfl, rfl⟩) | (go_at_call 28; (with_reducible refine (HQ.out _).mono ?_); rintro e w' ⟨u, x, rfl, rfl⟩))
  refine leaves_cons (f := 27) (args := #[.pointer (some ⟨w.heap.size, 0, none⟩), .pointer (some ⟨w.heap.size + 1, 0, none⟩)]) (by simp) (by simp [go_sem]) ?_
  refine (catch_panicking ⟨w.heap.size, 0, none⟩ ⟨w.heap.size + 1, 0, none⟩ 0 false u x [] _ (by simp) ?_ ?_ ?_ ?_).mono ?_
  · simp [go_sem]
  · simp [go_sem]
  · simp [go_sem]
  · simp [go_sem]
  rintro e u' w'' ⟨rfl, rfl, rfl⟩
  simp only [Leaves, settle, List.dropWhile]
  refine ⟨.tuple #[.int .u64 18446744073709551615, .bool true], by simp [results, Try.results17, go_sem], rfl, ?_⟩
  exact ((below_two _ _ _ _ _).setCell (by simp) _).setCell (by simp) _

theorem scale_fits (a b c : Nat) (ha : a < 18446744073709551616) (hb : b < 18446744073709551616) (hc : c < 18446744073709551616) (h0 : 0 < c) (h : a * b / 18446744073709551616 < c) (w : World) :
    Calls Try.prog 17 #[.int .u64 a, .int .u64 b, .int .u64 c] w (Kept (.tuple #[.int .u64 ((a * b / c : Nat) : Int), .bool true]) w) := by
  have hmf : ∀ (fn : Fn) (first cap : Array Value) (w : World), (Instr.makeFunc fn first cap).run Try.prog w = .ok (.func fn first cap) w := fun _ _ _ _ => rfl
  have M := fun w => mul64_any a b ha hb w
  have hl := Nat.mod_lt (a * b) (show 18446744073709551616 > 0 by omega)
  have Q := fun w => quotient_fits (a * b / 18446744073709551616) (a * b % 18446744073709551616) c h hl hc w
  rw [Nat.div_add_mod' (a * b) 18446744073709551616] at Q
  generalize a * b / 18446744073709551616 = hi at *
  generalize a * b % 18446744073709551616 = lo at *
  generalize a * b / c = q at *
  have HM := Lib.hid M
  have HQ := Lib.hid Q
  have t : ((c : Int) == 0) = false := by simpa using (by omega : (c : Int) ≠ 0)
  clear M Q h hl
  go_enter_defers Try.func17, Try.ntmps17
  go_wp2_with (first | (go_at_call 24; (with_reducible refine (HM.out _).mono ?_); rintro e w' ⟨rfl, rfl⟩) | (go_at_call 28; (with_reducible refine (HQ.out _).mono ?_); rintro e w' ⟨rfl, n, rfl⟩))
  refine leaves_cons (f := 27) (args := #[.pointer (some ⟨w.heap.size, 0, none⟩), .pointer (some ⟨w.heap.size + 1, 0, none⟩)]) (by simp) (by simp [go_sem]) ?_
  refine (catch_idle ⟨w.heap.size, 0, none⟩ ⟨w.heap.size + 1, 0, none⟩ _).mono ?_
  rintro e u' w'' ⟨rfl, rfl, rfl⟩
  simp only [Leaves, settle]
  refine ⟨.tuple #[.int .u64 q, .bool true], by simp [results, Try.results17, go_sem], rfl, ?_⟩
  exact ((below_drewN (below_two _ _ _ _ _) n).setCell (by simp) _).setCell (by simp) _

/-- a product by a number, held; nothing where the number is 0 -/
def scaled (a b c : Nat) : Nat := if c = 0 then 0 else held (a * b / c)

theorem scale_any (a b c : Nat) (ha : a < 18446744073709551616) (hb : b < 18446744073709551616) (hc : c < 18446744073709551616) (w : World) :
    Calls Try.prog 17 #[.int .u64 a, .int .u64 b, .int .u64 c] w (Kept (.tuple #[.int .u64 (scaled a b c), .bool (decide (0 < c))]) w) := by
  unfold scaled
  by_cases h0 : 0 < c
  · rw [if_neg (by omega), decide_eq_true h0]
    by_cases h : a * b / 18446744073709551616 < c
    · have hq : a * b / c < 18446744073709551616 := by
        rw [Nat.div_lt_iff_lt_mul h0]
        rw [Nat.div_lt_iff_lt_mul (by omega)] at h
        rw [Nat.mul_comm 18446744073709551616]; exact h
      rw [held_of_lt hq]
      exact scale_fits a b c ha hb hc h0 h w
    · have h2 : c ≤ a * b / 18446744073709551616 := Nat.le_of_not_lt h
      have hq : 18446744073709551616 ≤ a * b / c := by
        rw [Nat.le_div_iff_mul_le h0]
        rw [Nat.le_div_iff_mul_le (by omega)] at h2
        rw [Nat.mul_comm 18446744073709551616]; exact h2
      rw [held_of_ge hq]
      exact scale_over a b c ha hb h0 h2 w
  · obtain rfl : c = 0 := by omega
    exact scale_zero a b w
end Go.Proofs.Ytkjjahkldahahaa

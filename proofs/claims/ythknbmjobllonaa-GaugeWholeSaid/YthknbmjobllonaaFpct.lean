/- What Percent answers, and the document's own one: the same whole number. No condition but that the number fits its kind. -/
import Derived.Test.YthknbmjobllonaaFrate
namespace Go.Proofs.Ythknbmjobllonaa
open Go.RowKit Fl

theorem whole_of (way : Ieee.Toward) (x : Nat) (s : Bool) (m : Nat) (i : Int) (h : FloatKind.f64.decode x = .number s m i) (w : World) :
    (Extern.MathFloor.toIntegral "math.archFloor" way #[.float .f64 x]).run Try.prog w = .ok (.float .f64 (FloatKind.f64.encode (Ieee.Datum.integral way (.number s m i)))) w := by
  have e : ∃ a, Extern.MathFloor.toIntegral "math.archFloor" way #[.float .f64 x] = a := ⟨_, rfl⟩
  obtain ⟨a, ha⟩ := e
  rw [ha]
  conv at ha =>
    lhs
    whnf
  rw [h] at ha
  rw [← ha]
  rfl

theorem arch_floor (p r : Nat) (h : Ieee.double.read p = .number false (mant r) (least + ex r)) (w : World) :
    (callFunc 31 #[.float .f64 p]).run Try.prog w = .ok (.value (.float .f64 (FloatKind.f64.encode (.number false (whole r) 0)))) w := by
  rw [run_callFunc_extern Try.func31 (by kernel_rfl) (by kernel_rfl) (by kernel_rfl) (e := Extern.MathFloor.toIntegral "math.archFloor" .down) (by kernel_rfl)]
  have h' : FloatKind.f64.decode p = .number false (mant r) (least + ex r) := h
  rw [whole_of _ _ _ _ _ h', down_eq]
  rfl

theorem arch_floor_zero (w : World) :
    (callFunc 31 #[.float .f64 9223372036854775808]).run Try.prog w = .ok (.value (.float .f64 9223372036854775808)) w := by
  rw [run_callFunc_extern Try.func31 (by kernel_rfl) (by kernel_rfl) (by kernel_rfl) (e := Extern.MathFloor.toIntegral "math.archFloor" .down) (by kernel_rfl)]
  have h' : FloatKind.f64.decode 9223372036854775808 = .number true 0 (-1074) := by decide +kernel
  have h2 : FloatKind.f64.encode (Ieee.Datum.integral .down (.number true 0 (-1074))) = 9223372036854775808 := by decide +kernel
  rw [whole_of _ _ _ _ _ h', h2]
  rfl

theorem floor_any (p r : Nat) (h : Ieee.double.read p = .number false (mant r) (least + ex r)) (w : World) :
    Calls Try.prog 26 #[.float .f64 p] w fun e w' => e = .returned (.float .f64 (FloatKind.f64.encode (.number false (whole r) 0))) ∧ w = w' := by
  have a := arch_floor p r h
  generalize FloatKind.f64.encode (.number false (whole r) 0) = q at *
  clear h
  go_enter Try.func26, Try.ntmps26
  go_wp2
  go_ret
  exact ⟨rfl, rfl⟩

theorem floor_zero (w : World) :
    Calls Try.prog 26 #[.float .f64 9223372036854775808] w fun e w' => e = .returned (.float .f64 9223372036854775808) ∧ w = w' := by
  have a := arch_floor_zero
  go_enter Try.func26, Try.ntmps26
  go_wp2
  go_ret
  exact ⟨rfl, rfl⟩

theorem pct_catch (p : Addr) (x : Int) (u : TypeId) (pv : Value) (older : List PanicEntry) (w : World) (hp : w.cell? p = some (.int .i64 x)) (hfp : w.frozen? p = false) :
    CallsD Try.prog 24 #[.pointer (some p)] (.panicking ({ v := .iface u pv, recovered := false } :: older)) w fun e u' w' =>
      e = .returned (.tuple #[]) ∧ u' = .panicking ({ v := .iface u pv, recovered := true } :: older) ∧ w' = w.setCell p (.int .i64 0) := by
  refine callsD_of_wpS Try.func24 rfl fun c₀ cs hu => ?_
  apply wpS_seq
  apply wpS_region
  simp [wpOpsS, go_sem, recoverD, hu, Try.ntmps24, Exit.thenS]
  refine wpS_cond (t := true) (by simp [Act.eval, Array.replicate]) ?_
  simp only [if_true]
  apply wpS_region
  simp [wpOpsS, go_sem, hp, hfp, bodyPostS, results, Try.results24]

theorem pct_idle (p : Addr) (w : World) :
    CallsD Try.prog 24 #[.pointer (some p)] .returning w fun e u' w' => e = .returned (.tuple #[]) ∧ u' = .returning ∧ w' = w := by
  refine callsD_of_wpS Try.func24 rfl fun c₀ cs hu => ?_
  apply wpS_seq
  apply wpS_region
  simp [wpOpsS, go_sem, recoverD, hu, Try.ntmps24, Exit.thenS]
  refine wpS_cond (t := false) (by simp [Act.eval, Array.replicate]) ?_
  simp only [Bool.false_eq_true, if_false]
  refine wpS_of_wp (wp_skip ?_)
  cases c₀
  simp_all [bodyPostS, results, Try.results24]

theorem pct_nan (x : Nat) (h : nan x = true) (w : World) : Calls Try.prog 16 #[.int .u64 x] w (Kept (.int .i64 0) w) := by
  have hmf : ∀ (fn : Fn) (first cap : Array Value) (w : World), (Instr.makeFunc fn first cap).run Try.prog w = .ok (.func fn first cap) w := fun _ _ _ _ => rfl
  have hb := frombits x
  go_enter_defers Try.func16, Try.ntmps16
  go_wp2_with (first | (go_at_call 25; (with_reducible refine (number_nan _ h _).mono ?_); rintro e w' ⟨u, v, rfl, rfl⟩))
  refine leaves_cons (f := 24) (args := #[.pointer (some ⟨w.heap.size, 0, none⟩)]) (by simp) (by simp [go_sem]) ?_
  refine (pct_catch ⟨w.heap.size, 0, none⟩ 0 u v [] _ ?_ ?_).mono ?_
  · simp [go_sem]
  · simp [go_sem]
  rintro e u' w'' ⟨rfl, rfl, rfl⟩
  simp only [Leaves, settle, List.dropWhile]
  refine ⟨.int .i64 0, by simp [results, Try.results16, go_sem], rfl, ?_⟩
  first | exact below_one _ _ _ | exact Below.setCell (below_one _ _ _) (by simp) _

theorem f_order {x y : Nat} (hx : nan x = false) (hy : nan y = false) :
    ((FloatKind.f64.format.order x y == some .lt) = decide (key x < key y)) ∧ ((FloatKind.f64.format.order x y == some .gt) = decide (key y < key x)) ∧ ((FloatKind.f64.format.order x y == some .eq) = decide (key x = key y)) := by
  have o := order_key hx hy
  show ((Ieee.double.order x y == some .lt) = _) ∧ ((Ieee.double.order x y == some .gt) = _) ∧ ((Ieee.double.order x y == some .eq) = _)
  rw [o]
  rcases Int.lt_trichotomy (key x) (key y) with k | k | k
  · rw [Int.compare_eq_lt.2 k, decide_eq_true k, decide_eq_false (by omega), decide_eq_false (by omega)]; decide
  · rw [Int.compare_eq_eq.2 k, decide_eq_false (by omega), decide_eq_false (by omega), decide_eq_true k]; decide
  · rw [Int.compare_eq_gt.2 k, decide_eq_false (by omega), decide_eq_true k, decide_eq_false (by omega)]; decide

theorem pct_below (x : Nat) (h : nan x = false) (l : key x < 0) (w : World) : Calls Try.prog 16 #[.int .u64 x] w (Kept (.int .i64 0) w) := by
  have hmf : ∀ (fn : Fn) (first cap : Array Value) (w : World), (Instr.makeFunc fn first cap).run Try.prog w = .ok (.func fn first cap) w := fun _ _ _ _ => rfl
  have hb := frombits x
  have o := (f_order h (show nan 0 = false by decide)).1
  rw [decide_eq_true (show key x < key 0 from l)] at o
  go_enter_defers Try.func16, Try.ntmps16
  go_wp2_with (first | (go_at_call 25; (with_reducible refine (number_num _ h _).mono ?_); rintro e w' ⟨rfl, rfl⟩))
  refine leaves_cons (f := 24) (args := #[.pointer (some ⟨w.heap.size, 0, none⟩)]) (by simp) (by simp [go_sem]) ?_
  refine (pct_idle ⟨w.heap.size, 0, none⟩ _).mono ?_
  rintro e u' w'' ⟨rfl, rfl, rfl⟩
  simp only [Leaves, settle]
  refine ⟨.int .i64 0, by simp [results, Try.results16, go_sem], rfl, ?_⟩
  first | exact below_one _ _ _ | exact Below.setCell (below_one _ _ _) (by simp) _

theorem pct_above (x : Nat) (h : nan x = false) (l : 4607182418800017408 < key x) (w : World) : Calls Try.prog 16 #[.int .u64 x] w (Kept (.int .i64 100) w) := by
  have hmf : ∀ (fn : Fn) (first cap : Array Value) (w : World), (Instr.makeFunc fn first cap).run Try.prog w = .ok (.func fn first cap) w := fun _ _ _ _ => rfl
  have hb := frombits x
  have o := (f_order h (show nan 0 = false by decide)).1
  rw [decide_eq_false (show ¬ key x < key 0 by show ¬ key x < 0; omega)] at o
  have o2 := (f_order h (show nan 4607182418800017408 = false by decide)).2.1
  rw [decide_eq_true (show key 4607182418800017408 < key x from l)] at o2
  clear l
  go_enter_defers Try.func16, Try.ntmps16
  go_wp2_with (first | (go_at_call 25; (with_reducible refine (number_num _ h _).mono ?_); rintro e w' ⟨rfl, rfl⟩))
  refine leaves_cons (f := 24) (args := #[.pointer (some ⟨w.heap.size, 0, none⟩)]) (by simp) (by simp [go_sem]) ?_
  refine (pct_idle ⟨w.heap.size, 0, none⟩ _).mono ?_
  rintro e u' w'' ⟨rfl, rfl, rfl⟩
  simp only [Leaves, settle]
  refine ⟨.int .i64 100, by simp [results, Try.results16, go_sem], rfl, ?_⟩
  first | exact below_one _ _ _ | exact Below.setCell (below_one _ _ _) (by simp) _
end Go.Proofs.Ythknbmjobllonaa

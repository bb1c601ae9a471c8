/- Is a count the greatest; does a tally add up: the code's. No condition but that the counts fit 64 bits. -/
import Derived.Test.YtofmbipedljdkaaSx18
namespace Go.Proofs.Ytofmbipedljdkaa
open Go.RowKit
set_option linter.unusedVariables false

def Ta.isHeld (t : Ta) : Bool := (List.range 10).any fun i => t.n i == 18446744073709551615
theorem Ta.held_yes {t : Ta} {i : Nat} (hi : i < 10) (h : t.n i = 18446744073709551615) : t.isHeld = true := by
  unfold Ta.isHeld
  rw [List.any_eq_true]
  exact ⟨i, List.mem_range.2 hi, by rw [h]; rfl⟩
theorem Ta.held_not {t : Ta} (h : ∀ i, i < 10 → t.n i ≠ 18446744073709551615) : t.isHeld = false := by
  unfold Ta.isHeld
  rw [List.any_eq_false]
  intro i hi
  simpa using h i (List.mem_range.1 hi)

set_option maxHeartbeats 1000000 in
theorem isheld_any (t : Ta) (w : World) : Calls Try.prog 13 #[t.val] w fun e w' => e = .returned (.bool t.isHeld) ∧ Only none_ w w' := by
  have hmf : ∀ (fn : Fn) (first cap : Array Value) (w : World), (Instr.makeFunc fn first cap).run Try.prog w = .ok (.func fn first cap) w := fun _ _ _ _ => rfl
  have OF := Lib.hid (fun w => of_any t w)
  go_enter Try.func13, Try.ntmps13
  go_wp2_with fail
  go_wp2_with fail
  (with_reducible refine (OF.out _).mono ?_)
  rintro e w1 ⟨rfl, o1⟩
  have O1 := Lib.hid (((Only.refl none_ w).alloc _).same o1)
  clear o1 OF
  go_wp2_with fail
  go_loopw [4, 8] (fun _ i wr => ∃ k : Nat, k ≤ 10 ∧ i = .int .i64 k ∧ Only none_ w wr ∧ ∀ j, j < k → t.n j ≠ 18446744073709551615) (fun _ i _ => 10 - (intOf i).toNat)
  case atStart => exact ⟨0, by omega, rfl, O1.out, fun j hj => absurd hj (by omega)⟩
  case round =>
    obtain ⟨k, hk, rfl, o, hn⟩ := hrel
    have O := Lib.hid o
    have N := Lib.hid hn
    clear o hn
    by_cases hlt : k < 10
    · have FA := Lib.hid (fun w => find_any t k hlt w)
      have Y := Lib.hid (fun h => Ta.held_yes (t := t) hlt h)
      generalize hx : t.n k = x at *
      by_cases hm : x = 18446744073709551615
      · have H := Lib.hid (Y.out hm)
        subst hm
        clear Y
        go_wp2_with fail
        go_wp2_with fail
        (with_reducible refine (FA.out _).mono ?_)
        rintro e w2 ⟨rfl, o2⟩
        have O2 := Lib.hid (O.out.same o2)
        clear o2
        go_wp2_with fail
        go_ret
        exact ⟨by rw [H.out]; rfl, O2.out⟩
      · have hm' : ¬ (x : Int) = 18446744073709551615 := by omega
        clear Y
        go_wp2_with fail
        go_wp2_with fail
        (with_reducible refine (FA.out _).mono ?_)
        rintro e w2 ⟨rfl, o2⟩
        have O2 := Lib.hid (O.out.same o2)
        clear o2
        go_wp2_with fail
        go_roundw
        case rel => exact ⟨k + 1, by omega, by go_num, O2.out, fun j hj => by
          by_cases e : j = k
          · rw [e, hx]; exact hm
          · exact N.out j (by omega)⟩
        case measure => simp [intOf]; omega
    · have e : k = 10 := by omega
      subst e
      have H := Lib.hid (Ta.held_not N.out)
      go_wp2_with fail
      go_ret
      exact ⟨by rw [H.out]; rfl, O.out⟩

theorem beq_cast (a b : Nat) : ((a : Int) == (b : Int)) = (a == b) := by
  rw [Bool.eq_iff_iff]
  simp
  omega
def Ta.adds (t : Ta) : Bool := t.n 0 == t.tot [1, 2, 3, 4]
def Ta.gone (t : Ta) (a b : Nat) : Bool := t.n 5 == held (held (t.tot [6, 7, 8, 9] + a) + b)

set_option maxHeartbeats 1000000 in
theorem sound_any (t : Ta) (ht : t.Wf) (a b : Nat) (ha : a < 18446744073709551616) (hb : b < 18446744073709551616) (w : World) :
    Calls Try.prog 15 #[t.val, .int .u64 a, .int .u64 b] w fun e w' => e = .returned (.tuple #[.bool t.adds, .bool (t.gone a b)]) ∧ Only none_ w w' := by
  have hmf : ∀ (fn : Fn) (first cap : Array Value) (w : World), (Instr.makeFunc fn first cap).run Try.prog w = .ok (.func fn first cap) w := fun _ _ _ _ => rfl
  have OF := Lib.hid (fun w => of_any t w)
  have F0 : Hid (∀ w, Calls Try.prog 22 #[t.val, .int .i64 0] w fun e w' => e = .returned (.int .u64 (t.n 0)) ∧ Only none_ w w') := Lib.hid (fun w => find_any t 0 (by omega) w)
  have F5 : Hid (∀ w, Calls Try.prog 22 #[t.val, .int .i64 5] w fun e w' => e = .returned (.int .u64 (t.n 5)) ∧ Only none_ w w') := Lib.hid (fun w => find_any t 5 (by omega) w)
  have TA := Lib.hid (fun (g : Nat) (w : World) (r : Row w g 3 #[.int .i64 6, .int .i64 7, .int .i64 8, .int .i64 9]) => total_any t ht [6, 7, 8, 9] (by decide) (by decide) g w r)
  have TB := Lib.hid (fun (g : Nat) (w : World) (r : Row w g 3 #[.int .i64 1, .int .i64 2, .int .i64 3, .int .i64 4]) => total_any t ht [1, 2, 3, 4] (by decide) (by decide) g w r)
  simp only [List.length_cons, List.length_nil] at TA TB
  have l1 := t.tot_lt [1, 2, 3, 4]
  have l2 := t.tot_lt [6, 7, 8, 9]
  have A1 := Lib.hid (fun w => add_any (t.tot [6, 7, 8, 9]) a l2 ha w)
  have A2 := Lib.hid (fun w => add_any (held (t.tot [6, 7, 8, 9] + a)) b (held_lt _) hb w)
  have D1 := Lib.hid (show t.adds = (t.n 0 == t.tot [1, 2, 3, 4]) from rfl)
  have D2 := Lib.hid (show t.gone a b = (t.n 5 == held (held (t.tot [6, 7, 8, 9] + a) + b)) from rfl)
  generalize t.tot [1, 2, 3, 4] = p at *
  generalize t.tot [6, 7, 8, 9] = q at *
  generalize held (held (q + a) + b) = r at *
  generalize held (q + a) = s at *
  clear l1 l2
  go_enter Try.func15, Try.ntmps15
  go_wp2_with fail
  go_wp2_with fail
  (with_reducible refine (OF.out _).mono ?_)
  rintro e w1 ⟨rfl, o1⟩
  have O1 := Lib.hid (((Only.refl none_ w).alloc _).same o1)
  clear o1 OF
  go_wp2_with fail
  go_wp2_with fail
  (with_reducible refine (TA.out _ _ (Row.fresh _ _ _)).mono ?_)
  rintro e w2 ⟨rfl, o2⟩
  have O2 := Lib.hid ((O1.out.alloc _).same o2)
  clear o2 TA
  go_wp2_with fail
  go_wp2_with fail
  (with_reducible refine (F0.out _).mono ?_)
  rintro e w3 ⟨rfl, o3⟩
  have O3 := Lib.hid (O2.out.same o3)
  clear o3 F0
  go_wp2_with fail
  (with_reducible refine (TB.out _ _ (Row.fresh _ _ _)).mono ?_)
  rintro e w4 ⟨rfl, o4⟩
  have O4 := Lib.hid ((O3.out.alloc _).same o4)
  clear o4 TB
  go_wp2_with fail
  (with_reducible refine (F5.out _).mono ?_)
  rintro e w5 ⟨rfl, o5⟩
  have O5 := Lib.hid (O4.out.same o5)
  clear o5 F5
  go_wp2_with fail
  (with_reducible refine (A1.out _).mono ?_)
  rintro e w6 ⟨rfl, rfl⟩
  go_wp2_with fail
  (with_reducible refine (A2.out _).mono ?_)
  rintro e w6 ⟨rfl, rfl⟩
  go_wp2_with fail
  exact bodyPost_ret (v := .tuple #[.bool ((t.n 0 : Int) == (p : Int)), .bool ((t.n 5 : Int) == (r : Int))]) (by simp [results, Try.results15, go_sem]) rfl ⟨by rw [D1.out, D2.out, beq_cast, beq_cast], O5.out⟩
end Go.Proofs.Ytofmbipedljdkaa

/- What the document's own table answers: May, right, New. -/
import Derived.Test.YtajphhalneaihaaRx
import Derived.Test.YtajphhalneaihaaIxKeys
namespace Go.Proofs.Ytajphhalneaihaa
open Go.RowKit
set_option linter.unusedVariables false

def mayB (n : Int) : Bool := decide (n ∈ [2, 4, 8, 16, 32, 64, 128, 256])
theorem mayB_pow (n : Nat) : mayB n = true ↔ Pow n := by
  rw [pow_iff]
  unfold mayB
  simp only [decide_eq_true_eq, List.mem_cons, List.not_mem_nil, or_false]
  omega
theorem may_step {m : Nat} (h1 : 1 ≤ m) (h8 : m ≤ 8) : mayB ((2 ^ m : Nat) : Int) = true := (mayB_pow _).2 ⟨m, h1, h8, rfl⟩
set_option maxHeartbeats 2000000 in
theorem may_any (n : Int) (w : World) : Calls Try.prog 10 #[.int .i64 n] w fun e w' => e = .returned (.bool (mayB n)) ∧ w = w' := by
  go_enter Try.func10, Try.ntmps10
  go_wp2_with fail
  go_loop [3] (fun i => ∃ (m : Nat) (v : Int), 1 ≤ m ∧ m ≤ 9 ∧ i = .int .i64 v ∧ ((2 ^ m : Nat) : Int) = v ∧ ∀ j : Nat, 1 ≤ j → j < m → n ≠ ((2 ^ j : Nat) : Int)) (fun i => 600 - (intOf i).toNat)
  case atStart => exact ⟨1, 2, Nat.le_refl _, by decide, rfl, rfl, fun j h1 h2 => by omega⟩
  case round =>
    obtain ⟨m, v, h1, h9, rfl, hv, no⟩ := hrel
    have b1 : 2 ≤ 2 ^ m := by
      have : m = 1 ∨ m = 2 ∨ m = 3 ∨ m = 4 ∨ m = 5 ∨ m = 6 ∨ m = 7 ∨ m = 8 ∨ m = 9 := by omega
      rcases this with rfl | rfl | rfl | rfl | rfl | rfl | rfl | rfl | rfl <;> decide
    have v2 : 2 ≤ v := by omega
    have NO := Lib.hid no
    clear no
    by_cases h8 : m ≤ 8
    · have b2 : 2 ^ m ≤ 256 := by
        have : m = 1 ∨ m = 2 ∨ m = 3 ∨ m = 4 ∨ m = 5 ∨ m = 6 ∨ m = 7 ∨ m = 8 := by omega
        rcases this with rfl | rfl | rfl | rfl | rfl | rfl | rfl | rfl <;> decide
      have v256 : v ≤ 256 := by omega
      by_cases e : v = n
      · have ME := Lib.hid (show mayB n = true by rw [← e, ← hv]; exact may_step h1 h8)
        have t : (v == n) = true := by simpa using e
        clear e hv b1 b2 h8
        go_wp2_with fail
        go_ret
        exact ⟨by rw [ME.out]; rfl, rfl⟩
      · have t : (v == n) = false := by simpa using e
        have HV := Lib.hid (show ((2 ^ (m + 1) : Nat) : Int) = 2 * v by rw [Nat.pow_succ]; omega)
        have NX := Lib.hid (show ∀ j : Nat, 1 ≤ j → j < m + 1 → n ≠ ((2 ^ j : Nat) : Int) by
          intro j j1 j2
          rcases Nat.lt_or_ge j m with d | d
          · exact NO.out j j1 d
          · obtain rfl : j = m := by omega
            rw [hv]
            exact fun q => e q.symm)
        clear e hv b1 b2
        go_wp2_with fail
        go_round
        case rel => exact ⟨m + 1, 2 * v, by omega, by omega, rfl, HV.out, NX.out⟩
        case measure => simp [intOf]; omega
    · obtain rfl : m = 9 := by omega
      have v512 : v = 512 := by rw [← hv]; rfl
      have ME := Lib.hid (show mayB n = false by
        unfold mayB
        have := NO.out
        have a1 := this 1 (by decide) (by decide)
        have a2 := this 2 (by decide) (by decide)
        have a3 := this 3 (by decide) (by decide)
        have a4 := this 4 (by decide) (by decide)
        have a5 := this 5 (by decide) (by decide)
        have a6 := this 6 (by decide) (by decide)
        have a7 := this 7 (by decide) (by decide)
        have a8 := this 8 (by decide) (by decide)
        simp only [Nat.reducePow] at a1 a2 a3 a4 a5 a6 a7 a8
        simp only [decide_eq_false_iff_not, List.mem_cons, List.not_mem_nil, or_false]
        omega)
      have v257 : decide (v ≤ 256) = false := by simp; omega
      clear hv v512 b1 v2
      go_wp2_with fail
      go_ret
      exact ⟨by rw [ME.out]; rfl, rfl⟩

def rightB (key : Int) : Bool := decide (0 ≤ key ∧ key ≤ 1048576)
theorem right_any (key : Int) (w : World) : Calls Try.prog 29 #[.int .i64 key] w fun e w' => e = .returned (.bool (rightB key)) ∧ w = w' := by
  by_cases h0 : 0 ≤ key
  · by_cases h1 : key ≤ 1048576
    · have R := Lib.hid (show rightB key = true by unfold rightB; simp; omega)
      go_enter Try.func29, Try.ntmps29
      go_wp2
      go_ret
      exact ⟨by rw [R.out]; simp, rfl⟩
    · have R := Lib.hid (show rightB key = false by unfold rightB; simp; omega)
      have t : decide (key ≤ 1048576) = false := by simpa using h1
      go_enter Try.func29, Try.ntmps29
      go_wp2
      go_ret
      exact ⟨by rw [R.out]; simp, rfl⟩
  · have R := Lib.hid (show rightB key = false by unfold rightB; simp; omega)
    have t : decide (0 ≤ key) = false := by simpa using h0
    clear h0
    go_enter Try.func29, Try.ntmps29
    go_wp2
    go_ret
    exact ⟨by rw [R.out]; rfl, rfl⟩

def tk (q : Pl) : List Value := [.bool q.taken]
theorem tk1 (q : Pl) : (tk q).length = 1 := rfl
theorem flat_tk (l : List Pl) : flat tk l = (l.map (fun q => Value.bool q.taken)).toArray := by
  unfold flat
  congr 1
  induction l with
  | nil => rfl
  | cons x l ih => rw [List.flatMap_cons, ih]; rfl
theorem flat_one (l : List Int) : flat one l = (l.map (Value.int .i64)).toArray := by
  unfold flat
  rw [one_map]
theorem info_bool_ : (Try.prog.info? 4).map (fun i => (i.zero, i.size, i.bytes)) = some (some (.bool false), 1, 1) := by kernel_rfl

def MakesRx (n : Nat) (w : World) (e : Ending) (w' : World) : Prop := ∃ p a b c, e = .returned (.pointer (some ⟨p, 0, none⟩)) ∧ Rx w' p a b c (fresh n) (List.replicate n 0) (List.replicate n 0) ∧ w.heap.size ≤ p ∧ w.heap.size ≤ a ∧ w.heap.size ≤ b ∧ w.heap.size ≤ c ∧ Only none_ w w'

theorem four_at (w : World) (x0 x1 x2 x3 : Obj) :
    ((((w.alloc x0).alloc x1).alloc x2).alloc x3).drew.heap[w.heap.size]? = some x0 ∧ ((((w.alloc x0).alloc x1).alloc x2).alloc x3).drew.heap[w.heap.size + 1]? = some x1 ∧
    ((((w.alloc x0).alloc x1).alloc x2).alloc x3).drew.heap[w.heap.size + 1 + 1]? = some x2 ∧ ((((w.alloc x0).alloc x1).alloc x2).alloc x3).drew.heap[w.heap.size + 1 + 1 + 1]? = some x3 := by
  have e : ((((w.alloc x0).alloc x1).alloc x2).alloc x3).drew.heap = (((w.heap.push x0).push x1).push x2).push x3 := rfl
  rw [e]
  have s : ∀ k, ((((w.heap.push x0).push x1).push x2).push x3)[k]? = if k = w.heap.size + 1 + 1 + 1 then some x3 else if k = w.heap.size + 1 + 1 then some x2 else if k = w.heap.size + 1 then some x1 else if k = w.heap.size then some x0 else w.heap[k]? := fun k => by
    simp only [Array.getElem?_push, Array.size_push]
  refine ⟨?_, ?_, ?_, ?_⟩
  · rw [s, if_neg (by omega), if_neg (by omega), if_neg (by omega), if_pos rfl]
  · rw [s, if_neg (by omega), if_neg (by omega), if_pos rfl]
  · rw [s, if_neg (by omega), if_pos rfl]
  · rw [s, if_pos rfl]
theorem rx_made {W : World} {n p a b c : Nat} (h2 : 2 ≤ n) (h256 : n ≤ 256)
    (h3 : W.heap[p]? = some (.cells #[.slice (some ⟨a, 0, none⟩) n n, .slice (some ⟨b, 0, none⟩) n n, .slice (some ⟨c, 0, none⟩) n n] 52))
    (ha : W.heap[a]? = some (.cells (flat tk (List.replicate n Pl.none_)) 4)) (hb : W.heap[b]? = some (.cells (flat one (List.replicate n 0)) 3)) (hc : W.heap[c]? = some (.cells (flat one (List.replicate n 0)) 3))
    (ne : p ≠ a ∧ p ≠ b ∧ p ≠ c ∧ a ≠ b ∧ a ≠ c ∧ b ≠ c) : Rx W p a b c (fresh n) (List.replicate n 0) (List.replicate n 0) := by
  obtain ⟨n1, n2, n3, n4, n5, n6⟩ := ne
  refine ⟨by rw [fresh_len]; exact h3, by rw [← flat_tk]; exact ha, by rw [← flat_one]; exact hb, by rw [← flat_one]; exact hc, by simp [fresh_len], by simp [fresh_len], ?_, by rw [fresh_len]; exact ⟨h2, h256⟩, n1, n2, n3, n4, n5, n6⟩
  intro i hi ht
  rw [at_fresh] at ht
  cases ht
set_option maxHeartbeats 2000000 in
theorem rnew_any (n : Nat) (w : World) (h2 : 2 ≤ n) (h256 : n ≤ 256) : Calls Try.prog 11 #[.int .i64 n] w (MakesRx n w) := by
  obtain ⟨i0, hi0, hz0, hz1, hz2⟩ := info_parts info_bool_
  obtain ⟨j0, gi0, gz0, gz1, gz2⟩ := info_parts info_int8
  have MB := run_make_flat (P := Try.prog) (c := tk) Pl.none_ tk1 (by decide) 50 4 i0 (.bool false) Try.underlying50 hi0 hz0 hz1 rfl .i64 .i64 n (by rw [hz2]; omega) (by omega)
  have MI := run_make_flat (P := Try.prog) (c := one) 0 one1 (by decide) 38 3 j0 (.int .i64 0) Try.underlying38 gi0 gz0 gz1 rfl .i64 .i64 n (by rw [gz2]; omega) (by omega)
  clear hi0 hz0 hz1 hz2 gi0 gz0 gz1 gz2
  go_enter Try.func11, Try.ntmps11
  go_wp2_with fail
  go_region
  all_goals
    clear MB MI
    go_wp2
    go_ret
    first
      | exact ⟨_, w.heap.size, w.heap.size + 1, w.heap.size + 1 + 1, rfl, rx_made h2 h256 (four_at w _ _ _ _).2.2.2 (four_at w _ _ _ _).1 (four_at w _ _ _ _).2.1 (four_at w _ _ _ _).2.2.1 (by omega), by omega, by omega, by omega, by omega, (((((Only.refl _ _).alloc _).alloc _).alloc _).alloc _).drew⟩
      | exact ⟨_, w.heap.size, w.heap.size + 1 + 1, w.heap.size + 1, rfl, rx_made h2 h256 (four_at w _ _ _ _).2.2.2 (four_at w _ _ _ _).1 (four_at w _ _ _ _).2.2.1 (four_at w _ _ _ _).2.1 (by omega), by omega, by omega, by omega, by omega, (((((Only.refl _ _).alloc _).alloc _).alloc _).alloc _).drew⟩
      | exact ⟨_, w.heap.size + 1, w.heap.size, w.heap.size + 1 + 1, rfl, rx_made h2 h256 (four_at w _ _ _ _).2.2.2 (four_at w _ _ _ _).2.1 (four_at w _ _ _ _).1 (four_at w _ _ _ _).2.2.1 (by omega), by omega, by omega, by omega, by omega, (((((Only.refl _ _).alloc _).alloc _).alloc _).alloc _).drew⟩
      | exact ⟨_, w.heap.size + 1, w.heap.size + 1 + 1, w.heap.size, rfl, rx_made h2 h256 (four_at w _ _ _ _).2.2.2 (four_at w _ _ _ _).2.1 (four_at w _ _ _ _).2.2.1 (four_at w _ _ _ _).1 (by omega), by omega, by omega, by omega, by omega, (((((Only.refl _ _).alloc _).alloc _).alloc _).alloc _).drew⟩
      | exact ⟨_, w.heap.size + 1 + 1, w.heap.size, w.heap.size + 1, rfl, rx_made h2 h256 (four_at w _ _ _ _).2.2.2 (four_at w _ _ _ _).2.2.1 (four_at w _ _ _ _).1 (four_at w _ _ _ _).2.1 (by omega), by omega, by omega, by omega, by omega, (((((Only.refl _ _).alloc _).alloc _).alloc _).alloc _).drew⟩
      | exact ⟨_, w.heap.size + 1 + 1, w.heap.size + 1, w.heap.size, rfl, rx_made h2 h256 (four_at w _ _ _ _).2.2.2 (four_at w _ _ _ _).2.2.1 (four_at w _ _ _ _).2.1 (four_at w _ _ _ _).1 (by omega), by omega, by omega, by omega, by omega, (((((Only.refl _ _).alloc _).alloc _).alloc _).alloc _).drew⟩
end Go.Proofs.Ytajphhalneaihaa

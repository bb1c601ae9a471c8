/- What layer 7's laws share. -/
import Derived.Test.YtpmhpamajkhhiaaRows7
import Derived.Test.YtpmhpamajkhhiaaAwake7
import Derived.Test.YtpmhpamajkhhiaaRTell
namespace Go.Proofs.Ytpmhpamajkhhiaa
open Go.RowKit
set_option linter.unusedVariables false

theorem count_of (a : Int) (h : 0 ≤ a) : ∃ N : Nat, 1 + a % 64 = (N : Int) ∧ 1 ≤ N ∧ N ≤ 64 := ⟨(1 + a % 64).toNat, by omega, by omega, by omega⟩
theorem node_of (x : Int) (N : Nat) (h : 0 ≤ x) (hN : 1 ≤ N) : ∃ k : Nat, x % (N : Int) = (k : Int) ∧ k < N := by
  have h1 := Int.emod_nonneg x (show (N : Int) ≠ 0 by omega)
  have h2 := Int.emod_lt_of_pos x (show (0 : Int) < N by omega)
  exact ⟨(x % (N : Int)).toNat, by omega, by omega⟩
theorem bot_of (x : Int) (N : Nat) (h : 0 ≤ x) (hN : 1 ≤ N) : ∃ T : Nat, 1 + x % (N : Int) = (T : Int) ∧ 1 ≤ T ∧ T ≤ N := by
  obtain ⟨k, hk, kN⟩ := node_of x N h hN
  exact ⟨1 + k, by omega, by omega, by omega⟩
theorem field_hits (v0 v1 v2 x y z : Value) (w : World) : (Instr.field 39 (.agg #[v0, v1, v2, x, y, z]) 4).run Try.prog w = .ok z w := by kernel_rfl
theorem field_want (v0 v1 v2 x y z : Value) (w : World) : (Instr.field 39 (.agg #[v0, v1, v2, x, y, z]) 2).run Try.prog w = .ok x w := by kernel_rfl
theorem psame_lit (r q hb : Nat) (ro : Nat → Prop) (c : Sc) (w : World) (h : RSc w r q hb ro c) (hu : c.us.length < 1000000) (a0 a1 a2 : Option Addr) (n0 n1 n2 k0 k1 k2 : Nat) (b0 b1 b2 : Nat) (o0 : OwnsInts w b0 (.slice a0 n0 k0) (ints c.s.l0)) (o1 : OwnsInts w b1 (.slice a1 n1 k1) (ints c.s.l1)) (o2 : OwnsInts w b2 (.slice a2 n2 k2) (ints c.s.heldL)) :
    Calls Try.prog 14 #[.pointer (some ⟨r, 0, none⟩), .agg #[.slice a0 n0 k0, .slice a1 n1 k1, .slice a2 n2 k2, .int .i64 c.want, .int .u64 c.miss, .int .u64 c.hits]] w fun e w' => e = .returned (.bool true) ∧ Only none_ w w' :=
  psame_ref r q hb ro c w h hu _ _ _ b0 b1 b2 o0 o1 o2
theorem snew_one (N : Nat) (w : World) (h1 : 1 ≤ N) (h2 : N ≤ 64) : Calls Try.prog 10 #[.int .i64 N, .int .i64 1] w (MakesSc N 1 w) := snew_yes N 1 w (by decide) h1 h2
theorem snew_one_ref (N : Nat) (w : World) (h1 : 1 ≤ N) (h2 : N ≤ 64) : Calls Try.prog 12 #[.int .i64 N, .int .i64 1] w (MakesRsc N 1 w) := snew_ref N 1 w (by decide) h1 h2
theorem pol_any (P p b : Nat) (c : Sc) (w : World) (h : SLies w P p b c) :
    Calls Try.prog 15 #[.pointer (some ⟨P, 0, none⟩)] w fun e w' => ∃ a0 n0 k0 a1 n1 k1 a2 n2 k2, e = .returned (.agg #[.slice a0 n0 k0, .slice a1 n1 k1, .slice a2 n2 k2, .int .i64 c.want, .int .u64 c.miss, .int .u64 c.hits]) ∧
      OwnsInts w' w.heap.size (.slice a0 n0 k0) (ints c.s.l0) ∧ OwnsInts w' w.heap.size (.slice a1 n1 k1) (ints c.s.l1) ∧ OwnsInts w' w.heap.size (.slice a2 n2 k2) (ints c.s.heldL) ∧ Below w.heap.size w w' := by
  refine (policy_any P p b c w h).mono ?_
  rintro e w2 ⟨v, rfl, ⟨v0, v1, v2, rfl, t0, t1, t2⟩, o⟩
  obtain ⟨a0, n0, k0, rfl⟩ := own_form t0
  obtain ⟨a1, n1, k1, rfl⟩ := own_form t1
  obtain ⟨a2, n2, k2, rfl⟩ := own_form t2
  exact ⟨a0, n0, k0, a1, n1, k1, a2, n2, k2, rfl, t0, t1, t2, o⟩

/-- nothing but misses: a policy without frames -/
def pc (N T want miss : Nat) : Sc := ⟨newSh N T, [], want, miss, 0⟩
theorem pc_new (N T : Nat) : newSc N T = pc N T 0 0 := rfl
theorem pc_miss {N T want miss : Nat} (h1 : 1 ≤ T) (hm : miss < 64) (hw : want ≤ N) : (pc N T want miss).missS 0 = pc N T (min (want + 1) N) (if miss + 1 = 64 then 32 else miss + 1) := by
  unfold Sc.missS
  rw [if_pos rfl]
  have hn : (Sc.mk (newSh N T) [] want (miss + 1) 0).newWant = min (want + 1) N := by
    unfold Sc.newWant
    have : 0 < (miss + 1) * T := Nat.mul_pos (by omega) h1
    rw [if_pos (by show 0 * (newSh N T).l0.length < (miss + 1) * T; omega)]
    rfl
  have hd : (pc N T want miss).miss = miss := rfl
  unfold Sc.weigh
  by_cases q : miss + 1 = 64
  · rw [if_pos (by unfold Sc.full; exact decide_eq_true (.inl (by show 64 ≤ miss + 1; omega))), if_pos q]
    show Sc.mk _ _ (Sc.newWant _) ((miss + 1) / 2) (0 / 2) = _
    rw [show (miss + 1) / 2 = 32 by omega]
    show Sc.mk _ _ (Sc.newWant _) 32 0 = _
    unfold pc
    congr 1
  · rw [if_neg (fun h => by
      have h2 : 64 ≤ miss + 1 ∨ 64 ≤ 0 := of_decide_eq_true h
      omega), if_neg q]
    unfold pc
    congr 1
end Go.Proofs.Ytpmhpamajkhhiaa

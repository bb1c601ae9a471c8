/- What layer 6's laws share. -/
import Derived.Test.YtgbccaplmafgkaaRows6
import Derived.Test.YtgbccaplmafgkaaSame6
namespace Go.Proofs.Ytgbccaplmafgkaa
open Go.RowKit
set_option linter.unusedVariables false

theorem count_of (a : Int) (h : 0 ≤ a) : ∃ N : Nat, 1 + a % 64 = (N : Int) ∧ 1 ≤ N ∧ N ≤ 64 := ⟨(1 + a % 64).toNat, by omega, by omega, by omega⟩
theorem node_of (x : Int) (N : Nat) (h : 0 ≤ x) (hN : 1 ≤ N) : ∃ k : Nat, x % (N : Int) = (k : Int) ∧ k < N := by
  have h1 := Int.emod_nonneg x (show (N : Int) ≠ 0 by omega)
  have h2 := Int.emod_lt_of_pos x (show (0 : Int) < N by omega)
  exact ⟨(x % (N : Int)).toNat, by omega, by omega⟩
theorem new_one (N : Nat) (w : World) (h1 : 1 ≤ N) (h2 : N ≤ 64) : Calls Try.prog 9 #[.int .i64 N, .int .i64 1] w (MakesSh N 1 w) := new_yes N 1 w (by decide) h1 h2

theorem dec_same (x : List Int) : decide (x = x) = true := by simp
/-- one list, the other is empty -/
def sec (N : Nat) (L : List Nat) : Sh := ⟨N, 1, [], L, List.replicate N false⟩
theorem sec_front {N : Nat} {L : List Nat} {k : Nat} (hk : k < N) : (sec N L).frontS 1 k = sec N (k :: L.erase k) ∧ (sec N L).frontC 1 k = 0 := by
  have h1 : hasL 1 = true := by decide
  have h2 : hasN N k = true := by unfold hasN; simp; omega
  have h3 : (sec N L).n = N := rfl
  constructor
  · unfold Sh.frontS
    rw [h1, h3, h2]
    rfl
  · unfold Sh.frontC
    rw [h1, h3, h2]
    rfl
theorem front_one (p b N k : Nat) (L : List Nat) (w : World) (h : Lies w p b (sec N L)) (hk : k < N) :
    Calls Try.prog 20 #[.pointer (some ⟨p, 0, none⟩), .int .i64 1, .int .i64 k] w fun e w' => e = .returned (.int .i64 0) ∧ Lies w' p b (sec N (k :: L.erase k)) ∧ Only (fun k => k = b) w w' := by
  have := front_any p b _ 1 k w h
  rwa [(sec_front hk).1, (sec_front hk).2] at this

/-- append([]int{k}, v...): a slice of the call's own -/
theorem wpList_append_front {P : Program} {w : World} {ops : Array Oper} {rest : List Oper} {o : Oper} {a : Act} {Q : Exit → Act → World → Prop} (hgd : o.guard = none) (s x : Operand) (t : TypeId)
    (ho : o.op = .call { callee := .builtin .append, args := #[s, x], argTypes := #[t, t] }) (i : TypeInfo) (z : Value) (ht : P.underlying t = some (.slice 3)) (hi : P.info? 3 = some i) (hz : i.zero = some z)
    (hsize : i.size = 1) (hby : i.bytes = 8) (hzs : z.cells.size = 1) {g0 : Nat} {k : Int} (hs : a.eval s = .slice (some ⟨g0, 0, none⟩) 1 1) (hr : Row w g0 3 #[.int .i64 k]) {g cap : Nat} {xs : List Int} (hx : a.eval x = .slice (some ⟨g, 0, none⟩) xs.length cap)
    (hc : ∀ j u, (xs.map (Value.int .i64))[j]? = some u → w.cell? ((Addr.mk g 0 none).add j) = some u) (hlen : xs.length ≤ 1000000)
    (h : ∀ v' w', OwnsInts w' g0 v' (k :: xs) → Only (fun j => g0 ≤ j) w w' → wpList P ops Q rest (a.put o.dst v') w') : wpList P ops Q (o :: rest) a w := by
  refine wpList_append_own w hgd s x t ho g0 3 i z 1 8 ht hi hz hsize hby hzs (by decide) (.slice (some ⟨g0, 0, none⟩) 1 1) 1 [.int .i64 k] hs (own_one (x := k) hr) ⟨g, 0, none⟩ xs.length cap (xs.map (Value.int .i64)) hx (by simp) hc ?_ (by unfold maxLen; omega) (by omega) (Nat.le_of_lt hr.lt) ?_
  · intro u hu
    obtain ⟨y, _, rfl⟩ := List.mem_map.1 hu
    rfl
  · intro v' w' h2 h3 _
    refine h v' w' (own_more h2) ((Only.of_grown h3).more (fun j _ e => ?_))
    have q2 : some j = some g0 := e
    injection q2 with q2
    omega

theorem wpList_wanted {P : Program} {w : World} {ops : Array Oper} {rest : List Oper} {o : Oper} {a : Act} {Q : Exit → Act → World → Prop} (hw : Region.wanted o (yielded ops a.tmps) = true)
    (h : ∀ K : Act → World → Prop, (∀ a w, wpList P ops Q rest a w → K a w) → o.wp P a w K Q) : wpList P ops Q (o :: rest) a w :=
  wpList_step fun K hK => by rw [if_pos hw]; exact h K hK
/-- append([]int{k}, v...), guarded -/
theorem wpList_append_front2 {P : Program} {w : World} {ops : Array Oper} {rest : List Oper} {o : Oper} {a : Act} {Q : Exit → Act → World → Prop} (hw : Region.wanted o (yielded ops a.tmps) = true) (s x : Operand) (t : TypeId)
    (ho : o.op = .call { callee := .builtin .append, args := #[s, x], argTypes := #[t, t] }) (i : TypeInfo) (z : Value) (ht : P.underlying t = some (.slice 3)) (hi : P.info? 3 = some i) (hz : i.zero = some z)
    (hsize : i.size = 1) (hby : i.bytes = 8) (hzs : z.cells.size = 1) {g0 : Nat} {k : Int} (hs : a.eval s = .slice (some ⟨g0, 0, none⟩) 1 1) (hr : Row w g0 3 #[.int .i64 k]) {g cap : Nat} {xs : List Int} (hx : a.eval x = .slice (some ⟨g, 0, none⟩) xs.length cap)
    (hc : ∀ j u, (xs.map (Value.int .i64))[j]? = some u → w.cell? ((Addr.mk g 0 none).add j) = some u) (hlen : xs.length ≤ 1000000)
    (h : ∀ v' w', OwnsInts w' g0 v' (k :: xs) → Only (fun j => g0 ≤ j) w w' → wpList P ops Q rest (a.put o.dst v') w') : wpList P ops Q (o :: rest) a w := by
  refine wpList_wanted hw fun K hK => wp_append_own w s x t ho g0 3 i z 1 8 ht hi hz hsize hby hzs (by decide) (.slice (some ⟨g0, 0, none⟩) 1 1) 1 [.int .i64 k] hs (own_one (x := k) hr) ⟨g, 0, none⟩ xs.length cap (xs.map (Value.int .i64)) hx (by simp) hc ?_ (by unfold maxLen; omega) (by omega) (Nat.le_of_lt hr.lt) ?_
  · intro u hu
    obtain ⟨y, _, rfl⟩ := List.mem_map.1 hu
    rfl
  · intro v' w' h2 h3 _
    refine hK _ _ (h v' w' (own_more h2) ((Only.of_grown h3).more (fun j _ e => ?_)))
    have q2 : some j = some g0 := e
    injection q2 with q2
    omega
theorem ref_one (N : Nat) (w : World) (h1 : 1 ≤ N) (h2 : N ≤ 64) : Calls Try.prog 11 #[.int .i64 N, .int .i64 1] w (MakesRef N 1 w) := new_ref N 1 w (by decide) h1 h2

/-- what a node's move to the other list changes -/
theorem moves {s : Sh} (f : s.Fine) {k : Nat} (hk : k < s.n) {c d : Int} (hc : s.lst k = c) (hcd : (c = 0 ∧ d = 1) ∨ (c = 1 ∧ d = 0)) :
    s.frontC d k = 0 ∧ (s.frontS d k).listOf c = (s.listOf c).erase k ∧ (s.frontS d k).listOf d = k :: s.listOf d ∧ (s.frontS d k).heldL = s.heldL ∧ k ∈ s.listOf c := by
  have h2 : hasN s.n k = true := by unfold hasN; simp; omega
  have lc := lst_cases (s := s) (i := k) (by rw [hc]; omega)
  rcases hcd with ⟨rfl, rfl⟩ | ⟨rfl, rfl⟩
  · have h1 : hasL 1 = true := by decide
    have m : k ∈ s.l0 := by
      rcases lc with ⟨_, m⟩ | ⟨e, _⟩
      · exact m
      · rw [hc] at e; exact absurd e (by decide)
    have e : s.frontS 1 k = s.front 1 k := by
      unfold Sh.frontS
      rw [h1, h2]
      rfl
    have nm := f.apart k m
    refine ⟨by unfold Sh.frontC; rw [h1, h2]; rfl, by rw [e]; rfl, ?_, by rw [e]; rfl, m⟩
    rw [e]
    show k :: s.l1.erase k = k :: s.l1
    rw [erase_not nm]
  · have h1 : hasL 0 = true := by decide
    have m : k ∈ s.l1 := by
      rcases lc with ⟨e, _⟩ | ⟨_, m⟩
      · rw [hc] at e; exact absurd e (by decide)
      · exact m
    have e : s.frontS 0 k = s.front 0 k := by
      unfold Sh.frontS
      rw [h1, h2]
      rfl
    have nm : k ∉ s.l0 := fun q => f.apart k q m
    refine ⟨by unfold Sh.frontC; rw [h1, h2]; rfl, by rw [e]; rfl, ?_, by rw [e]; rfl, m⟩
    rw [e]
    show k :: s.l0.erase k = k :: s.l0
    rw [erase_not nm]
theorem held_len {s : Sh} (f : s.Fine) : s.heldL.length ≤ 64 := by
  have := f.n64
  unfold Sh.heldL
  exact Nat.le_trans (List.length_filter_le _ _) (by simp; omega)
end Go.Proofs.Ytgbccaplmafgkaa

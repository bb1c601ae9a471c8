/- Nodes put in front one behind the other, some of them held: plain. -/
import Derived.Test.YtgbccaplmafgkaaLaw6
namespace Go.Proofs.Ytgbccaplmafgkaa
open Go.RowKit
set_option linter.unusedVariables false

theorem find_congr {p q : Nat → Bool} : ∀ {l : List Nat}, (∀ x ∈ l, p x = q x) → l.find? p = l.find? q
  | [], _ => rfl
  | x :: l, h => by
    rw [List.find?_cons, List.find?_cons, h x (by simp), find_congr (fun y hy => h y (by simp [hy]))]
/-- i nodes are in front, with marks of those before m that have one -/
def gS (g : Nat → Bool) (N i m : Nat) : Sh := ⟨N, 1, (List.range i).reverse, [], (List.range N).map (fun j => decide (j < m) && g j)⟩
theorem gS_zero (g : Nat → Bool) (N : Nat) : gS g N 0 0 = newSh N 1 := by
  unfold gS newSh
  congr 1
  apply List.ext_getElem?
  intro j
  by_cases h : j < N <;> simp [h]
theorem gS_h (g : Nat → Bool) (N i m : Nat) {j : Nat} (h : j < N) : (gS g N i m).h j = (decide (j < m) && g j) := by
  unfold Sh.h gS
  simp [List.getD_eq_getElem?_getD, h]
theorem gS_front (g : Nat → Bool) {N i : Nat} (m : Nat) (h : i < N) : (gS g N i m).frontS 0 i = gS g N (i + 1) m := by
  have h1 : hasL 0 = true := by decide
  have h2 : hasN N i = true := by unfold hasN; simp; omega
  have h3 : (gS g N i m).n = N := rfl
  unfold Sh.frontS
  rw [h1, h3, h2]
  unfold Sh.front gS
  simp only [Bool.and_self, if_true, Int.toNat_natCast, Int.toNat_zero]
  rw [erase_not (by simp), List.range_succ, List.reverse_append]
  rfl
theorem gS_lies (g : Nat → Bool) {N i m j : Nat} (h : j < i) (hN : j < N) : (gS g N i m).lst j = 0 ∧ (gS g N i m).liesC j = 0 := by
  have e : (gS g N i m).lst j = 0 := by
    unfold Sh.lst gS
    rw [if_pos (by simp; exact h)]
  refine ⟨e, ?_⟩
  have h2 : hasN N j = true := by unfold hasN; simp; omega
  have h3 : (gS g N i m).n = N := rfl
  unfold Sh.liesC
  rw [h3, h2, if_pos rfl, Int.toNat_natCast, e]
  rfl
theorem gS_hold (g : Nat → Bool) {N i : Nat} (h : i < N) (hg : g i = true) : (gS g N (i + 1) i).holdS i true = gS g N (i + 1) (i + 1) := by
  unfold Sh.holdS
  rw [if_pos (gS_lies g (by omega) h).2, Int.toNat_natCast]
  unfold Sh.hold gS
  congr 1
  apply List.ext_getElem?
  intro j
  rw [List.getElem?_set]
  by_cases c : i = j
  · subst c
    simp [h, hg]
  · rw [if_neg c]
    by_cases d : j < N
    · have : decide (j < i) = decide (j < i + 1) := by
        by_cases e : j < i
        · have : j < i + 1 := by omega
          simp [e, this]
        · have : ¬ j < i + 1 := by omega
          simp [e, this]
      simp [d, this]
    · simp [d]
theorem gS_skip (g : Nat → Bool) {N i : Nat} (hg : g i = false) (k : Nat) : gS g N k i = gS g N k (i + 1) := by
  unfold gS
  congr 1
  apply List.map_congr_left
  intro j _
  by_cases c : j = i
  · subst c; simp [hg]
  · have : decide (j < i) = decide (j < i + 1) := by
      by_cases e : j < i
      · have : j < i + 1 := by omega
        simp [e, this]
      · have : ¬ j < i + 1 := by omega
        simp [e, this]
    rw [this]
/-- the first that has no mark; -1: there is none -/
def fI (g : Nat → Bool) (i : Nat) : Int := match (List.range i).find? (fun j => !g j) with | some j => j | none => -1
theorem fI_zero (g : Nat → Bool) : fI g 0 = -1 := rfl
theorem fI_held {g : Nat → Bool} {i : Nat} (h : g i = true) : fI g (i + 1) = fI g i := by
  unfold fI
  rw [List.range_succ, List.find?_append]
  cases (List.range i).find? (fun j => !g j) <;> simp [h]
theorem fI_free {g : Nat → Bool} {i : Nat} (h : g i = false) : fI g (i + 1) = if fI g i < 0 then (i : Int) else fI g i := by
  unfold fI
  rw [List.range_succ, List.find?_append]
  cases e : (List.range i).find? (fun j => !g j) with
  | none => simp [h]
  | some j => simp; intro k; omega
theorem fI_cases (g : Nat → Bool) (i : Nat) : (fI g i = -1 ∧ (List.range i).find? (fun j => !g j) = none) ∨ ∃ j : Nat, j < i ∧ g j = false ∧ fI g i = j ∧ (List.range i).find? (fun j => !g j) = some j := by
  unfold fI
  cases e : (List.range i).find? (fun j => !g j) with
  | none => exact .inl ⟨rfl, rfl⟩
  | some j =>
    have h1 := List.find?_some e
    have h2 := List.mem_of_find?_eq_some e
    exact .inr ⟨j, List.mem_range.1 h2, by simpa using h1, rfl, rfl⟩
theorem gS_last (g : Nat → Bool) (N : Nat) : (gS g N N N).lastOk 0 = (List.range N).find? (fun j => !g j) := by
  unfold Sh.lastOk
  rw [show (gS g N N N).revL 0 = List.range N from by
    show ((List.range N).reverse).reverse = _
    rw [List.reverse_reverse]]
  apply find_congr
  intro j hj
  rw [gS_h g N N N (List.mem_range.1 hj)]
  simp [List.mem_range.1 hj]
/-- those that have a mark -/
def gL (g : Nat → Bool) (i : Nat) : List Nat := (List.range i).filter g
theorem gL_more (g : Nat → Bool) (k : Nat) : gL g (k + 1) = if g k = true then gL g k ++ [k] else gL g k := by
  unfold gL
  rw [List.range_succ, List.filter_append]
  cases e : g k <;> simp [e]
theorem gL_le (g : Nat → Bool) (k : Nat) : (gL g k).length ≤ k := by
  unfold gL
  exact Nat.le_trans (List.length_filter_le _ _) (by simp)
theorem gS_held (g : Nat → Bool) (N : Nat) : (gS g N N N).heldL = gL g N := by
  unfold Sh.heldL gL
  apply List.filter_congr
  intro j hj
  have := List.mem_range.1 hj
  rw [gS_h g N N N this]
  have h2 : j < N := this
  simp [h2]
/-- one that has no mark goes -/
def gD (g : Nat → Bool) (N j : Nat) : Sh := (gS g N N N).dropS j
theorem gD_eq (g : Nat → Bool) {N j : Nat} (h : j < N) : gD g N j = (gS g N N N).drop j := by
  unfold gD Sh.dropS
  rw [if_pos (gS_lies g h h).2, Int.toNat_natCast]
theorem gD_held (g : Nat → Bool) {N j : Nat} (h : j < N) (hg : g j = false) : (gD g N j).heldL = gL g N := by
  rw [← gS_held, gD_eq g h]
  unfold Sh.heldL
  apply List.filter_congr
  intro i hi
  have hN : i < N := List.mem_range.1 hi
  show ((gS g N N N).hs.set j false).getD i false = _
  rw [set_h (by show j < ((List.range N).map _).length; simp; exact h)]
  by_cases c : i = j
  · subst c
    rw [if_pos rfl, gS_h g N N N hN]
    simp [hg]
  · rw [if_neg c]
    rfl
theorem gD_where (g : Nat → Bool) {N j : Nat} (h : j < N) : (gD g N j).whereV j = .tuple #[.int .i64 0, .bool false, .bool false] := by
  unfold Sh.whereV
  rw [if_neg]
  rw [gD_eq g h]
  unfold Sh.liesC
  have h2 : hasN N j = true := by unfold hasN; simp; omega
  rw [show ((gS g N N N).drop j).n = N from rfl, h2, if_pos rfl, Int.toNat_natCast]
  have e : ((gS g N N N).drop j).lst j = -1 := by
    unfold Sh.lst Sh.drop gS
    have n1 : ((List.range N).reverse).Nodup := by
      have := nodup_rev (e := N) (l := List.range N) (by rw [List.nodup_cons]; exact ⟨by simp, List.nodup_range⟩)
      exact (List.nodup_cons.1 this).2
    rw [if_neg (fun k => (n1.mem_erase_iff.1 k).1 rfl), if_neg (by simp)]
  rw [e, if_pos rfl]
  decide
theorem gD_len (g : Nat → Bool) {N j : Nat} (h : j < N) : ((gD g N j).revL 0).length = N - 1 := by
  rw [revL_listOf, gD_eq g h]
  show (((List.range N).reverse).erase j).length = _
  rw [List.length_erase_of_mem (by simp; exact h)]
  simp
end Go.Proofs.Ytgbccaplmafgkaa

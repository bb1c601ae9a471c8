/- A list's nodes, collected. -/
import Derived.Test.YtpmhpamajkhhiaaRingLen
import Derived.Test.YtpmhpamajkhhiaaInt
import Derived.RangeFuncBox
namespace Go.Proofs.Ytpmhpamajkhhiaa
open Go.RowKit Go.Shelf
set_option linter.unusedVariables false
attribute [local go_sem] Oper.semAt_some

theorem Owns.lower {α : Type} {w : World} {base base' : Nat} {e : TypeId} {k : Nat} {c : α → List Value} {v : Value} {xs : List α} (h : Owns w base e k c v xs) (hb : base' ≤ base) : Owns w base' e k c v xs := by
  refine ⟨h.1, ?_⟩
  rcases h.2 with h2 | ⟨g, cap, cur, hv, hg, r⟩
  · exact .inl h2
  · exact .inr ⟨g, cap, cur, hv, Nat.le_trans hb hg, r⟩
def ints (l : List Nat) : List Int := l.map (fun x : Nat => (x : Int))
theorem ints_len (l : List Nat) : (ints l).length = l.length := by simp [ints]

set_option maxRecDepth 100000 in
set_option maxHeartbeats 2000000 in
theorem appendSeq_in (p b : Nat) (s : Sh) (k : Int) (w : World) (Bs Bl : Nat) (h : Lies w p b s) (hs : Bs < w.heap.size) (hl : Bl < w.heap.size)
    (cs : w.cell? ⟨Bs, 0, none⟩ = some (.pointer (some ⟨p, 0, none⟩))) (cl : w.cell? ⟨Bl, 0, none⟩ = some (.int .i64 k)) :
    CallsIn Fence.wide 5 Try.prog 72 #[.slice none 0 0, .func (.func 73) #[] #[.pointer (some ⟨Bs, 0, none⟩), .pointer (some ⟨Bl, 0, none⟩)]] w fun e w' => ∃ v, e = .returned v ∧ OwnsInts w' w.heap.size v (ints (s.revL k)) ∧ (v = .slice none 0 0 ↔ s.revL k = []) ∧ Below w.heap.size w w' := by
  obtain ⟨i0, hi, hz0, hz1, hz2⟩ := info_parts info_int8
  have le64 := revL_len h.fine k
  refine callsIn_of_wp_marks Try.func72 rfl trivial ?_ rfl
  simp only [Try.ntmps72, List.size_toArray, List.length_cons, List.length_nil, Nat.reduceAdd, Nat.reduceSub, Array.replicate_succ, Array.replicate_zero, List.push_toArray, List.append_toArray, List.nil_append, List.cons_append]
  gi_wp2
  have lt := h.lt
  have bO := Boxed.new w 35 (.slice none 0 0)
  have hB0 : Below w.heap.size w (w.alloc (.cells #[.slice none 0 0] 35)) := (Below.refl _ w).alloc (Nat.le_refl _) _
  refine wpIn_rangeFunc_ownG rfl (by decide) (gf := 73) (lb := #[.pointer (some ⟨Bs, 0, none⟩), .pointer (some ⟨Bl, 0, none⟩)]) rfl trivial (enters_of Try.func73 (by kernel_rfl) rfl)
    (stops 4 (by decide) p b s k w _ w.heap.size Bs Bl h hB0 rfl (by simp; omega) (by simp; omega) (cell_alloc _ cs) (cell_alloc _ cl)) keepsB_t (keepsB_b (by simp) (by simp; omega)) (Below.refl _ _) (fun _ => rfl)
    (fun (pre : List (Fin s.n)) W => (∃ v, Boxed W w.heap.size 35 v ∧ W.ownsRow w.heap.size 3 1 v (vals pre).length ((ints (vals pre)).map (Value.int .i64)) ∧ (v = .slice none 0 0 ↔ vals pre = [])) ∧ Below w.heap.size w W)
    (fun _ _ _ => False)
    (OwnFrom.and (Own.from (holdsRow_own w.heap.size w.heap.size 35 3 1 (fun (pre : List (Fin s.n)) => (vals pre).length) (fun (pre : List (Fin s.n)) => (ints (vals pre)).map (Value.int .i64)) (fun (pre : List (Fin s.n)) v => v = .slice none 0 0 ↔ vals pre = [])) _) (ownFrom_below (Nat.le_refl _) (by simp)))
    (fun _ _ _ _ _ hs _ _ => hs)
    ⟨⟨_, bO, World.ownsRow_nil _ _ _ _, by simp [vals]⟩, hB0⟩
    (fun x : Fin s.n => { tmps := #[.slice none 0 0, .func (.func 73) #[] #[.pointer (some ⟨Bs, 0, none⟩), .pointer (some ⟨Bl, 0, none⟩)], .pointer (some ⟨w.heap.size, 0, none⟩), undef, .slice none 0 0, .int .i64 (x.val : Nat), .func (.func 73) #[] #[.pointer (some ⟨Bs, 0, none⟩), .pointer (some ⟨Bl, 0, none⟩)], .int .i64 (x.val : Nat), undef, undef, undef, undef, undef], defers := [] }) ?assign ?body ?done ?stop
  case assign =>
    intro l x W K hK
    simp only [encF]
    gi_wp2
    exact hK
  case body =>
    rintro l pre ⟨x, hx⟩ W ⟨⟨v, hv, hrow, hnil⟩, hB⟩ hlt
    have hc := hv.cell
    have hpl : (vals pre).length = pre.length := by simp [vals]
    have e1 : vals (pre ++ [⟨x, hx⟩]) = vals pre ++ [x] := by simp [vals]
    have e2 : (ints (vals pre ++ [x])).map (Value.int .i64) = (ints (vals pre)).map (Value.int .i64) ++ [.int .i64 (x : Int)] := by simp [ints]
    have hm1 : (vals pre).length + 1 ≤ maxLen := by unfold maxLen; omega
    have hm2 : ((vals pre).length + 1) * 8 ≤ 140737488355328 := by omega
    clear hpl
    simp only
    gi_wp2_with (gi_at_builtin; refine wpListIn_append_own _ rfl _ _ 35 rfl w.heap.size 3 i0 (.int .i64 0) 1 8 Try.underlying35 hi hz0 hz1 hz2 rfl (by decide) _ _ _ rfl (hrow.alloc _) ⟨W.heap.size, 0, none⟩ 1 1 [.int .i64 (x : Nat)] rfl rfl (cell_one_new _ _ _) (by simp [Value.oneCell']) hm1 hm2 (by have := hB.size; simp; omega) ?_; intro v' w1 hown' hgrow _; obtain ⟨g', cap', rfl⟩ := ownsRow_succ hown'; obtain ⟨hv1, hv2, hr2, hk2, hb2⟩ := hv.appended (by decide) hrow hB.size (Nat.le_refl _) hown' hgrow; have hc1 := hv1.cell; have hf1 := hv1.frozen)
    refine ⟨hk2.from _, ⟨hb2, hb2.block Bs hs⟩, ⟨_, hv2, by rw [e1, e2]; simpa using hr2, by rw [e1]; simp⟩, hB.trans hb2⟩
  case done =>
    rintro D ys W hD hys ⟨⟨v, hv, hrow, hnil⟩, hB⟩ hK
    have hc := hv.cell
    gi_wp2
    refine ⟨by simp, .inl ⟨_, _, rfl, run_takeDeferred hK, ?_⟩⟩
    refine ⟨_, results_tmp rfl _ _ _, v, rfl, ?_, by rw [← hys]; exact hnil, hB.trans (belowK_b (w := w) (Nat.le_refl _) W D _ _ (by simp at hD; omega) hK rfl rfl)⟩
    have := ownsRow_putObj hrow (.deferred none) hK rfl
    show World.ownsRow _ _ _ _ _ _ _
    rw [one_map, ints_len, ← hys]
    exact this
  case stop =>
    rintro D c pre W _ _ h _
    exact h.elim

set_option maxHeartbeats 1000000 in
theorem collect_any (p b : Nat) (s : Sh) (k : Int) (w : World) (Bs Bl : Nat) (h : Lies w p b s) (hs : Bs < w.heap.size) (hl : Bl < w.heap.size)
    (cs : w.cell? ⟨Bs, 0, none⟩ = some (.pointer (some ⟨p, 0, none⟩))) (cl : w.cell? ⟨Bl, 0, none⟩ = some (.int .i64 k)) :
    Calls Try.prog 58 #[.func (.func 73) #[] #[.pointer (some ⟨Bs, 0, none⟩), .pointer (some ⟨Bl, 0, none⟩)]] w fun e w' => ∃ v, e = .returned v ∧ OwnsInts w' w.heap.size v (ints (s.revL k)) ∧ (v = .slice none 0 0 ↔ s.revL k = []) ∧ Below w.heap.size w w' := by
  have A := Lib.hid ((callsIn_wide (n := 5)).1 (appendSeq_in p b s k w Bs Bl h hs hl cs cl))
  clear h cs cl
  go_enter Try.func58, Try.ntmps58
  go_wp2_with fail
  (with_reducible refine (A.out).mono ?_)
  rintro e w' ⟨v, rfl, h1, h2, h3⟩
  have H1 := Lib.hid h1
  have H2 := Lib.hid h2
  have H3 := Lib.hid h3
  clear h1 h2 h3
  go_wp2_with fail
  go_ret
  exact ⟨v, rfl, H1.out, H2.out, H3.out⟩

/-- the list from the first on -/
def Sh.listOf (s : Sh) (k : Int) : List Nat := if hasL k then s.li k.toNat else []
theorem rev_revL (s : Sh) (k : Int) : (s.revL k).reverse = s.listOf k := by
  unfold Sh.revL Sh.listOf
  split
  · rw [List.reverse_reverse]
  · rfl
theorem ints_rev (l : List Nat) : (ints l).reverse = ints l.reverse := by simp [ints]
theorem listOf_len {s : Sh} (f : s.Fine) (k : Int) : (s.listOf k).length ≤ 64 := by
  rw [← rev_revL, List.length_reverse]
  exact revL_len f k

set_option maxHeartbeats 1000000 in
theorem list_any (p b : Nat) (s : Sh) (k : Int) (w : World) (h : Lies w p b s) :
    Calls Try.prog 36 #[.pointer (some ⟨p, 0, none⟩), .int .i64 k] w fun e w' => ∃ v, e = .returned v ∧ OwnsInts w' w.heap.size v (ints (s.listOf k)) ∧ Below w.heap.size w w' := by
  have FL := Lib.hid (fromLast_any p k w)
  have lt := h.lt
  have c2 := cell_new w (.pointer (some ⟨p, 0, none⟩)) 58
  have c3 := cell_new (w.alloc (.cells #[.pointer (some ⟨p, 0, none⟩)] 58)) (.int .i64 k) 3
  simp only [World.size_alloc] at c3
  have b0 : Below w.heap.size w ((w.alloc (.cells #[.pointer (some ⟨p, 0, none⟩)] 58)).alloc (.cells #[.int .i64 k] 3)) := ((Below.refl _ w).alloc (Nat.le_refl _) _).alloc (by simp) _
  have C := Lib.hid (collect_any p b s k _ w.heap.size (w.heap.size + 1) (h.below b0 lt.1 lt.2) (by simp; omega) (by simp) (cell_alloc _ c2.1) c3.1)
  have le64 := revL_len h.fine k
  have B0 := Lib.hid b0
  have RR := Lib.hid (rev_revL s k)
  clear h c2 c3 b0
  go_enter Try.func36, Try.ntmps36
  go_wp2_with fail
  (with_reducible refine (FL.out).mono ?_)
  rintro e w' ⟨rfl, rfl⟩
  go_wp2_with fail
  (with_reducible refine (C.out).mono ?_)
  rintro e w' ⟨v, rfl, h1, h2, h3⟩
  have b3 := Lib.hid (B0.out.trans (h3.mono (by simp; omega)))
  clear h3 C FL
  by_cases e : s.revL k = []
  · have e2 := h2.2 e
    subst e2
    have R := Lib.hid (Try.slices_Reverse_int_empty none 0 w')
    have LE := RR.out
    rw [e] at LE
    have LE := Lib.hid LE.symm
    clear h1 h2 e
    go_wp2_with fail
    (with_reducible refine (R.out).mono ?_)
    rintro e w4 ⟨rfl, rfl⟩
    go_wp2_with fail
    go_ret
    exact ⟨_, rfl, by rw [LE.out]; exact Owns.start _ _ _ _ _, b3.out⟩
  · obtain ⟨g, cap, rfl, hg, hg2, _⟩ := h1.form (by intro q; apply e; have := congrArg List.length q; rw [ints_len] at this; exact List.eq_nil_of_length_eq_zero this)
    have R := Lib.hid (reverse_own w' _ g cap _ h1 (by rw [ints_len]; omega))
    have HG := Lib.hid hg
    have IR := Lib.hid (show (ints (s.revL k)).reverse = ints (s.listOf k) by rw [ints_rev, RR.out])
    clear h1 h2 e hg hg2
    generalize ints (s.revL k) = xs at *
    go_wp2_with fail
    (with_reducible refine (R.out).mono ?_)
    rintro e w4 ⟨rfl, h4, o4⟩
    have H4 := Lib.hid h4
    have B4 := Lib.hid (Only.below_to b3.out o4 (Nat.le_refl _) (fun i hi q => by have := HG.out; simp at this; omega))
    clear h4 o4
    go_wp2_with fail
    go_ret
    refine ⟨_, rfl, ?_, B4.out⟩
    rw [← IR.out]
    have := H4.out
    have l2 : xs.reverse.length = xs.length := List.length_reverse
    exact Owns.lower this (by simp; omega)
end Go.Proofs.Ytpmhpamajkhhiaa

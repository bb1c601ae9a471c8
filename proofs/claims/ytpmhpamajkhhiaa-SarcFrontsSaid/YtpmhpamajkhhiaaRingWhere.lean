/- How many nodes lie behind one; where a node lies. -/
import Derived.Test.YtpmhpamajkhhiaaRingLen
import Derived.StillTailTactics
import Derived.Deep.RegionHeld3
namespace Go.Proofs.Ytpmhpamajkhhiaa
open Go.RowKit Go.Shelf
set_option linter.unusedVariables false
attribute [local go_sem] Oper.semAt_some

theorem not_more {n : Nat} {pre : List (Fin n)} {i x : Nat} {hx : x < n} (h : i ∉ vals pre) (hne : ¬ x = i) : i ∉ vals (pre ++ [⟨x, hx⟩]) := by
  unfold vals at h ⊢
  rw [List.map_append, List.mem_append]
  rintro (k | k)
  · exact h k
  · simp at k
    exact hne k.symm

set_option maxRecDepth 100000 in
set_option maxHeartbeats 2000000 in
theorem behind_in (p b : Nat) (s : Sh) (i : Nat) (k : Int) (w : World) (h : Lies w p b s) (hi : i < s.n) (hk : s.lst i = k) (hin : i ∈ s.revL k) :
    CallsIn Fence.wide 5 Try.prog 65 #[.pointer (some ⟨p, 0, none⟩), .int .i64 i] w fun e w' => e = .returned (.int .i64 ((s.revL k).idxOf i : Nat)) ∧ Below w.heap.size w w' := by
  have FL := fun w1 => Lib.hid (fromLast_any p k w1)
  have le64 := revL_len h.fine k
  have n64 := h.fine.n64
  have lt := h.lt
  obtain ⟨A0, eA0⟩ : ∃ A, A = w.alloc (.cells #[.int .i64 i] 3) := ⟨_, rfl⟩
  have sA0 : A0.heap.size = w.heap.size + 1 := by rw [eA0]; simp
  obtain ⟨A1, eA1⟩ : ∃ A, A = A0.alloc (.cells #[.int .i64 0] 3) := ⟨_, rfl⟩
  have sA1 : A1.heap.size = w.heap.size + 1 + 1 := by rw [eA1]; simp [sA0]
  have c0 := cell_new w (.int .i64 i) 3
  have c1 := cell_new A0 (.int .i64 0) 3
  rw [← eA0] at c0
  rw [← eA1, sA0] at c1
  have b0 : Below w.heap.size w A0 := by rw [eA0]; exact (Below.refl _ w).alloc (Nat.le_refl _) _
  have b1 : Below w.heap.size w A1 := by rw [eA1]; exact b0.alloc (by omega) _
  have d0 : A1.cell? ⟨w.heap.size, 0, none⟩ = some (.int .i64 i) := by rw [eA1]; exact cell_alloc _ c0.1
  obtain ⟨g0, _, g1⟩ := lies_heldAt (h.below b1 lt.1 lt.2) hi
  rw [hk] at g1
  have bi : (i : Int) < (s.n : Int) + 2 := by omega
  refine callsIn_of_wp_marks Try.func65 rfl trivial ?_ rfl
  simp only [Try.ntmps65, List.size_toArray, List.length_cons, List.length_nil, Nat.reduceAdd, Nat.reduceSub, Array.replicate_succ, Array.replicate_zero, List.push_toArray, List.append_toArray, List.nil_append, List.cons_append]
  gi_wp2
  rw [← eA0, ← eA1]
  replace eA0 := Lib.hid eA0
  replace eA1 := Lib.hid eA1
  refine wpIn_wide.2 ?_
  have g0' : A1.drew.cell? ⟨p, 0, none⟩ = _ := g0
  have g1' : A1.drew.cell? ⟨b, i * 4, none⟩ = _ := g1
  have d0' : A1.drew.cell? ⟨w.heap.size, 0, none⟩ = _ := d0
  refine wp_region_still_tail 9 (by kernel_rfl) (by kernel_rfl) ?_
  change wpStill _ _ (World.drew A1) (fun a' => wpList _ _ _ _ a' (World.drew A1)) _ _
  simp only [List.take_succ_cons, List.take_zero, List.drop_succ_cons, List.drop_zero]
  obtain ⟨W2, eW2⟩ : ∃ W2, W2 = A1.drew := ⟨_, rfl⟩
  rw [← eW2] at g0' g1' d0' ⊢
  replace eW2 := Lib.hid eW2
  repeat still_step
  refine wpStill_nil ?_
  go_wp2_with fail
  (with_reducible refine ((FL _).out).mono ?_)
  rintro e w4 ⟨rfl, rfl⟩
  go_wp2_with fail
  gi_wp2
  have sW2 : W2.heap.size = w.heap.size + 1 + 1 := by rw [eW2.out]; exact sA1
  have bW2 : Below w.heap.size w W2 := by rw [eW2.out]; exact below_n b1 1
  have cW1 : W2.cell? ⟨w.heap.size + 1, 0, none⟩ = some (.int .i64 0) := by rw [eW2.out]; exact c1.1
  have fW1 : W2.frozen? ⟨w.heap.size + 1, 0, none⟩ = false := by rw [eW2.out]; exact c1.2
  obtain ⟨A2, eA2⟩ : ∃ A, A = W2.alloc (.cells #[.pointer (some ⟨p, 0, none⟩)] 58) := ⟨_, rfl⟩
  have sA2 : A2.heap.size = w.heap.size + 1 + 1 + 1 := by rw [eA2]; simp [sW2]
  obtain ⟨A3, eA3⟩ : ∃ A, A = A2.alloc (.cells #[.int .i64 k] 3) := ⟨_, rfl⟩
  have sA3 : A3.heap.size = w.heap.size + 1 + 1 + 1 + 1 := by rw [eA3]; simp [sA2]
  have c2 := cell_new W2 (.pointer (some ⟨p, 0, none⟩)) 58
  have c3 := cell_new A2 (.int .i64 k) 3
  rw [← eA2, sW2] at c2
  rw [← eA3, sA2] at c3
  have b2 : Below w.heap.size w A2 := by rw [eA2]; exact bW2.alloc (by omega) _
  have b3 : Below w.heap.size w A3 := by rw [eA3]; exact b2.alloc (by omega) _
  have d2 : A3.cell? ⟨w.heap.size + 1 + 1, 0, none⟩ = some (.pointer (some ⟨p, 0, none⟩)) := by rw [eA3]; exact cell_alloc _ c2.1
  have up : ∀ {a : Addr} {v : Value}, W2.cell? a = some v → A3.cell? a = some v := fun h => by rw [eA3, eA2]; exact cell_alloc _ (cell_alloc _ h)
  have uf : ∀ {a : Addr} {v : Value}, W2.cell? a = some v → W2.frozen? a = false → A3.frozen? a = false := fun h k => by rw [eA3, eA2]; exact frozen_alloc _ (cell_alloc _ h) (frozen_alloc _ h k)
  rw [sW2, ← eA2, ← eA3]
  clear eA2 eA3 eA0 eA1 eW2
  refine wpIn_rangeFunc_ownF rfl (by decide) (gf := 73) (lb := #[.pointer (some ⟨w.heap.size + 1 + 1, 0, none⟩), .pointer (some ⟨w.heap.size + 1 + 1 + 1, 0, none⟩)]) rfl trivial (enters_of Try.func73 (by kernel_rfl) rfl)
    (stops 4 (by decide) p b s k w _ w.heap.size (w.heap.size + 1 + 1) (w.heap.size + 1 + 1 + 1) h b3 rfl (by omega) (by omega) d2 c3.1) keepsB_t (keepsB_b (by omega) (by omega)) (Below.refl _ _) (fun _ => rfl)
    (fun (pre : List (Fin s.n)) W => (i ∉ vals pre ∧ W.cell? ⟨w.heap.size, 0, none⟩ = some (.int .i64 i) ∧ W.cell? ⟨w.heap.size + 1, 0, none⟩ = some (.int .i64 pre.length) ∧ W.frozen? ⟨w.heap.size + 1, 0, none⟩ = false) ∧ Below w.heap.size w W)
    (fun c pre W => (c = .exit 0 ∧ ∃ (pre' : List (Fin s.n)) (x : Fin s.n), pre = pre' ++ [x] ∧ i ∉ vals pre' ∧ x.val = i ∧ W.cell? ⟨w.heap.size + 1, 0, none⟩ = some (.int .i64 pre'.length)) ∧ Below w.heap.size w W)
    (OwnFrom.and (Own.from (fun s A B row hs hg hr => ⟨hs.1, cell_kept hs.2.1 hg hr, cell_kept hs.2.2.1 hg hr, (frozen_kept hs.2.2.1 hg hr).trans hs.2.2.2⟩) _) (ownFrom_below (Nat.le_refl _) (by omega)))
    (fun c => OwnFrom.and (Own.from (fun s A B row hs hg hr => by
      obtain ⟨e, pre', x, e2, h1, h2, h3⟩ := hs
      exact ⟨e, pre', x, e2, h1, h2, cell_kept h3 hg hr⟩) _) (ownFrom_below (Nat.le_refl _) (by omega)))
    ⟨⟨by simp [vals], up d0', up cW1, uf cW1 fW1⟩, b3⟩
    (fun x : Fin s.n => { tmps := #[.pointer (some ⟨p, 0, none⟩), .int .i64 i, undef, .pointer (some ⟨w.heap.size, 0, none⟩), .int .i64 0, .pointer (some ⟨w.heap.size + 1, 0, none⟩), .int .i64 (x.val : Nat), .pointer (some ⟨p, 0, none⟩), .pointer (some ⟨p, 0, none⟩), .pointer (some ⟨p, 0, none⟩), .pointer (some ⟨p, 0, none⟩), .slice (some ⟨b, 0, none⟩) (s.n + 2) (s.n + 2), .int .i64 i, .pointer (some ⟨b, i * 4, none⟩), .pointer (some ⟨b, i * 4, none⟩), .int .i64 k, .func (.func 73) #[] #[.pointer (some ⟨w.heap.size + 1 + 1, 0, none⟩), .pointer (some ⟨w.heap.size + 1 + 1 + 1, 0, none⟩)], .int .i64 (x.val : Nat), undef, undef, undef, undef, undef, undef], defers := [] }) ?assign ?body ?done ?stop
  case assign =>
    intro l x W K hK
    simp only [encF]
    gi_wp2
    exact hK
  case body =>
    rintro l pre ⟨x, hx⟩ W ⟨⟨hp, q0, q1, z1⟩, hB⟩ hlen
    by_cases e : x = i
    · subst e
      simp only
      gi_wp2
      exact ⟨KeepsOthers.refl _, ⟨rfl, pre, ⟨x, hx⟩, rfl, hp, rfl, q1⟩, hB⟩
    · have e1 : ((x : Int) == (i : Int)) = false := by simp; omega
      have e2 : (x == i) = false := by simp; omega
      have e3 : decide (x = i) = false := by simp; omega
      simp only
      gi_wp2
      exact ⟨KeepsOthers.setCell _ _ _, ⟨(Below.refl w.heap.size W).setCell (p := ⟨w.heap.size + 1, 0, none⟩) (by simp) _, Below.heap_setCell _ _ _ _ (by simp)⟩, ⟨not_more hp e, (World.cell?_of_block (Below.heap_setCell _ _ _ w.heap.size (by simp))).trans q0, by rw [List.length_append]; exact World.cell?_setCell_same' _ _ _ (by rw [q1]; rfl), by rw [World.frozen?_setCell]; exact z1⟩, hB.setCell (p := ⟨w.heap.size + 1, 0, none⟩) (by simp) _⟩
  case done =>
    rintro D ys W hD hys ⟨⟨hp, _, _, _⟩, hB⟩ hK
    exact absurd hin (by rw [← hys]; exact hp)
  case stop =>
    rintro D c pre W hD hpre ⟨⟨rfl, pre', x, rfl, hp, rfl, q1⟩, hB⟩ hK
    gi_wp2
    refine ⟨by simp, .inl ⟨_, _, rfl, run_takeDeferred hK, ?_⟩⟩
    refine ⟨_, results_tmp rfl _ _ _, ?_, hB.trans (belowK_b (w := w) (Nat.le_refl _) W D _ _ (by omega) hK rfl rfl)⟩
    obtain ⟨r, hr⟩ := hpre
    have : (s.revL k).idxOf x.val = pre'.length := by
      rw [← hr]
      simp only [vals, List.map_append, List.map_cons, List.map_nil, List.append_assoc, List.singleton_append]
      unfold vals at hp
      rw [List.idxOf_append, if_neg hp, List.idxOf_cons_self]
      simp
    rw [this]
    rfl

/-- what Where answers -/
def Sh.whereV (s : Sh) (i : Int) : Value :=
  if s.liesC i = 0 then .tuple #[.int .i64 (s.lst i.toNat), .bool (decide ((s.revL (s.lst i.toNat)).idxOf i.toNat < s.bot)), .bool true] else .tuple #[.int .i64 0, .bool false, .bool false]

theorem lst_cases {s : Sh} {i : Nat} (h : s.lst i ≠ -1) : (s.lst i = 0 ∧ i ∈ s.l0) ∨ (s.lst i = 1 ∧ i ∈ s.l1) := by
  unfold Sh.lst at h ⊢
  split
  · rename_i e; exact .inl ⟨rfl, e⟩
  · rename_i e
    rw [if_neg e] at h
    split
    · rename_i e2; exact .inr ⟨rfl, e2⟩
    · rename_i e2; rw [if_neg e2] at h; exact absurd rfl h
theorem revL_in {s : Sh} {i : Nat} (h : s.lst i ≠ -1) : i ∈ s.revL (s.lst i) := by
  rcases lst_cases h with ⟨e, k⟩ | ⟨e, k⟩ <;> rw [e]
  · exact List.mem_reverse.2 k
  · exact List.mem_reverse.2 k

set_option maxHeartbeats 2000000 in
theorem where_any (p b : Nat) (s : Sh) (i : Int) (w : World) (h : Lies w p b s) :
    Calls Try.prog 46 #[.pointer (some ⟨p, 0, none⟩), .int .i64 i] w fun e w' => e = .returned (s.whereV i) ∧ Below w.heap.size w w' := by
  have H := h
  obtain ⟨f, ns, r, q⟩ := h
  have LC := lies_any p b s.n s.bot ns i w r
  rw [rep_liesC q] at LC
  by_cases e : s.liesC i = 0
  · have e2 : s.whereV i = .tuple #[.int .i64 (s.lst i.toNat), .bool (decide ((s.revL (s.lst i.toNat)).idxOf i.toNat < s.bot)), .bool true] := by unfold Sh.whereV; rw [if_pos e]
    rw [e2]
    obtain ⟨j, rfl, hj, hl⟩ := liesC_nat e
    rw [e] at LC
    rw [Int.toNat_natCast]
    have LC := Lib.hid LC
    have CB := fun w1 (k : Below w.heap.size w w1) => Lib.hid ((callsIn_wide (n := 5)).1 (behind_in p b s j _ w1 (H.below k H.lt.1 H.lt.2) hj rfl (revL_in hl)))
    have n64 := f.n64
    have i64 : (s.revL (s.lst j)).idxOf j ≤ 64 := Nat.le_trans List.idxOf_le_length (revL_len f _)
    have b64 := f.botn
    obtain ⟨g0, _, g1⟩ := lies_heldAt H hj
    have g2 := r.bt
    have lt := H.lt
    have bj : (j : Int) < (s.n : Int) + 2 := by omega
    replace H := Lib.hid H
    have B0 := Lib.hid (Below.refl w.heap.size w)
    clear q r f e e2 hl
    generalize s.lst j = kk at *
    generalize hx : (s.revL kk).idxOf j = x at *
    go_enter Try.func46, Try.ntmps46
    go_wp2_with fail
    (with_reducible refine (LC.out).mono ?_)
    rintro e w' ⟨rfl, rfl⟩
    go_wp2_with fail
    have CB2 := Lib.hid ((CB w.drew (below_n (Below.refl _ w) 1)).out)
    have lp : p < w.drew.heap.size := lt.1
    have lb : b < w.drew.heap.size := lt.2
    have k0 : w.drew.cell? ⟨p, 0, none⟩ = _ := g0
    have k1 : w.drew.cell? ⟨b, j * 4, none⟩ = _ := g1
    have k2 : w.drew.cell? ⟨p, 1, none⟩ = _ := g2
    go_region_held3 (fun w' => w'.cell? ⟨p, 0, none⟩ = some (.slice (some ⟨b, 0, none⟩) (s.n + 2) (s.n + 2)) ∧ w'.cell? ⟨b, j * 4, none⟩ = some (.int .i64 kk) ∧ w'.cell? ⟨p, 1, none⟩ = some (.int .i64 s.bot))
        (first
          | (go_keep; done)
          | (exact ⟨(o3.cell (p := ⟨p, 0, none⟩) lp).trans k0, (o3.cell (p := ⟨b, j * 4, none⟩) lb).trans k1, (o3.cell (p := ⟨p, 1, none⟩) lp).trans k2⟩))
        (first
          | (go_at_call 65; refine CB2.out.mono ?_; rintro e w3 ⟨rfl, o3⟩))
    have O3 := Lib.hid ((below_n (Below.refl w.heap.size w) 1).trans o3)
    go_wp2
    go_ret3
    exact ⟨rfl, O3.out⟩
  · have e2 : s.whereV i = .tuple #[.int .i64 0, .bool false, .bool false] := by unfold Sh.whereV; rw [if_neg e]
    rw [e2]
    have e3 : s.liesC i = 1 ∨ s.liesC i = 3 := by
      unfold Sh.liesC at e ⊢
      split
      · split
        · exact .inr rfl
        · rename_i h1 h2; rw [if_pos h1, if_neg h2] at e; exact absurd rfl e
      · exact .inl rfl
    clear r q f e2 e H
    rcases e3 with e | e <;> rw [e] at LC <;> clear e
    · go_enter Try.func46, Try.ntmps46
      go_wp2_with fail
      (with_reducible refine (LC).mono ?_)
      rintro e w' ⟨rfl, rfl⟩
      go_wp2
      go_ret3
      exact ⟨rfl, Below.refl _ _⟩
    · go_enter Try.func46, Try.ntmps46
      go_wp2_with fail
      (with_reducible refine (LC).mono ?_)
      rintro e w' ⟨rfl, rfl⟩
      go_wp2
      go_ret3
      exact ⟨rfl, Below.refl _ _⟩
end Go.Proofs.Ytpmhpamajkhhiaa

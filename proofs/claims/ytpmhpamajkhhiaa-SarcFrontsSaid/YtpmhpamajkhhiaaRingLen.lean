/- How many nodes a list has, the last that isn't held, how many lie behind one. -/
import Derived.Test.YtpmhpamajkhhiaaRingSeq
namespace Go.Proofs.Ytpmhpamajkhhiaa
open Go.RowKit Go.Shelf
set_option linter.unusedVariables false
attribute [local go_sem] Oper.semAt_some

theorem cell_of_box {W : World} {B : Nat} {v : Value} {t : TypeId} (h : W.heap[B]? = some (.cells #[v] t (0, 0))) : W.cell? ⟨B, 0, none⟩ = some v ∧ W.frozen? ⟨B, 0, none⟩ = false := by
  constructor <;> simp [World.cell?, World.frozen?, h]
theorem cell_new (W : World) (v : Value) (t : TypeId) : (W.alloc (.cells #[v] t)).cell? ⟨W.heap.size, 0, none⟩ = some v ∧ (W.alloc (.cells #[v] t)).frozen? ⟨W.heap.size, 0, none⟩ = false :=
  cell_of_box (World.alloc_heap_new W _)
theorem cell_alloc {W : World} {a : Addr} {v : Value} (o : Obj) (h : W.cell? a = some v) : (W.alloc o).cell? a = some v := cell_kept h (World.grownBy_alloc W o none) (fun r e => by cases e)
theorem frozen_alloc {W : World} {a : Addr} {v : Value} (o : Obj) (h : W.cell? a = some v) (hf : W.frozen? a = false) : (W.alloc o).frozen? a = false := (frozen_kept h (World.grownBy_alloc W o none) (fun r e => by cases e)).trans hf

theorem nodup_len : ∀ (n : Nat) (l : List Nat), l.Nodup → (∀ x ∈ l, x < n) → l.length ≤ n := by
  intro n
  induction n with
  | zero =>
    intro l _ h
    cases l with
    | nil => exact Nat.le_refl _
    | cons x l => exact absurd (h x (by simp)) (by omega)
  | succ n ih =>
    intro l hn h
    by_cases c : n ∈ l
    · have h1 := ih (l.erase n) (hn.erase n) (fun x hx => by
        have := hn.mem_erase_iff.1 hx
        have := h x this.2
        omega)
      have := List.length_erase_of_mem c
      omega
    · have h1 := ih l hn (fun x hx => by
        have := h x hx
        have : x ≠ n := fun e => c (e ▸ hx)
        omega)
      omega
theorem revL_len {s : Sh} (f : s.Fine) (k : Int) : (s.revL k).length ≤ 64 := by
  have n64 := f.n64
  unfold Sh.revL
  split
  · rw [List.length_reverse]
    unfold Sh.li
    split
    · exact Nat.le_trans (nodup_len _ _ f.nd0 f.lt0) n64
    · exact Nat.le_trans (nodup_len _ _ f.nd1 f.lt1) n64
  · exact Nat.zero_le _

set_option maxRecDepth 100000 in
set_option maxHeartbeats 2000000 in
theorem len_in (p b : Nat) (s : Sh) (k : Int) (w : World) (h : Lies w p b s) :
    CallsIn Fence.wide 5 Try.prog 38 #[.pointer (some ⟨p, 0, none⟩), .int .i64 k] w fun e w' => e = .returned (.int .i64 (s.revL k).length) ∧ Below w.heap.size w w' := by
  have FL := fun w1 => Lib.hid ((callsIn_wide (n := 4)).2 (fromLast_any p k w1))
  have le64 := revL_len h.fine k
  refine callsIn_of_wp_marks Try.func38 rfl trivial ?_ rfl
  simp only [Try.ntmps38, List.size_toArray, List.length_cons, List.length_nil, Nat.reduceAdd, Nat.reduceSub, Array.replicate_succ, Array.replicate_zero, List.push_toArray, List.append_toArray, List.nil_append, List.cons_append]
  gi_wp2_with (refine ⟨trivial, ?_⟩; gi_at_call 59; refine ((FL _).out).mono ?_; rintro e w' ⟨rfl, rfl⟩)
  have lt := h.lt
  have c1 := cell_new w (.int .i64 0) 3
  have c2 := cell_new (w.alloc (.cells #[.int .i64 0] 3)) (.pointer (some ⟨p, 0, none⟩)) 58
  have c3 := cell_new ((w.alloc (.cells #[.int .i64 0] 3)).alloc (.cells #[.pointer (some ⟨p, 0, none⟩)] 58)) (.int .i64 k) 3
  simp only [World.size_alloc] at c2 c3
  have hB0 : Below w.heap.size w (((w.alloc (.cells #[.int .i64 0] 3)).alloc (.cells #[.pointer (some ⟨p, 0, none⟩)] 58)).alloc (.cells #[.int .i64 k] 3)) := (((Below.refl _ w).alloc (Nat.le_refl _) _).alloc (by simp) _).alloc (by simp; omega) _
  refine wpIn_rangeFunc_ownF rfl (by decide) (gf := 73) (lb := #[.pointer (some ⟨w.heap.size + 1, 0, none⟩), .pointer (some ⟨w.heap.size + 1 + 1, 0, none⟩)]) rfl trivial (enters_of Try.func73 (by kernel_rfl) rfl)
    (stops 4 (by decide) p b s k w _ w.heap.size (w.heap.size + 1) (w.heap.size + 1 + 1) h hB0 rfl (by simp) (by simp) (cell_alloc _ c2.1) c3.1) keepsB_t (keepsB_b (by simp; omega) (by simp)) (Below.refl _ _) (fun _ => rfl)
    (fun pre W => (W.cell? ⟨w.heap.size, 0, none⟩ = some (.int .i64 pre.length) ∧ W.frozen? ⟨w.heap.size, 0, none⟩ = false) ∧ Below w.heap.size w W)
    (fun _ _ _ => False)
    (OwnFrom.and (Own.from (fun s A B row hs hg hr => ⟨cell_kept hs.1 hg hr, (frozen_kept hs.1 hg hr).trans hs.2⟩) _) (ownFrom_below (Nat.le_refl _) (by simp; omega)))
    (fun _ _ _ _ _ hs _ _ => hs)
    ⟨⟨cell_alloc _ (cell_alloc _ c1.1), frozen_alloc _ (cell_alloc _ c1.1) (frozen_alloc _ c1.1 c1.2)⟩, hB0⟩
    (fun x : Fin s.n => { tmps := #[.pointer (some ⟨p, 0, none⟩), .int .i64 k, undef, undef, .int .i64 0, .pointer (some ⟨w.heap.size, 0, none⟩), .pointer (some ⟨p, 0, none⟩), .int .i64 k, .func (.func 73) #[] #[.pointer (some ⟨w.heap.size + 1, 0, none⟩), .pointer (some ⟨w.heap.size + 1 + 1, 0, none⟩)], .int .i64 (x.val : Nat), undef, undef, undef], defers := [] }) ?assign ?body ?done ?stop
  case assign =>
    intro l x W K hK
    simp only [encF]
    gi_wp2
    simpa using hK
  case body =>
    rintro l pre x W ⟨⟨hc, hf⟩, hB⟩ hlen
    gi_wp2
    exact ⟨KeepsOthers.setCell _ _ _, ⟨(Below.refl w.heap.size W).setCell (p := ⟨w.heap.size, 0, none⟩) (Nat.le_refl _) _, Below.heap_setCell _ _ _ _ (by simp)⟩, ⟨by rw [List.length_append]; exact World.cell?_setCell_same' _ _ _ (by rw [hc]; rfl), by rw [World.frozen?_setCell]; exact hf⟩, hB.setCell (p := ⟨w.heap.size, 0, none⟩) (Nat.le_refl _) _⟩
  case done =>
    rintro D ys W hD hys ⟨⟨hc, _⟩, hB⟩ hK
    gi_wp2
    refine ⟨by simp, .inl ⟨_, _, rfl, run_takeDeferred hK, ?_⟩⟩
    exact ⟨_, results_tmp rfl _ _ _, by rw [← hys]; simp [vals], hB.trans (belowK_b (w := w) (Nat.le_refl _) W D _ _ (by simp at hD; omega) hK rfl rfl)⟩
  case stop =>
    rintro D c pre W _ _ h _
    exact h.elim

/-- the last node that isn't held -/
def Sh.lastOk (s : Sh) (k : Int) : Option Nat := (s.revL k).find? (fun i => !s.h i)
def lastV (o : Option Nat) : Value := .tuple #[.int .i64 (o.getD 0 : Nat), .bool o.isSome]

theorem lies_heldAt {w : World} {p b : Nat} {s : Sh} (h : Lies w p b s) {i : Nat} (hi : i < s.n) :
    w.cell? ⟨p, 0, none⟩ = some (.slice (some ⟨b, 0, none⟩) (s.n + 2) (s.n + 2)) ∧ w.cell? ⟨b, i * 4 + 1, none⟩ = some (.bool (s.h i)) ∧ w.cell? ⟨b, i * 4, none⟩ = some (.int .i64 (s.lst i)) := by
  obtain ⟨f, ns, r, q⟩ := h
  obtain ⟨c0, c1, _, _⟩ := r.at_ (i := i) (by rw [r.len]; omega)
  rw [q.held i hi] at c1
  rw [q.lst i hi] at c0
  exact ⟨r.hd, c1, c0⟩
theorem Lies.below {w w' : World} {p b : Nat} {s : Sh} (h : Lies w p b s) {n0 : Nat} (k : Below n0 w w') (hp : p < n0) (hb : b < n0) : Lies w' p b s := by
  obtain ⟨f, ns, r, q⟩ := h
  exact ⟨f, ns, r.below k hp hb, q⟩
theorem revL_lt {s : Sh} (f : s.Fine) {k : Int} {x : Nat} (h : x ∈ s.revL k) : x < s.n := by
  unfold Sh.revL at h
  split at h
  · rw [List.mem_reverse] at h
    unfold Sh.li at h
    split at h
    · exact f.lt0 x h
    · exact f.lt1 x h
  · cases h

theorem two_cells {W : World} {A B : Nat} {a b x y : Value} (h1 : W.cell? ⟨A, 0, none⟩ = some a) (h2 : W.cell? ⟨B, 0, none⟩ = some b) (hne : A ≠ B) :
    ((W.setCell ⟨A, 0, none⟩ x).setCell ⟨B, 0, none⟩ y).cell? ⟨A, 0, none⟩ = some x ∧ ((W.setCell ⟨A, 0, none⟩ x).setCell ⟨B, 0, none⟩ y).cell? ⟨B, 0, none⟩ = some y := by
  have k : (W.setCell ⟨A, 0, none⟩ x).cell? ⟨A, 0, none⟩ = some x := World.cell?_setCell_same' _ _ _ (by rw [h1]; rfl)
  constructor
  · exact (World.cell?_of_block (Below.heap_setCell _ _ _ A hne)).trans k
  · exact World.cell?_setCell_same' _ _ _ (by rw [World.cell?_of_block (Below.heap_setCell _ _ _ B (Ne.symm hne)), h2]; rfl)

set_option maxRecDepth 100000 in
set_option maxHeartbeats 2000000 in
theorem last_in (p b : Nat) (s : Sh) (k : Int) (w : World) (h : Lies w p b s) :
    CallsIn Fence.wide 5 Try.prog 40 #[.pointer (some ⟨p, 0, none⟩), .int .i64 k] w fun e w' => e = .returned (lastV (s.lastOk k)) ∧ Below w.heap.size w w' := by
  have FL := fun w1 => Lib.hid ((callsIn_wide (n := 4)).2 (fromLast_any p k w1))
  have le64 := revL_len h.fine k
  refine callsIn_of_wp_marks Try.func40 rfl trivial ?_ rfl
  simp only [Try.ntmps40, List.size_toArray, List.length_cons, List.length_nil, Nat.reduceAdd, Nat.reduceSub, Array.replicate_succ, Array.replicate_zero, List.push_toArray, List.append_toArray, List.nil_append, List.cons_append]
  gi_wp2_with (refine ⟨trivial, ?_⟩; gi_at_call 59; refine ((FL _).out).mono ?_; rintro e w' ⟨rfl, rfl⟩)
  have lt := h.lt
  obtain ⟨A0, eA0⟩ : ∃ A, A = w.alloc (.cells #[.pointer (some ⟨p, 0, none⟩)] 58) := ⟨_, rfl⟩
  have sA0 : A0.heap.size = w.heap.size + 1 := by rw [eA0]; simp
  obtain ⟨A1, eA1⟩ : ∃ A, A = A0.alloc (.cells #[.int .i64 0] 3) := ⟨_, rfl⟩
  have sA1 : A1.heap.size = w.heap.size + 1 + 1 := by rw [eA1]; simp [sA0]
  obtain ⟨A2, eA2⟩ : ∃ A, A = A1.alloc (.cells #[.bool false] 4) := ⟨_, rfl⟩
  have sA2 : A2.heap.size = w.heap.size + 1 + 1 + 1 := by rw [eA2]; simp [sA1]
  obtain ⟨A3, eA3⟩ : ∃ A, A = A2.alloc (.cells #[.pointer (some ⟨p, 0, none⟩)] 58) := ⟨_, rfl⟩
  have sA3 : A3.heap.size = w.heap.size + 1 + 1 + 1 + 1 := by rw [eA3]; simp [sA2]
  obtain ⟨A4, eA4⟩ : ∃ A, A = A3.alloc (.cells #[.int .i64 k] 3) := ⟨_, rfl⟩
  have sA4 : A4.heap.size = w.heap.size + 1 + 1 + 1 + 1 + 1 := by rw [eA4]; simp [sA3]
  have c0 := cell_new w (.pointer (some ⟨p, 0, none⟩)) 58
  have c1 := cell_new A0 (.int .i64 0) 3
  have c2 := cell_new A1 (.bool false) 4
  have c3 := cell_new A2 (.pointer (some ⟨p, 0, none⟩)) 58
  have c4 := cell_new A3 (.int .i64 k) 3
  rw [← eA0] at c0
  rw [← eA1, sA0] at c1
  rw [← eA2, sA1] at c2
  rw [← eA3, sA2] at c3
  rw [← eA4, sA3] at c4
  have b0 : Below w.heap.size w A0 := by rw [eA0]; exact (Below.refl _ w).alloc (Nat.le_refl _) _
  have b1 : Below w.heap.size w A1 := by rw [eA1]; exact b0.alloc (by omega) _
  have b2 : Below w.heap.size w A2 := by rw [eA2]; exact b1.alloc (by omega) _
  have b3 : Below w.heap.size w A3 := by rw [eA3]; exact b2.alloc (by omega) _
  have b4 : Below w.heap.size w A4 := by rw [eA4]; exact b3.alloc (by omega) _
  have up : ∀ {a : Addr} {v : Value}, A2.cell? a = some v → A4.cell? a = some v := fun h => by rw [eA4, eA3]; exact cell_alloc _ (cell_alloc _ h)
  have uf : ∀ {a : Addr} {v : Value}, A2.cell? a = some v → A2.frozen? a = false → A4.frozen? a = false := fun h k => by rw [eA4, eA3]; exact frozen_alloc _ (cell_alloc _ h) (frozen_alloc _ h k)
  have d0 : A2.cell? ⟨w.heap.size, 0, none⟩ = some (.pointer (some ⟨p, 0, none⟩)) := by rw [eA2, eA1]; exact cell_alloc _ (cell_alloc _ c0.1)
  have d1 : A2.cell? ⟨w.heap.size + 1, 0, none⟩ = some (.int .i64 0) := by rw [eA2]; exact cell_alloc _ c1.1
  have f1 : A2.frozen? ⟨w.heap.size + 1, 0, none⟩ = false := by rw [eA2]; exact frozen_alloc _ c1.1 c1.2
  rw [← eA0, ← eA1, ← eA2, ← eA3, ← eA4]
  have d3 : A4.cell? ⟨w.heap.size + 1 + 1 + 1, 0, none⟩ = some (.pointer (some ⟨p, 0, none⟩)) := by rw [eA4]; exact cell_alloc _ c3.1
  clear eA0 eA1 eA2 eA3 eA4
  refine wpIn_rangeFunc_ownF rfl (by decide) (gf := 73) (lb := #[.pointer (some ⟨w.heap.size + 1 + 1 + 1, 0, none⟩), .pointer (some ⟨w.heap.size + 1 + 1 + 1 + 1, 0, none⟩)]) rfl trivial (enters_of Try.func73 (by kernel_rfl) rfl)
    (stops 4 (by decide) p b s k w _ w.heap.size (w.heap.size + 1 + 1 + 1) (w.heap.size + 1 + 1 + 1 + 1) h b4 rfl (by omega) (by omega) d3 c4.1) keepsB_t (keepsB_b (by omega) (by omega)) (Below.refl _ _) (fun _ => rfl)
    (fun (pre : List (Fin s.n)) W => ((∀ y ∈ pre, s.h y = true) ∧ W.cell? ⟨w.heap.size, 0, none⟩ = some (.pointer (some ⟨p, 0, none⟩)) ∧ (W.cell? ⟨w.heap.size + 1, 0, none⟩ = some (.int .i64 0) ∧ W.frozen? ⟨w.heap.size + 1, 0, none⟩ = false) ∧ W.cell? ⟨w.heap.size + 1 + 1, 0, none⟩ = some (.bool false) ∧ W.frozen? ⟨w.heap.size + 1 + 1, 0, none⟩ = false) ∧ Below w.heap.size w W)
    (fun c pre W => (c = .ret ∧ ∃ (pre' : List (Fin s.n)) (x : Fin s.n), pre = pre' ++ [x] ∧ (∀ y ∈ pre', s.h y = true) ∧ s.h x = false ∧ W.cell? ⟨w.heap.size + 1, 0, none⟩ = some (.int .i64 (x.val : Nat)) ∧ W.cell? ⟨w.heap.size + 1 + 1, 0, none⟩ = some (.bool true)) ∧ Below w.heap.size w W)
    (OwnFrom.and (Own.from (fun s A B row hs hg hr => ⟨hs.1, cell_kept hs.2.1 hg hr, ⟨cell_kept hs.2.2.1.1 hg hr, (frozen_kept hs.2.2.1.1 hg hr).trans hs.2.2.1.2⟩, cell_kept hs.2.2.2.1 hg hr, (frozen_kept hs.2.2.2.1 hg hr).trans hs.2.2.2.2⟩) _) (ownFrom_below (Nat.le_refl _) (by omega)))
    (fun c => OwnFrom.and (Own.from (fun s A B row hs hg hr => by
      obtain ⟨e, pre', x, e2, h1, h2, h3, h4⟩ := hs
      exact ⟨e, pre', x, e2, h1, h2, cell_kept h3 hg hr, cell_kept h4 hg hr⟩) _) (ownFrom_below (Nat.le_refl _) (by omega)))
    ⟨⟨by simp, up d0, ⟨up d1, uf d1 f1⟩, up c2.1, uf c2.1 c2.2⟩, b4⟩
    (fun x : Fin s.n => { tmps := #[.pointer (some ⟨p, 0, none⟩), .int .i64 k, .pointer (some ⟨w.heap.size, 0, none⟩), undef, .pointer (some ⟨w.heap.size + 1, 0, none⟩), .pointer (some ⟨w.heap.size + 1 + 1, 0, none⟩), .int .i64 (x.val : Nat), .pointer (some ⟨p, 0, none⟩), .int .i64 k, .func (.func 73) #[] #[.pointer (some ⟨w.heap.size + 1 + 1 + 1, 0, none⟩), .pointer (some ⟨w.heap.size + 1 + 1 + 1 + 1, 0, none⟩)], .int .i64 (x.val : Nat), undef, undef, undef, undef, undef, undef, undef, undef, undef, undef], defers := [] }) ?assign ?body ?done ?stop
  case assign =>
    intro l x W K hK
    simp only [encF]
    gi_wp2
    exact hK
  case body =>
    rintro l pre ⟨x, hx⟩ W ⟨⟨hp, q0, ⟨q1, z1⟩, q2, z2⟩, hB⟩ hlen
    obtain ⟨g0, g1, _⟩ := lies_heldAt (h.below hB lt.1 lt.2) hx
    have n64 := h.fine.n64
    have bx : (x : Int) < (s.n : Int) + 2 := by omega
    have hB1 : ∀ v, Below w.heap.size W (W.setCell ⟨w.heap.size + 1, 0, none⟩ v) := fun v => (Below.refl w.heap.size W).setCell (p := ⟨w.heap.size + 1, 0, none⟩) (by simp) v
    cases e : s.h x with
    | true =>
      rw [e] at g1
      simp only
      gi_wp2
      exact ⟨KeepsOthers.refl _, ⟨Below.refl _ _, rfl⟩, ⟨fun y hy => by
        rcases List.mem_append.1 hy with hy | hy
        · exact hp y hy
        · rw [List.mem_singleton.1 hy]; exact e, q0, ⟨q1, z1⟩, q2, z2⟩, hB⟩
    | false =>
      rw [e] at g1
      simp only
      gi_wp2
      refine ⟨(KeepsOthers.setCell _ _ _).trans (KeepsOthers.setCell _ _ _), ⟨rfl, pre, ⟨x, hx⟩, rfl, hp, e, ?_, ?_⟩, (hB.setCell (p := ⟨w.heap.size + 1, 0, none⟩) (by simp) _).setCell (p := ⟨w.heap.size + 1 + 1, 0, none⟩) (by simp; omega) _⟩
      · exact (two_cells (x := .int .i64 (x : Nat)) (y := .bool true) q1 q2 (by simp)).1
      · exact (two_cells (x := .int .i64 (x : Nat)) (y := .bool true) q1 q2 (by simp)).2
  case done =>
    rintro D ys W hD hys ⟨⟨hp, q0, ⟨q1, z1⟩, q2, z2⟩, hB⟩ hK
    gi_wp2
    have hK' := ((KeepsOthers.setCell W ⟨w.heap.size + 1, 0, none⟩ (.int .i64 0)).trans (KeepsOthers.setCell _ ⟨w.heap.size + 1 + 1, 0, none⟩ (.bool false))).same D _ hK rfl
    refine ⟨by simp, .inl ⟨_, _, rfl, run_takeDeferred hK', ?_⟩⟩
    obtain ⟨q1', q2'⟩ := two_cells (x := .int .i64 0) (y := .bool false) q1 q2 (by simp)
    have q1'' := cell_kept q1' (grownBy_putObj' _ D (.deferred none)) (fun r e => by cases e; exact ⟨_, hK', rfl⟩)
    have q2'' := cell_kept q2' (grownBy_putObj' _ D (.deferred none)) (fun r e => by cases e; exact ⟨_, hK', rfl⟩)
    refine ⟨.tuple #[.int .i64 0, .bool false], ?_, ?_, ((hB.setCell (p := ⟨w.heap.size + 1, 0, none⟩) (by simp) _).setCell (p := ⟨w.heap.size + 1 + 1, 0, none⟩) (by simp; omega) _).trans (belowK_b (w := w) (Nat.le_refl _) _ D _ _ (by omega) hK' rfl rfl)⟩
    · simp [results, Try.f40, go_sem, q1'', q2'']
    · have : s.lastOk k = none := by
        unfold Sh.lastOk
        rw [← hys, List.find?_eq_none]
        intro y hy
        obtain ⟨z, hz, rfl⟩ := List.mem_map.1 hy
        simp [hp z hz]
      rw [this]
      rfl
  case stop =>
    rintro D c pre W hD hpre ⟨⟨rfl, pre', x, rfl, hp, hx, q1, q2⟩, hB⟩ hK
    gi_wp2
    refine ⟨by simp, .inl ⟨_, _, rfl, run_takeDeferred hK, ?_⟩⟩
    have q1' := cell_kept q1 (grownBy_putObj' _ D (.deferred none)) (fun r e => by cases e; exact ⟨_, hK, rfl⟩)
    have q2' := cell_kept q2 (grownBy_putObj' _ D (.deferred none)) (fun r e => by cases e; exact ⟨_, hK, rfl⟩)
    refine ⟨.tuple #[.int .i64 (x.val : Nat), .bool true], ?_, ?_, hB.trans (belowK_b (w := w) (Nat.le_refl _) W D _ _ (by omega) hK rfl rfl)⟩
    · simp [results, Try.f40, go_sem, q1', q2']
    · have : s.lastOk k = some x.val := by
        unfold Sh.lastOk
        obtain ⟨r, hr⟩ := hpre
        rw [← hr]
        simp only [vals, List.map_append, List.map_cons, List.map_nil, List.append_assoc, List.singleton_append]
        rw [List.find?_append]
        have : List.find? (fun i => !s.h i) (pre'.map (fun x => x.val)) = none := by
          rw [List.find?_eq_none]
          intro y hy
          obtain ⟨z, hz, rfl⟩ := List.mem_map.1 hy
          simp [hp z hz]
        rw [this]
        simp [hx]
      rw [this]
      rfl
end Go.Proofs.Ytpmhpamajkhhiaa

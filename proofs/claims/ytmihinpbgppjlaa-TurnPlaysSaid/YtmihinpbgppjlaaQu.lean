/- A heap of places in memory: what its methods do. -/
import Derived.Test.YtmihinpbgppjlaaPl12
import Derived.Test.YtmihinpbgppjlaaOwn
import Derived.Test.YtmihinpbgppjlaaChecked
import Derived.BigRegion
import Derived.RegionTactic
import Derived.Deep.RegionLaw
import Derived.Maps.AppendAt
namespace Go.Proofs.Ytmihinpbgppjlaa
open Go.RowKit
set_option linter.unusedVariables false

abbrev OwnsPl (w : World) (base : Nat) (v : Value) (d : List Pl) : Prop := Owns w base 59 4 Pl.cells v d
theorem OwnsPl.len {w : World} {base : Nat} {v : Value} {d : List Pl} (h : OwnsPl w base v d) : ∃ a cap, v = .slice a d.length cap := by
  rcases h.2 with ⟨h0, h2⟩ | ⟨g, cap, cur, hv, _⟩
  · exact ⟨none, 0, by rw [h0, h2]⟩
  · exact ⟨_, _, hv⟩
theorem OwnsPl.four {w : World} {base g cap : Nat} {d : List Pl} (h : OwnsPl w base (.slice (some ⟨g, 0, none⟩) d.length cap) d) {i : Nat} {p : Pl} (hi : d[i]? = some p) :
    w.cell? ⟨g, i * 4, none⟩ = some (.int .i64 p.k) ∧ w.cell? ⟨g, i * 4 + 1, none⟩ = some (.bool p.a) ∧ w.cell? ⟨g, i * 4 + 2, none⟩ = some (.int .i64 p.n) ∧ w.cell? ⟨g, i * 4 + 3, none⟩ = some (.bool p.s) :=
  ⟨Owns.cell h pl4 hi (j := 0) (by decide), Owns.cell h pl4 hi (j := 1) (by decide), Owns.cell h pl4 hi (j := 2) (by decide), Owns.cell h pl4 hi (j := 3) (by decide)⟩
theorem Owns.put1 {α : Type} {w : World} {base g n cap : Nat} {e : TypeId} {k : Nat} {c : α → List Value} {xs : List α} (h : Owns w base e k c (.slice (some ⟨g, 0, none⟩) n cap) xs) (hk : ∀ a, (c a).length = k) {i : Nat} {a a' : α} (hi : xs[i]? = some a) {j : Nat} (hj : j < k) {v : Value} (hv : c a' = (c a).set j v) :
    Owns (w.setCell ⟨g, i * k + j, none⟩ v) base e k c (.slice (some ⟨g, 0, none⟩) n cap) (xs.set i a') := by
  have e1 := flat_set hk xs i a a' j v hi hj hv
  obtain ⟨h1, h2⟩ := h
  refine ⟨?_, ?_⟩
  · rw [← e1, List.length_set, List.length_set]
    exact h1
  · rcases h2 with ⟨q, _⟩ | ⟨g', cap', cur, q, hg, hb, h3, h4, h5, h6⟩
    · cases q
    · simp only [Value.slice.injEq, Option.some.injEq, Addr.mk.injEq, and_true] at q
      obtain ⟨rfl, q2, rfl⟩ := q
      refine .inr ⟨g, cap, cur.setIfInBounds (i * k + j) v, by rw [List.length_set, ← q2], hg, ?_, by rw [List.length_set]; exact h3, h4, by rw [Array.size_setIfInBounds]; exact h5, ?_⟩
      · have r : Row w g e cur := hb
        exact r.put _ _
      · rw [List.length_set, ← e1, ← h6, Array.toList_setIfInBounds, List.take_set]
theorem Owns.init {α : Type} {w : World} {base g m cap : Nat} {e : TypeId} {k : Nat} {c : α → List Value} (hk : ∀ a, (c a).length = k) {xs : List α} {y : α} (h : Owns w base e k c (.slice (some ⟨g, 0, none⟩) m cap) (xs ++ [y])) :
    Owns w base e k c (.slice (some ⟨g, 0, none⟩) xs.length cap) xs := by
  obtain ⟨h1, h2⟩ := h
  have hx : (xs.flatMap c).length = xs.length * k := by
    have := flat_size hk xs
    unfold flat at this
    simpa using this
  refine ⟨hx, ?_⟩
  rcases h2 with ⟨q, _⟩ | ⟨g', cap', cur, q, hg, hb, h3, h4, h5, h6⟩
  · cases q
  · simp only [Value.slice.injEq, Option.some.injEq, Addr.mk.injEq, and_true] at q
    obtain ⟨rfl, rfl, rfl⟩ := q
    refine .inr ⟨g, cap, cur, rfl, hg, hb, by rw [List.length_append] at h3; omega, h4, h5, ?_⟩
    have e1 : xs.length * k ≤ (xs ++ [y]).length * k := Nat.mul_le_mul_right _ (by simp)
    have := congrArg (List.take (xs.length * k)) h6
    rw [List.take_take, Nat.min_eq_left e1, List.flatMap_append, List.take_append_of_le_length (by omega), List.take_of_length_le (l := xs.flatMap c) (by omega)] at this
    exact this
theorem OwnsPl.put {w : World} {base g n cap : Nat} {d : List Pl} (h : OwnsPl w base (.slice (some ⟨g, 0, none⟩) n cap) d) {i : Nat} {p : Pl} (hi : d[i]? = some p) (q : Pl) :
    OwnsPl ((((w.setCell ⟨g, i * 4, none⟩ (.int .i64 q.k)).setCell ⟨g, i * 4 + 1, none⟩ (.bool q.a)).setCell ⟨g, i * 4 + 2, none⟩ (.int .i64 q.n)).setCell ⟨g, i * 4 + 3, none⟩ (.bool q.s)) base (.slice (some ⟨g, 0, none⟩) n cap) (d.set i q) := by
  have h1 := Owns.put1 h pl4 hi (a' := ⟨q.k, p.a, p.n, p.s⟩) (j := 0) (by decide) (v := .int .i64 q.k) rfl
  have h2 := Owns.put1 h1 pl4 (get_set hi) (a' := ⟨q.k, q.a, p.n, p.s⟩) (j := 1) (by decide) (v := .bool q.a) rfl
  have h3 := Owns.put1 h2 pl4 (get_set (get_set hi)) (a' := ⟨q.k, q.a, q.n, p.s⟩) (j := 2) (by decide) (v := .int .i64 q.n) rfl
  have h4 := Owns.put1 h3 pl4 (get_set (get_set (get_set hi))) (a' := q) (j := 3) (by decide) (v := .bool q.s) rfl
  rw [List.set_set, List.set_set, List.set_set] at h4
  exact h4
theorem qlen_any {w : World} {base : Nat} {v : Value} {d : List Pl} (h : OwnsPl w base v d) : Calls Try.prog 33 #[v] w fun e w' => e = .returned (.int .i64 d.length) ∧ w = w' := by
  obtain ⟨a, cap, rfl⟩ := h.len
  clear h
  go_enter Try.func33, Try.ntmps33
  go_wp2
  go_ret
  exact ⟨rfl, rfl⟩
theorem qless_any {w : World} {base : Nat} {v : Value} {d : List Pl} (h : OwnsPl w base v d) {i j : Nat} {p q : Pl} (hi : d[i]? = some p) (hj : d[j]? = some q) (hl : d.length ≤ 1000) :
    Calls Try.prog 64 #[v, .int .i64 i, .int .i64 j] w fun e w' => e = .returned (.bool (ltP p q)) ∧ Only none_ w w' := by
  have li := lt_of_get hi
  have lj := lt_of_get hj
  obtain ⟨g, cap, rfl, _⟩ := h.form (by rintro rfl; simp at hi)
  obtain ⟨_, c1, c2, _⟩ := h.four hi
  obtain ⟨_, d1, d2, _⟩ := h.four hj
  obtain ⟨n, hn⟩ : ∃ n, d.length = n := ⟨_, rfl⟩
  rw [hn] at li lj hl ⊢
  clear h hi hj hn
  by_cases ha : p.a = q.a
  · have e1 : (p.a == q.a) = true := by simp [ha]
    have E := Lib.hid (show ltP p q = decide (p.n < q.n) from by unfold ltP bne; rw [e1]; rfl)
    clear ha
    go_enter Try.func64, Try.ntmps64
    go_wp2_with fail
    go_quiet (fail)
    go_wp2_with fail
    go_quiet (fail)
    go_wp2_with fail
    go_ret
    exact ⟨by rw [E.out]; rfl, ((Only.refl none_ w).drewN _).drewN _⟩
  · have e1 : (p.a == q.a) = false := by simp [ha]
    have E := Lib.hid (show ltP p q = q.a from by unfold ltP bne; rw [e1]; rfl)
    clear ha
    go_enter Try.func64, Try.ntmps64
    go_wp2_with fail
    go_quiet (fail)
    go_wp2_with fail
    go_ret
    exact ⟨by rw [E.out]; rfl, (Only.refl none_ w).drewN _⟩
theorem OwnsPl.drew {w : World} {base : Nat} {v : Value} {d : List Pl} (h : OwnsPl w base v d) : OwnsPl w.drew base v d := h
theorem OwnsPl.drewN {w : World} {base : Nat} {v : Value} {d : List Pl} (h : OwnsPl w base v d) (n : Nat) : OwnsPl (w.drewN n) base v d := h
/-- what a swap turns -/
theorem swap_only {w : World} {g : Nat} {S : Nat → Prop} (hS : S g) (i : Nat) (q : Pl) : Only S w ((((w.setCell ⟨g, i * 4, none⟩ (.int .i64 q.k)).setCell ⟨g, i * 4 + 1, none⟩ (.bool q.a)).setCell ⟨g, i * 4 + 2, none⟩ (.int .i64 q.n)).setCell ⟨g, i * 4 + 3, none⟩ (.bool q.s)) :=
  (((((Only.refl S w).into hS _ _).into hS _ _).into hS _ _).into hS _ _)
set_option maxHeartbeats 1000000 in
theorem qswap_any {w : World} {base : Nat} {v : Value} {d : List Pl} (h : OwnsPl w base v d) {i j : Nat} {p q : Pl} (hi : d[i]? = some p) (hj : d[j]? = some q) (hl : d.length ≤ 1000) :
    Calls Try.prog 65 #[v, .int .i64 i, .int .i64 j] w fun e w' => e = .returned (.tuple #[]) ∧ OwnsPl w' base v (swp d i j p q) ∧ Only (fun k => some k = v.ownBlock) w w' := by
  have li := lt_of_get hi
  have lj := lt_of_get hj
  obtain ⟨g, cap, rfl, _⟩ := h.form (by rintro rfl; simp at hi)
  have h1 := h.put hi q
  have hj1 : (d.set i q)[j]? = some (if i = j then q else q) := by
    rw [List.getElem?_set]
    by_cases k : i = j
    · subst k; simp [li]
    · simp [k, hj]
  have H2 := Lib.hid (h1.put hj1 p)
  have PQ := Lib.hid (show i = j → p = q from by rintro rfl; rw [hi] at hj; exact Option.some.inj hj)
  obtain ⟨c0, c1, c2, c3⟩ := h.four hi
  obtain ⟨d0, d1, d2, d3⟩ := h.four hj
  have fz : ∀ k, w.frozen? ⟨g, k, none⟩ = false := fun k => h.frozen k
  obtain ⟨n, hn⟩ : ∃ n, d.length = n := ⟨_, rfl⟩
  rw [hn] at li lj hl H2 ⊢
  clear h hi hj hn h1 hj1
  have SO := Lib.hid (fun W i q => swap_only (w := W) (g := g) (S := fun k => some k = (Value.slice (some ⟨g, 0, none⟩) n cap).ownBlock) rfl i q)
  by_cases ij : i = j
  · subst ij
    have QP := PQ.out rfl
    subst QP
    go_enter Try.func65, Try.ntmps65
    go_wp2_with fail
    go_region
    all_goals (try go_wp2)
    all_goals go_end0
    all_goals exact ⟨rfl, H2.out.drew, ((SO.out _ i p).same (SO.out _ i p)).drew⟩
  · have n1 : ¬ i * 4 = j * 4 := by omega
    have n2 : ¬ j * 4 = i * 4 := by omega
    clear ij PQ
    go_enter Try.func65, Try.ntmps65
    go_wp2_with fail
    go_region
    all_goals (try go_wp2)
    all_goals go_end0
    all_goals exact ⟨rfl, H2.out.drew, ((SO.out _ i q).same (SO.out _ j p)).drew⟩
/-- append to a slice of the call's own, as one step of a region that draws; where it lies behind it -/
theorem step_append_at {P : Program} {ops : Array Oper} {o : Oper} {a : Act} {w : World} {K : Act → World → Prop} {Q : Exit → Act → World → Prop} {E : Prop}
    (hg : o.guard = none) (s x : Operand) (t : TypeId) (hop : o.op = Op.call { callee := Callee.builtin Builtin.append, args := #[s, x], argTypes := #[t, t] })
    (base : Nat) (e : TypeId) (i : TypeInfo) (z : Value) (size bytes : Nat) (h1 : P.underlying t = some (.slice e)) (h2 : P.info? e = some i) (h3 : i.zero = some z) (h4 : i.size = size) (h5 : i.bytes = bytes) (h6 : z.cells.size = size) (h7 : 0 < size)
    (v : Value) (k : Nat) (xs : List Value) (hs : a.eval s = v) (hown : w.ownsRow base e size v k xs)
    (ad : Addr) (m c : Nat) (news : List Value) (hx : a.eval x = .slice (some ad) m c) (hn : news.length = m * size) (hc : ∀ j u, news[j]? = some u → w.cell? (ad.add j) = some u) (h1c : ∀ u ∈ news, u.oneCell' = true)
    (b1 : k + m ≤ maxLen) (b2 : (k + m) * bytes ≤ 140737488355328) (b3 : base ≤ w.heap.size)
    (hK : ∀ v' w', w'.ownsRow base e size v' (k + m) (xs ++ news) → w.grownBy w' v.ownBlock → (v'.ownBlock = v.ownBlock ∨ v'.ownBlock = some w.heap.size) → K (a.put o.dst v') w') :
    if Region.wanted o (yielded ops a.tmps) = true then Oper.wp P o a w K Q else E := by
  have hw : Region.wanted o (yielded ops a.tmps) = true := by simp [Region.wanted, hg]
  rw [if_pos hw]
  obtain ⟨v', w', hrun, r1, r2, _, r3⟩ := run_append_own_at (P := P) (w := w) base t o.type e i z size bytes h1 h2 h3 h4 h5 h6 h7 v k xs hown ad m c news hn hc h1c b1 b2 b3
  unfold Oper.wp
  simp [execOp, hop, resolve, invoke, builtin, hs, hx, hrun, Result.andThen]
  exact hK v' w' r1 r2 r3
theorem add12 (b o n : Nat) : (Addr.mk b o none).add n = ⟨b, o + n, none⟩ := by
  unfold Addr.add
  split
  · rename_i z; rw [z]; rfl
  · rfl
def Pl.val (p : Pl) : Value := .agg #[.int .i64 p.k, .bool p.a, .int .i64 p.n, .bool p.s]
theorem info_pl : (Try.prog.info? 59).map (fun i => (i.zero, i.size, i.bytes)) = some (some (.agg #[.int .i64 0, .bool false, .int .i64 0, .bool false]), 4, 32) := by kernel_rfl
theorem run_assert_place (k n : Int) (a s : Bool) (w : World) : (Instr.typeAssert (.iface 59 (.agg #[.int .i64 k, .bool a, .int .i64 n, .bool s])) 20 59 false).run Try.prog w = .ok (.agg #[.int .i64 k, .bool a, .int .i64 n, .bool s]) w := by kernel_rfl
/-- a heap in memory: its variable at block c, its row elsewhere -/
structure Qu (w : World) (c base : Nat) (v : Value) (d : List Pl) : Prop where
  row : Row w c 65 #[v]
  own : OwnsPl w base v d
  low : base ≤ c
theorem row_ne {w : World} {c base : Nat} {u v : Value} {d : List Pl} (hr : Row w c 65 #[u]) (ho : OwnsPl w base v d) : some c ≠ v.ownBlock := fun q => by
  rcases ho.2 with ⟨rfl, _⟩ | ⟨g, cap, cur, rfl, _, hg, _⟩
  · cases q
  · have : c = g := by simpa [Value.ownBlock] using q
    subst this
    unfold Row at hr
    rw [hr] at hg
    injection hg with hg
    injection hg with _ hg
    exact absurd hg (by decide)
theorem Qu.ne {w : World} {c base : Nat} {v : Value} {d : List Pl} (h : Qu w c base v d) : some c ≠ v.ownBlock := row_ne h.row h.own
/-- what may turn of it -/
abbrev quB (c : Nat) (v : Value) : Nat → Prop := fun k => k = c ∨ some k = v.ownBlock
set_option maxHeartbeats 1000000 in
theorem qpush_any {w : World} {c base : Nat} {v : Value} {d : List Pl} (h : Qu w c base v d) (p : Pl) (hl : d.length ≤ 1000) :
    Calls Try.prog 67 #[.pointer (some ⟨c, 0, none⟩), .iface 59 p.val] w fun e w' => e = .returned (.tuple #[]) ∧ (∃ v', Qu w' c base v' (d ++ [p]) ∧ ∀ g, v'.ownBlock = some g → v.ownBlock = some g ∨ w.heap.size ≤ g) ∧ Only (quB c v) w w' := by
  have ra := run_assert_place p.k p.n p.a p.s
  have lc := h.row.lt
  have NE := Lib.hid h.ne
  have LO := Lib.hid h.low
  have OA := Lib.hid (((Only.refl none_ w).alloc (.cells #[.int .i64 p.k, .bool p.a, .int .i64 p.n, .bool p.s] 59)).drew)
  have RA := Lib.hid (show Row ((w.alloc (.cells #[.int .i64 p.k, .bool p.a, .int .i64 p.n, .bool p.s] 59)).drew) w.heap.size 59 #[.int .i64 p.k, .bool p.a, .int .i64 p.n, .bool p.s] from Row.fresh w _ _)
  have NEWS := Lib.hid (show ∀ j u, ([.int .i64 p.k, .bool p.a, .int .i64 p.n, .bool p.s] : List Value)[j]? = some u → ((w.alloc (.cells #[.int .i64 p.k, .bool p.a, .int .i64 p.n, .bool p.s] 59)).drew).cell? ((Addr.mk w.heap.size 0 none).add j) = some u from fun j u hj => by rw [add12, Nat.zero_add, RA.out.cell, List.getElem?_toArray]; exact hj)
  have OWN := Lib.hid (show ((w.alloc (.cells #[.int .i64 p.k, .bool p.a, .int .i64 p.n, .bool p.s] 59)).drew).ownsRow base 59 4 v d.length (d.flatMap Pl.cells) from h.own.still OA.out)
  have c1 : w.cell? ⟨c, 0, none⟩ = some v := by rw [h.row.cell]; rfl
  have c2 : w.drew.cell? ⟨c, 0, none⟩ = some v := c1
  have c3 : ((w.alloc (.cells #[.int .i64 p.k, .bool p.a, .int .i64 p.n, .bool p.s] 59)).drew).cell? ⟨c, 0, none⟩ = some v := OA.out.cell c1 (fun s => s)
  have B1 := Lib.hid (show d.length + 1 ≤ maxLen from by unfold maxLen; omega)
  have B2 := Lib.hid (show (d.length + 1) * 32 ≤ 140737488355328 from by omega)
  have zA : base ≤ ((w.alloc (.cells #[.int .i64 p.k, .bool p.a, .int .i64 p.n, .bool p.s] 59)).drew).heap.size := by have := OA.out.size; have := LO.out; omega
  have R := Lib.hid h.row
  obtain ⟨a, cap, rfl⟩ := h.own.len
  obtain ⟨i0, hi0, hz0, hz1, hz2⟩ := info_parts info_pl
  have I0 := Lib.hid hi0
  have I1 := Lib.hid hz0
  have I2 := Lib.hid hz1
  have I3 := Lib.hid hz2
  clear hi0 hz0 hz1 hz2 h hl
  unfold Pl.val
  go_enter Try.func67, Try.ntmps67
  go_wp2_with fail
  go_region_law (first
    | (refine step_append_at rfl (.tmp 7) (.tmp 10) 65 rfl base 59 i0 _ 4 32 Try.underlying65 I0.out I1.out I2.out I3.out rfl (by decide) _ d.length _ rfl OWN.out ⟨w.heap.size, 0, none⟩ 1 1 [.int .i64 p.k, .bool p.a, .int .i64 p.n, .bool p.s] rfl rfl NEWS.out (pl_one p) B1.out B2.out zA ?_
       intro v1 w1 hown1 hgrow1 hat1
       have AT := Lib.hid hat1
       have O1 := Lib.hid ((OA.out.up (S := quB c (.slice a d.length cap))).same ((Only.of_grown hgrow1).more (fun _ _ q => .inr q)))
       have OW1 := Lib.hid (show OwnsPl w1 base v1 (d ++ [p]) from by
         unfold OwnsPl Owns
         rw [List.flatMap_append, List.length_append]
         simpa [Pl.cells] using hown1)
       have R1 := Lib.hid ((Only.of_grown hgrow1).row (show Row ((w.alloc (.cells #[.int .i64 p.k, .bool p.a, .int .i64 p.n, .bool p.s] 59)).drew) c 65 #[.slice a d.length cap] from OA.out.still R.out) (fun q => NE.out q))
       have NE1 := Lib.hid (row_ne R1.out OW1.out)
       have z1 := R1.out.frozen 0
       have c4 : w1.cell? ⟨c, 0, none⟩ = some (.slice a d.length cap) := by rw [R1.out.cell]; rfl
       have l4 := R1.out.lt
       obtain ⟨a1, cap1, rfl⟩ : ∃ a1 cap1, v1 = .slice a1 (d.length + 1) cap1 := (by have := OW1.out.len; simpa using this)
       clear hown1 hgrow1 hat1)
    | fail)
  all_goals
    go_wp2_with fail
    go_end0
    have OP := (Only.refl (fun k => k = c) w1).into rfl 0 (.slice a1 (d.length + 1) cap1)
    exact ⟨rfl, ⟨_, ⟨R1.out.put 0 _, OW1.out.keep OP (fun g hg e => NE1.out (by rw [hg, e])), LO.out⟩, fun g hg => by
      rcases AT.out with q | q
      · exact .inl (q ▸ hg)
      · rw [q] at hg; injection hg with hg; have := OA.out.size; right; have z : g = ((w.alloc (.cells #[.int .i64 p.k, .bool p.a, .int .i64 p.n, .bool p.s] 59)).drew).heap.size := hg.symm; omega⟩, O1.out.same (OP.more (fun _ _ q => Or.inl q))⟩
set_option maxHeartbeats 1000000 in
theorem qpop_any {w : World} {c base : Nat} {v : Value} {d : List Pl} {p : Pl} (h : Qu w c base v (d ++ [p])) (hl : d.length ≤ 1000) :
    Calls Try.prog 66 #[.pointer (some ⟨c, 0, none⟩)] w fun e w' => e = .returned (.iface 59 p.val) ∧ (∃ v', Qu w' c base v' d) ∧ Only (quB c v) w w' := by
  obtain ⟨g, cap, rfl, lg, gl, gc, gm⟩ := h.own.form (by simp)
  have hp : (d ++ [p])[d.length]? = some p := by simp
  obtain ⟨c0, c1, c2, c3⟩ := h.own.four hp
  have QL := Lib.hid (qlen_any h.own)
  have z := h.row.frozen 0
  have lc := h.row.lt
  have q0 : w.cell? ⟨c, 0, none⟩ = some (.slice (some ⟨g, 0, none⟩) (d.length + 1) cap) := by rw [h.row.cell]; simp
  have H := Lib.hid h
  simp only [List.length_append, List.length_cons, List.length_nil, Nat.zero_add] at QL gc
  have hw : IntKind.i64.wrap ((d.length + 1 : Nat) - 1 : Int) = (d.length : Int) := by rw [IntKind.wrap_i64]; omega
  obtain ⟨n, hn⟩ : ∃ n, d.length = n := ⟨_, rfl⟩
  rw [hn] at c0 c1 c2 c3 q0 hw hl QL gc
  clear h hp
  go_enter Try.func66, Try.ntmps66
  go_wp2_with fail
  (with_reducible refine QL.out.mono ?_)
  rintro e w' ⟨rfl, rfl⟩
  go_wp2_with fail
  go_ret
  have OP := (Only.refl (quB c (Value.slice (some ⟨g, 0, none⟩) (d ++ [p]).length cap)) w).into (.inl rfl) 0 (.slice (some ⟨g, 0, none⟩) n cap)
  have OC := (Only.refl (fun k => k = c) w).into rfl 0 (.slice (some ⟨g, 0, none⟩) n cap)
  have OI := Owns.init pl4 H.out.own
  rw [hn] at OI
  refine ⟨rfl, ⟨_, (H.out.row.put 0 (.slice (some ⟨g, 0, none⟩) n cap)).alloc _, ?_, H.out.low⟩, OP.alloc _⟩
  exact (OI.keep OC (fun a ha e => H.out.ne (by rw [← e]; exact ha.symm))).still ((Only.refl _ _).alloc _)
end Go.Proofs.Ytmihinpbgppjlaa

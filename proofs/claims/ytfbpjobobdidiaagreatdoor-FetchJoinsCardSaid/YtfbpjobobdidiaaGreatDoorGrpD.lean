/- Texts of the layers below, side by side. -/
import Derived.Test.YtfbpjobobdidiaaGreatDoorGrpC
import Derived.Test.YtfbpjobobdidiaaGreatDoorGrpA
import Derived.Test.YtfbpjobobdidiaaGreatDoorChecked
import Derived.BigRegion
import Derived.RegionTactic
import Derived.Deep.RegionLaw
import Derived.Maps.AppendAt
import Derived.Shelf.Lay
/- A heap of places in memory: what its methods do. -/
namespace Go.Proofs.YtfbpjobobdidiaaGreatDoor
open Go.RowKit
set_option linter.unusedVariables false
set_option maxRecDepth 100000

abbrev OwnsPl (w : World) (base : Nat) (v : Value) (d : List Pl) : Prop := Owns w base 169 4 Pl.cells v d
theorem OwnsPl.len {w : World} {base : Nat} {v : Value} {d : List Pl} (h : OwnsPl w base v d) : ∃ a cap, v = .slice a d.length cap := by
  rcases h.2 with ⟨h0, h2⟩ | ⟨g, cap, cur, hv, _⟩
  · exact ⟨none, 0, by rw [h0, h2]⟩
  · exact ⟨_, _, hv⟩
theorem OwnsPl.four {w : World} {base g cap : Nat} {d : List Pl} (h : OwnsPl w base (.slice (some ⟨g, 0, none⟩) d.length cap) d) {i : Nat} {p : Pl} (hi : d[i]? = some p) :
    w.cell? ⟨g, i * 4, none⟩ = some (.int .i64 p.k) ∧ w.cell? ⟨g, i * 4 + 1, none⟩ = some (.bool p.a) ∧ w.cell? ⟨g, i * 4 + 2, none⟩ = some (.int .i64 p.n) ∧ w.cell? ⟨g, i * 4 + 3, none⟩ = some (.bool p.s) :=
  ⟨Owns.cell h pl4 hi (j := 0) (by decide), Owns.cell h pl4 hi (j := 1) (by decide), Owns.cell h pl4 hi (j := 2) (by decide), Owns.cell h pl4 hi (j := 3) (by decide)⟩
theorem Owns.put1 {α : Type} {w : World} {base g n cap : Nat} {e : TypeId} {k : Nat} {c : α → List Value} {xs : List α} (h : Owns w base e k c (.slice (some ⟨g, 0, none⟩) n cap) xs) (hk : ∀ a, (c a).length = k) {i : Nat} {a a' : α} (hi : xs[i]? = some a) {j : Nat} (hj : j < k) {v : Value} (hv : c a' = (c a).set j v) :
    Owns (w.setCell ⟨g, i * k + j, none⟩ v) base e k c (.slice (some ⟨g, 0, none⟩) n cap) (xs.set i a') := by
  have e1 := flat_set hk xs i a a' j v hi hj hv
  obtain ⟨h1, h2⟩ := h
  refine ⟨?_, ?_⟩
  · rw [← e1, List.length_set, List.length_set]
    exact h1
  · rcases h2 with ⟨q, _⟩ | ⟨g', cap', cur, q, hg, hb, h3, h4, h5, h6⟩
    · cases q
    · simp only [Value.slice.injEq, Option.some.injEq, Addr.mk.injEq, and_true] at q
      obtain ⟨rfl, q2, rfl⟩ := q
      refine .inr ⟨g, cap, cur.setIfInBounds (i * k + j) v, by rw [List.length_set, ← q2], hg, ?_, by rw [List.length_set]; exact h3, h4, by rw [Array.size_setIfInBounds]; exact h5, ?_⟩
      · have r : Row w g e cur := hb
        exact r.put _ _
      · rw [List.length_set, ← e1, ← h6, Array.toList_setIfInBounds, List.take_set]
theorem Owns.init {α : Type} {w : World} {base g m cap : Nat} {e : TypeId} {k : Nat} {c : α → List Value} (hk : ∀ a, (c a).length = k) {xs : List α} {y : α} (h : Owns w base e k c (.slice (some ⟨g, 0, none⟩) m cap) (xs ++ [y])) :
    Owns w base e k c (.slice (some ⟨g, 0, none⟩) xs.length cap) xs := by
  obtain ⟨h1, h2⟩ := h
  have hx : (xs.flatMap c).length = xs.length * k := by
    have := flat_size hk xs
    unfold flat at this
    simpa using this
  refine ⟨hx, ?_⟩
  rcases h2 with ⟨q, _⟩ | ⟨g', cap', cur, q, hg, hb, h3, h4, h5, h6⟩
  · cases q
  · simp only [Value.slice.injEq, Option.some.injEq, Addr.mk.injEq, and_true] at q
    obtain ⟨rfl, rfl, rfl⟩ := q
    refine .inr ⟨g, cap, cur, rfl, hg, hb, by rw [List.length_append] at h3; omega, h4, h5, ?_⟩
    have e1 : xs.length * k ≤ (xs ++ [y]).length * k := Nat.mul_le_mul_right _ (by simp)
    have := congrArg (List.take (xs.length * k)) h6
    rw [List.take_take, Nat.min_eq_left e1, List.flatMap_append, List.take_append_of_le_length (by omega), List.take_of_length_le (l := xs.flatMap c) (by omega)] at this
    exact this
theorem OwnsPl.put {w : World} {base g n cap : Nat} {d : List Pl} (h : OwnsPl w base (.slice (some ⟨g, 0, none⟩) n cap) d) {i : Nat} {p : Pl} (hi : d[i]? = some p) (q : Pl) :
    OwnsPl ((((w.setCell ⟨g, i * 4, none⟩ (.int .i64 q.k)).setCell ⟨g, i * 4 + 1, none⟩ (.bool q.a)).setCell ⟨g, i * 4 + 2, none⟩ (.int .i64 q.n)).setCell ⟨g, i * 4 + 3, none⟩ (.bool q.s)) base (.slice (some ⟨g, 0, none⟩) n cap) (d.set i q) := by
  have h1 := Owns.put1 h pl4 hi (a' := ⟨q.k, p.a, p.n, p.s⟩) (j := 0) (by decide) (v := .int .i64 q.k) rfl
  have h2 := Owns.put1 h1 pl4 (get_set hi) (a' := ⟨q.k, q.a, p.n, p.s⟩) (j := 1) (by decide) (v := .bool q.a) rfl
  have h3 := Owns.put1 h2 pl4 (get_set (get_set hi)) (a' := ⟨q.k, q.a, q.n, p.s⟩) (j := 2) (by decide) (v := .int .i64 q.n) rfl
  have h4 := Owns.put1 h3 pl4 (get_set (get_set (get_set hi))) (a' := q) (j := 3) (by decide) (v := .bool q.s) rfl
  rw [List.set_set, List.set_set, List.set_set] at h4
  exact h4
theorem qlen_any {w : World} {base : Nat} {v : Value} {d : List Pl} (h : OwnsPl w base v d) : Calls Tryz.prog 98 #[v] w fun e w' => e = .returned (.int .i64 d.length) ∧ w = w' := by
  obtain ⟨a, cap, rfl⟩ := h.len
  clear h
  go_enter Tryz.func98, Tryz.ntmps98
  go_wp2
  go_ret
  exact ⟨rfl, rfl⟩
theorem qless_any {w : World} {base : Nat} {v : Value} {d : List Pl} (h : OwnsPl w base v d) {i j : Nat} {p q : Pl} (hi : d[i]? = some p) (hj : d[j]? = some q) (hl : d.length ≤ 1000) :
    Calls Tryz.prog 210 #[v, .int .i64 i, .int .i64 j] w fun e w' => e = .returned (.bool (ltP p q)) ∧ Only none_ w w' := by
  have li := lt_of_get hi
  have lj := lt_of_get hj
  obtain ⟨g, cap, rfl, _⟩ := h.form (by rintro rfl; simp at hi)
  obtain ⟨_, c1, c2, _⟩ := h.four hi
  obtain ⟨_, d1, d2, _⟩ := h.four hj
  obtain ⟨n, hn⟩ : ∃ n, d.length = n := ⟨_, rfl⟩
  rw [hn] at li lj hl ⊢
  clear h hi hj hn
  by_cases ha : p.a = q.a
  · have e1 : (p.a == q.a) = true := by simp [ha]
    have E := Lib.hid (show ltP p q = decide (p.n < q.n) from by unfold ltP bne; rw [e1]; rfl)
    clear ha
    go_enter Tryz.func210, Tryz.ntmps210
    go_wp2_with fail
    go_quiet (fail)
    go_wp2_with fail
    go_quiet (fail)
    go_wp2_with fail
    go_ret
    exact ⟨by rw [E.out]; rfl, ((Only.refl none_ w).drewN _).drewN _⟩
  · have e1 : (p.a == q.a) = false := by simp [ha]
    have E := Lib.hid (show ltP p q = q.a from by unfold ltP bne; rw [e1]; rfl)
    clear ha
    go_enter Tryz.func210, Tryz.ntmps210
    go_wp2_with fail
    go_quiet (fail)
    go_wp2_with fail
    go_ret
    exact ⟨by rw [E.out]; rfl, (Only.refl none_ w).drewN _⟩
theorem OwnsPl.drew {w : World} {base : Nat} {v : Value} {d : List Pl} (h : OwnsPl w base v d) : OwnsPl w.drew base v d := h
theorem OwnsPl.drewN {w : World} {base : Nat} {v : Value} {d : List Pl} (h : OwnsPl w base v d) (n : Nat) : OwnsPl (w.drewN n) base v d := h
/-- what a swap turns -/
theorem swap_only {w : World} {g : Nat} {S : Nat → Prop} (hS : S g) (i : Nat) (q : Pl) : Only S w ((((w.setCell ⟨g, i * 4, none⟩ (.int .i64 q.k)).setCell ⟨g, i * 4 + 1, none⟩ (.bool q.a)).setCell ⟨g, i * 4 + 2, none⟩ (.int .i64 q.n)).setCell ⟨g, i * 4 + 3, none⟩ (.bool q.s)) :=
  (((((Only.refl S w).into hS _ _).into hS _ _).into hS _ _).into hS _ _)
set_option maxHeartbeats 1000000 in
theorem qswap_any {w : World} {base : Nat} {v : Value} {d : List Pl} (h : OwnsPl w base v d) {i j : Nat} {p q : Pl} (hi : d[i]? = some p) (hj : d[j]? = some q) (hl : d.length ≤ 1000) :
    Calls Tryz.prog 211 #[v, .int .i64 i, .int .i64 j] w fun e w' => e = .returned (.tuple #[]) ∧ OwnsPl w' base v (swp d i j p q) ∧ Only (fun k => some k = v.ownBlock) w w' := by
  have li := lt_of_get hi
  have lj := lt_of_get hj
  obtain ⟨g, cap, rfl, _⟩ := h.form (by rintro rfl; simp at hi)
  have h1 := h.put hi q
  have hj1 : (d.set i q)[j]? = some (if i = j then q else q) := by
    rw [List.getElem?_set]
    by_cases k : i = j
    · subst k; simp [li]
    · simp [k, hj]
  have H2 := Lib.hid (h1.put hj1 p)
  have PQ := Lib.hid (show i = j → p = q from by rintro rfl; rw [hi] at hj; exact Option.some.inj hj)
  obtain ⟨c0, c1, c2, c3⟩ := h.four hi
  obtain ⟨d0, d1, d2, d3⟩ := h.four hj
  have fz : ∀ k, w.frozen? ⟨g, k, none⟩ = false := fun k => h.frozen k
  obtain ⟨n, hn⟩ : ∃ n, d.length = n := ⟨_, rfl⟩
  rw [hn] at li lj hl H2 ⊢
  clear h hi hj hn h1 hj1
  have SO := Lib.hid (fun W i q => swap_only (w := W) (g := g) (S := fun k => some k = (Value.slice (some ⟨g, 0, none⟩) n cap).ownBlock) rfl i q)
  by_cases ij : i = j
  · subst ij
    have QP := PQ.out rfl
    subst QP
    go_enter Tryz.func211, Tryz.ntmps211
    go_wp2_with fail
    go_region
    all_goals (try go_wp2)
    all_goals go_end0
    all_goals exact ⟨rfl, H2.out.drew, ((SO.out _ i p).same (SO.out _ i p)).drew⟩
  · have n1 : ¬ i * 4 = j * 4 := by omega
    have n2 : ¬ j * 4 = i * 4 := by omega
    clear ij PQ
    go_enter Tryz.func211, Tryz.ntmps211
    go_wp2_with fail
    go_region
    all_goals (try go_wp2)
    all_goals go_end0
    all_goals exact ⟨rfl, H2.out.drew, ((SO.out _ i q).same (SO.out _ j p)).drew⟩
/-- append to a slice of the call's own, as one step of a region that draws; where it lies behind it -/
theorem step_append_at {P : Program} {ops : Array Oper} {o : Oper} {a : Act} {w : World} {K : Act → World → Prop} {Q : Exit → Act → World → Prop} {E : Prop}
    (hg : o.guard = none) (s x : Operand) (t : TypeId) (hop : o.op = Op.call { callee := Callee.builtin Builtin.append, args := #[s, x], argTypes := #[t, t] })
    (base : Nat) (e : TypeId) (i : TypeInfo) (z : Value) (size bytes : Nat) (h1 : P.underlying t = some (.slice e)) (h2 : P.info? e = some i) (h3 : i.zero = some z) (h4 : i.size = size) (h5 : i.bytes = bytes) (h6 : z.cells.size = size) (h7 : 0 < size)
    (v : Value) (k : Nat) (xs : List Value) (hs : a.eval s = v) (hown : w.ownsRow base e size v k xs)
    (ad : Addr) (m c : Nat) (news : List Value) (hx : a.eval x = .slice (some ad) m c) (hn : news.length = m * size) (hc : ∀ j u, news[j]? = some u → w.cell? (ad.add j) = some u) (h1c : ∀ u ∈ news, u.oneCell' = true)
    (b1 : k + m ≤ maxLen) (b2 : (k + m) * bytes ≤ 140737488355328) (b3 : base ≤ w.heap.size)
    (hK : ∀ v' w', w'.ownsRow base e size v' (k + m) (xs ++ news) → w.grownBy w' v.ownBlock → (v'.ownBlock = v.ownBlock ∨ v'.ownBlock = some w.heap.size) → K (a.put o.dst v') w') :
    if Region.wanted o (yielded ops a.tmps) = true then Oper.wp P o a w K Q else E := by
  have hw : Region.wanted o (yielded ops a.tmps) = true := by simp [Region.wanted, hg]
  rw [if_pos hw]
  obtain ⟨v', w', hrun, r1, r2, _, r3⟩ := run_append_own_at (P := P) (w := w) base t o.type e i z size bytes h1 h2 h3 h4 h5 h6 h7 v k xs hown ad m c news hn hc h1c b1 b2 b3
  unfold Oper.wp
  simp [execOp, hop, resolve, invoke, builtin, hs, hx, hrun, Result.andThen]
  exact hK v' w' r1 r2 r3
theorem add12 (b o n : Nat) : (Addr.mk b o none).add n = ⟨b, o + n, none⟩ := by
  unfold Addr.add
  split
  · rename_i z; rw [z]; rfl
  · rfl
def Pl.val (p : Pl) : Value := .agg #[.int .i64 p.k, .bool p.a, .int .i64 p.n, .bool p.s]
theorem info_pl : (Tryz.prog.info? 169).map (fun i => (i.zero, i.size, i.bytes)) = some (some (.agg #[.int .i64 0, .bool false, .int .i64 0, .bool false]), 4, 32) := by kernel_rfl
theorem run_assert_place (k n : Int) (a s : Bool) (w : World) : (Instr.typeAssert (.iface 169 (.agg #[.int .i64 k, .bool a, .int .i64 n, .bool s])) 20 169 false).run Tryz.prog w = .ok (.agg #[.int .i64 k, .bool a, .int .i64 n, .bool s]) w := by kernel_rfl
/-- a heap in memory: its variable at block c, its row elsewhere -/
structure Qu (w : World) (c base : Nat) (v : Value) (d : List Pl) : Prop where
  row : Row w c 172 #[v]
  own : OwnsPl w base v d
  low : base ≤ c
theorem row_ne {w : World} {c base : Nat} {u v : Value} {d : List Pl} (hr : Row w c 172 #[u]) (ho : OwnsPl w base v d) : some c ≠ v.ownBlock := fun q => by
  rcases ho.2 with ⟨rfl, _⟩ | ⟨g, cap, cur, rfl, _, hg, _⟩
  · cases q
  · have : c = g := by simpa [Value.ownBlock] using q
    subst this
    unfold Row at hr
    rw [hr] at hg
    injection hg with hg
    injection hg with _ hg
    exact absurd hg (by decide)
theorem Qu.ne {w : World} {c base : Nat} {v : Value} {d : List Pl} (h : Qu w c base v d) : some c ≠ v.ownBlock := row_ne h.row h.own
/-- what may turn of it -/
abbrev quB (c : Nat) (v : Value) : Nat → Prop := fun k => k = c ∨ some k = v.ownBlock
set_option maxHeartbeats 1000000 in
theorem qpush_any {w : World} {c base : Nat} {v : Value} {d : List Pl} (h : Qu w c base v d) (p : Pl) (hl : d.length ≤ 1000) :
    Calls Tryz.prog 213 #[.pointer (some ⟨c, 0, none⟩), .iface 169 p.val] w fun e w' => e = .returned (.tuple #[]) ∧ (∃ v', Qu w' c base v' (d ++ [p]) ∧ ∀ g, v'.ownBlock = some g → v.ownBlock = some g ∨ w.heap.size ≤ g) ∧ Only (quB c v) w w' := by
  have ra := run_assert_place p.k p.n p.a p.s
  have lc := h.row.lt
  have NE := Lib.hid h.ne
  have LO := Lib.hid h.low
  have OA := Lib.hid (((Only.refl none_ w).alloc (.cells #[.int .i64 p.k, .bool p.a, .int .i64 p.n, .bool p.s] 169)).drew)
  have RA := Lib.hid (show Row ((w.alloc (.cells #[.int .i64 p.k, .bool p.a, .int .i64 p.n, .bool p.s] 169)).drew) w.heap.size 169 #[.int .i64 p.k, .bool p.a, .int .i64 p.n, .bool p.s] from Row.fresh w _ _)
  have NEWS := Lib.hid (show ∀ j u, ([.int .i64 p.k, .bool p.a, .int .i64 p.n, .bool p.s] : List Value)[j]? = some u → ((w.alloc (.cells #[.int .i64 p.k, .bool p.a, .int .i64 p.n, .bool p.s] 169)).drew).cell? ((Addr.mk w.heap.size 0 none).add j) = some u from fun j u hj => by rw [add12, Nat.zero_add, RA.out.cell, List.getElem?_toArray]; exact hj)
  have OWN := Lib.hid (show ((w.alloc (.cells #[.int .i64 p.k, .bool p.a, .int .i64 p.n, .bool p.s] 169)).drew).ownsRow base 169 4 v d.length (d.flatMap Pl.cells) from h.own.still OA.out)
  have c1 : w.cell? ⟨c, 0, none⟩ = some v := by rw [h.row.cell]; rfl
  have c2 : w.drew.cell? ⟨c, 0, none⟩ = some v := c1
  have c3 : ((w.alloc (.cells #[.int .i64 p.k, .bool p.a, .int .i64 p.n, .bool p.s] 169)).drew).cell? ⟨c, 0, none⟩ = some v := OA.out.cell c1 (fun s => s)
  have B1 := Lib.hid (show d.length + 1 ≤ maxLen from by unfold maxLen; omega)
  have B2 := Lib.hid (show (d.length + 1) * 32 ≤ 140737488355328 from by omega)
  have zA : base ≤ ((w.alloc (.cells #[.int .i64 p.k, .bool p.a, .int .i64 p.n, .bool p.s] 169)).drew).heap.size := by have := OA.out.size; have := LO.out; omega
  have R := Lib.hid h.row
  obtain ⟨a, cap, rfl⟩ := h.own.len
  obtain ⟨i0, hi0, hz0, hz1, hz2⟩ := info_parts info_pl
  have I0 := Lib.hid hi0
  have I1 := Lib.hid hz0
  have I2 := Lib.hid hz1
  have I3 := Lib.hid hz2
  clear hi0 hz0 hz1 hz2 h hl
  unfold Pl.val
  go_enter Tryz.func213, Tryz.ntmps213
  go_wp2_with fail
  go_region_law (first
    | (refine step_append_at rfl (.tmp 7) (.tmp 10) 172 rfl base 169 i0 _ 4 32 Tryz.underlying172 I0.out I1.out I2.out I3.out rfl (by decide) _ d.length _ rfl OWN.out ⟨w.heap.size, 0, none⟩ 1 1 [.int .i64 p.k, .bool p.a, .int .i64 p.n, .bool p.s] rfl rfl NEWS.out (pl_one p) B1.out B2.out zA ?_
       intro v1 w1 hown1 hgrow1 hat1
       have AT := Lib.hid hat1
       have O1 := Lib.hid ((OA.out.up (S := quB c (.slice a d.length cap))).same ((Only.of_grown hgrow1).more (fun _ _ q => .inr q)))
       have OW1 := Lib.hid (show OwnsPl w1 base v1 (d ++ [p]) from by
         unfold OwnsPl Owns
         rw [List.flatMap_append, List.length_append]
         simpa [Pl.cells] using hown1)
       have R1 := Lib.hid ((Only.of_grown hgrow1).row (show Row ((w.alloc (.cells #[.int .i64 p.k, .bool p.a, .int .i64 p.n, .bool p.s] 169)).drew) c 172 #[.slice a d.length cap] from OA.out.still R.out) (fun q => NE.out q))
       have NE1 := Lib.hid (row_ne R1.out OW1.out)
       have z1 := R1.out.frozen 0
       have c4 : w1.cell? ⟨c, 0, none⟩ = some (.slice a d.length cap) := by rw [R1.out.cell]; rfl
       have l4 := R1.out.lt
       obtain ⟨a1, cap1, rfl⟩ : ∃ a1 cap1, v1 = .slice a1 (d.length + 1) cap1 := (by have := OW1.out.len; simpa using this)
       clear hown1 hgrow1 hat1)
    | fail)
  all_goals
    go_wp2_with fail
    go_end0
    have OP := (Only.refl (fun k => k = c) w1).into rfl 0 (.slice a1 (d.length + 1) cap1)
    exact ⟨rfl, ⟨_, ⟨R1.out.put 0 _, OW1.out.keep OP (fun g hg e => NE1.out (by rw [hg, e])), LO.out⟩, fun g hg => by
      rcases AT.out with q | q
      · exact .inl (q ▸ hg)
      · rw [q] at hg; injection hg with hg; have := OA.out.size; right; have z : g = ((w.alloc (.cells #[.int .i64 p.k, .bool p.a, .int .i64 p.n, .bool p.s] 169)).drew).heap.size := hg.symm; omega⟩, O1.out.same (OP.more (fun _ _ q => Or.inl q))⟩
set_option maxHeartbeats 1000000 in
theorem qpop_any {w : World} {c base : Nat} {v : Value} {d : List Pl} {p : Pl} (h : Qu w c base v (d ++ [p])) (hl : d.length ≤ 1000) :
    Calls Tryz.prog 212 #[.pointer (some ⟨c, 0, none⟩)] w fun e w' => e = .returned (.iface 169 p.val) ∧ (∃ v', Qu w' c base v' d) ∧ Only (quB c v) w w' := by
  obtain ⟨g, cap, rfl, lg, gl, gc, gm⟩ := h.own.form (by simp)
  have hp : (d ++ [p])[d.length]? = some p := by simp
  obtain ⟨c0, c1, c2, c3⟩ := h.own.four hp
  have QL := Lib.hid (qlen_any h.own)
  have z := h.row.frozen 0
  have lc := h.row.lt
  have q0 : w.cell? ⟨c, 0, none⟩ = some (.slice (some ⟨g, 0, none⟩) (d.length + 1) cap) := by rw [h.row.cell]; simp
  have H := Lib.hid h
  simp only [List.length_append, List.length_cons, List.length_nil, Nat.zero_add] at QL gc
  have hw : IntKind.i64.wrap ((d.length + 1 : Nat) - 1 : Int) = (d.length : Int) := by rw [IntKind.wrap_i64]; omega
  obtain ⟨n, hn⟩ : ∃ n, d.length = n := ⟨_, rfl⟩
  rw [hn] at c0 c1 c2 c3 q0 hw hl QL gc
  clear h hp
  go_enter Tryz.func212, Tryz.ntmps212
  go_wp2_with fail
  (with_reducible refine QL.out.mono ?_)
  rintro e w' ⟨rfl, rfl⟩
  go_wp2_with fail
  go_ret
  have OP := (Only.refl (quB c (Value.slice (some ⟨g, 0, none⟩) (d ++ [p]).length cap)) w).into (.inl rfl) 0 (.slice (some ⟨g, 0, none⟩) n cap)
  have OC := (Only.refl (fun k => k = c) w).into rfl 0 (.slice (some ⟨g, 0, none⟩) n cap)
  have OI := Owns.init pl4 H.out.own
  rw [hn] at OI
  refine ⟨rfl, ⟨_, (H.out.row.put 0 (.slice (some ⟨g, 0, none⟩) n cap)).alloc _, ?_, H.out.low⟩, OP.alloc _⟩
  exact (OI.keep OC (fun a ha e => H.out.ne (by rw [← e]; exact ha.symm))).still ((Only.refl _ _).alloc _)
end Go.Proofs.YtfbpjobobdidiaaGreatDoor


/- A heap of places in memory: how its methods are reached through an interface. -/
namespace Go.Proofs.YtfbpjobobdidiaaGreatDoor
open Go.RowKit
set_option linter.unusedVariables false
set_option maxRecDepth 100000

theorem m_push (a : Addr) (w : World) : (method 375 174 (.pointer (some a)) "Push").run Tryz.prog w = .ok (213, .pointer (some a)) w := by kernel_rfl
theorem m_pop (a : Addr) (w : World) : (method 375 174 (.pointer (some a)) "Pop").run Tryz.prog w = .ok (212, .pointer (some a)) w := by kernel_rfl
theorem meth_info (name : String) (f : Nat) (h : (Tryz.prog.info? 174).map (fun i => (i.methods.find? (·.name == name)).map (fun m => (m.path, m.func))) = some (some (#[], some (f, false)))) {c : Nat} {v : Value} {w : World} (hc : w.cell? ⟨c, 0, none⟩ = some v) :
    (method 375 174 (.pointer (some ⟨c, 0, none⟩)) name).run Tryz.prog w = .ok (f, v) w := by
  obtain ⟨I, hI, h2⟩ := Option.map_eq_some_iff.1 h
  obtain ⟨m, hm, h3⟩ := Option.map_eq_some_iff.1 h2
  injection h3 with h3 h4
  show (method (374 + 1) _ _ _).run _ _ = _
  unfold method
  have hw : ∀ (t : TypeId) (x y : Value) (w : World), (∃ s m, x = .string s ∧ y = .string m) → (Builtin.ssaWrapNilChk_ #[t] t #[.pointer (some ⟨c, 0, none⟩), x, y]).run Tryz.prog w = .ok (.pointer (some ⟨c, 0, none⟩)) w := by
    rintro t x y w ⟨s, m, rfl, rfl⟩
    rfl
  simp [run_typeInfo w hI, hm, h3, h4, follow, receiverAt, Place.get, run_underlying Tryz.underlying174, loadVar, hc, Tryz.isAgg172, strVal, hw, asAddr]
theorem m_len {c : Nat} {v : Value} {w : World} (hc : w.cell? ⟨c, 0, none⟩ = some v) : (method 375 174 (.pointer (some ⟨c, 0, none⟩)) "Len").run Tryz.prog w = .ok (98, v) w := meth_info _ _ (by kernel_rfl) hc
theorem m_less {c : Nat} {v : Value} {w : World} (hc : w.cell? ⟨c, 0, none⟩ = some v) : (method 375 174 (.pointer (some ⟨c, 0, none⟩)) "Less").run Tryz.prog w = .ok (210, v) w := meth_info _ _ (by kernel_rfl) hc
theorem m_swap {c : Nat} {v : Value} {w : World} (hc : w.cell? ⟨c, 0, none⟩ = some v) : (method 375 174 (.pointer (some ⟨c, 0, none⟩)) "Swap").run Tryz.prog w = .ok (211, v) w := meth_info _ _ (by kernel_rfl) hc
theorem e_len (args : Array Value) (w : World) : (callFunc 98 args).run Tryz.prog w = .ok (.enter 98 args) w := enters_of Tryz.func98 (by kernel_rfl) rfl args w
theorem e_less (args : Array Value) (w : World) : (callFunc 210 args).run Tryz.prog w = .ok (.enter 210 args) w := enters_of Tryz.func210 (by kernel_rfl) rfl args w
theorem e_swap (args : Array Value) (w : World) : (callFunc 211 args).run Tryz.prog w = .ok (.enter 211 args) w := enters_of Tryz.func211 (by kernel_rfl) rfl args w
theorem e_push (args : Array Value) (w : World) : (callFunc 213 args).run Tryz.prog w = .ok (.enter 213 args) w := enters_of Tryz.func213 (by kernel_rfl) rfl args w
theorem e_pop (args : Array Value) (w : World) : (callFunc 212 args).run Tryz.prog w = .ok (.enter 212 args) w := enters_of Tryz.func212 (by kernel_rfl) rfl args w

/-- turns that can be told apart -/
def InB (d : List Pl) : Prop := ∀ p ∈ d, 0 ≤ p.n ∧ p.n < 1000000000
theorem InB.perm {d e : List Pl} (h : InB d) (p : e.Perm d) : InB e := fun x hx => h x (p.mem_iff.1 hx)
theorem Qu.cellv {w : World} {c base : Nat} {v : Value} {d : List Pl} (h : Qu w c base v d) : w.cell? ⟨c, 0, none⟩ = some v := by rw [h.row.cell]; rfl
theorem Qu.keep {w w' : World} {c base : Nat} {v : Value} {d : List Pl} (h : Qu w c base v d) {S : Nat → Prop} (o : Only S w w') (h1 : ¬ S c) (h2 : ∀ g, v.ownBlock = some g → ¬ S g) : Qu w' c base v d := ⟨o.row h.row h1, Owns.keep h.own o h2, h.low⟩
theorem Qu.still {w w' : World} {c base : Nat} {v : Value} {d : List Pl} (h : Qu w c base v d) (o : Only none_ w w') : Qu w' c base v d := h.keep o (fun s => s) (fun _ _ s => s)
/-- its row alone has turned -/
theorem Qu.rowed {w w' : World} {c base : Nat} {v : Value} {d e : List Pl} (h : Qu w c base v d) (o : Only (fun k => some k = v.ownBlock) w w') (ho : OwnsPl w' base v e) : Qu w' c base v e := ⟨o.row h.row h.ne, ho, h.low⟩

def Upped (w : World) (c base : Nat) (v : Value) (d : List Pl) (e : Ending) (w' : World) : Prop := e = .returned (.tuple #[]) ∧ ∃ d', d'.Perm d ∧ Heaped (fv d') d'.length ∧ Qu w' c base v d' ∧ Only (quB c v) w w'
set_option maxHeartbeats 1000000 in
theorem up_any {w : World} {c base : Nat} {v : Value} {d : List Pl} {j : Nat} (h : Qu w c base v d) (hj : j < d.length) (hu : UpOk (fv d) d.length j) (hb : InB d) (hl : d.length ≤ 1000) :
    Calls Tryz.prog 131 #[.iface 174 (.pointer (some ⟨c, 0, none⟩)), .int .i64 j] w (Upped w c base v d) := by
  have H := Lib.hid h
  have HU := Lib.hid hu
  have HB := Lib.hid hb
  have HJ := Lib.hid hj
  clear h hu hb hj
  go_enter Tryz.func131, Tryz.ntmps131
  go_wp2_with fail
  go_loopw [1] (fun i wr => ∃ (k : Nat) (f : List Pl), i = .int .i64 k ∧ k < f.length ∧ f.Perm d ∧ UpOk (fv f) f.length k ∧ Qu wr c base v f ∧ Only (quB c v) w wr) (fun i _ => (intOf i).toNat)
  case atStart => exact ⟨j, d, rfl, HJ.out, List.Perm.refl _, HU.out, H.out, Only.refl _ _⟩
  case round =>
    obtain ⟨k, f, rfl, hk, hp, hu, hq, ho⟩ := hrel
    have mL := m_less hq.cellv
    have eL := e_less
    have eS := e_swap
    have len := hp.length_eq
    by_cases k0 : k = 0
    · subst k0
      have HQ := Lib.hid hq
      clear hq
      go_wp2_with fail
      go_end0
      exact ⟨rfl, f, hp, up_stop hu (.inl rfl), HQ.out, ho⟩
    · obtain ⟨q, hqq⟩ : ∃ q, (k - 1) / 2 = q := ⟨_, rfl⟩
      have hqk : q < k := by omega
      obtain ⟨x, hx⟩ : ∃ x, f[k]? = some x := ⟨_, List.getElem?_eq_getElem hk⟩
      obtain ⟨y, hy⟩ : ∃ y, f[q]? = some y := ⟨_, List.getElem?_eq_getElem (by omega)⟩
      have LT := Lib.hid (lt_kv ((HB.out.perm hp) x (List.mem_of_getElem? hx)) ((HB.out.perm hp) y (List.mem_of_getElem? hy)))
      have QL := Lib.hid (qless_any hq.own hx hy (by omega))
      have HQ := Lib.hid hq
      have t1 : wrap64 (((k : Int) - 1).tdiv 2) = (q : Int) := by
        rw [Int.tdiv_eq_ediv_of_nonneg (by omega)]
        unfold wrap64
        omega
      have t2 : ((q : Int) == (k : Int)) = false := by simp; omega
      have t3 : ((k : Int) - 1).tdiv 2 = (q : Int) := by
        rw [Int.tdiv_eq_ediv_of_nonneg (by omega)]
        omega
      have t4 : ((q == k) : Bool) = false := by simp; omega
      clear hq
      cases hlt : ltP x y with
      | false =>
        rw [hlt] at QL LT
        have HS := Lib.hid (up_stop hu (.inr (by rw [hqq, fv_at hx, fv_at hy]; have := LT.out; simpa using this.symm)))
        clear hu LT hlt
        go_wp2_with fail
        (with_reducible refine (QL.out).mono ?_)
        rintro e w1 ⟨rfl, o1⟩
        have O1 := Lib.hid o1
        clear o1
        go_wp2_with fail
        go_end0
        exact ⟨rfl, f, hp, HS.out, HQ.out.still O1.out, ho.idle O1.out⟩
      | true =>
        rw [hlt] at QL LT
        have HS := Lib.hid (up_go hu (by omega) hk (by rw [hqq, fv_at hx, fv_at hy]; have := LT.out; simpa using this.symm))
        rw [hqq] at HS
        clear hu LT hlt
        go_wp2_with fail
        (with_reducible refine (QL.out).mono ?_)
        rintro e w1 ⟨rfl, o1⟩
        have O1 := Lib.hid (ho.idle o1)
        have Q1 := Lib.hid (HQ.out.still o1)
        have mS := m_swap Q1.out.cellv
        have QS := Lib.hid (qswap_any Q1.out.own hy hx (by omega))
        clear o1 mL
        go_wp2_with fail
        (with_reducible refine (QS.out).mono ?_)
        rintro e w2 ⟨rfl, o2, o3⟩
        have Q2 := Lib.hid (Q1.out.rowed o3 o2)
        have O2 := Lib.hid (O1.out.same (o3.more (fun _ _ q => Or.inr q)))
        clear o2 o3
        have FV := Lib.hid (fv_swp hy hx)
        go_wp2_with fail
        go_roundw
        case rel => exact ⟨q, swp f q k y x, rfl, by rw [swp_len]; omega, (swp_perm hy hx).trans hp, by rw [swp_len, FV.out]; exact HS.out, Q2.out, O2.out⟩
        case measure => simp [intOf]; omega
end Go.Proofs.YtfbpjobobdidiaaGreatDoor


/- A heap of places in memory: one more comes in. -/
namespace Go.Proofs.YtfbpjobobdidiaaGreatDoor
open Go.RowKit
set_option linter.unusedVariables false
set_option maxRecDepth 100000

def Pushed (w : World) (c base : Nat) (v : Value) (d : List Pl) (p : Pl) (e : Ending) (w' : World) : Prop :=
  e = .returned (.tuple #[]) ∧ ∃ v' d', d'.Perm (d ++ [p]) ∧ Heaped (fv d') d'.length ∧ Qu w' c base v' d' ∧ (∀ g, v'.ownBlock = some g → v.ownBlock = some g ∨ w.heap.size ≤ g) ∧ Only (quB c v) w w'
theorem fv_more {d : List Pl} {p : Pl} : ∀ i, i < d.length → fv (d ++ [p]) i = fv d i := fun i hi => by
  unfold fv
  rw [List.getElem?_append_left hi]
set_option maxHeartbeats 1000000 in
theorem hpush_any {w : World} {c base : Nat} {v : Value} {d : List Pl} (h : Qu w c base v d) (p : Pl) (hh : Heaped (fv d) d.length) (hb : InB (d ++ [p])) (hl : d.length < 1000) :
    Calls Tryz.prog 97 #[.iface 174 (.pointer (some ⟨c, 0, none⟩)), .iface 169 p.val] w (Pushed w c base v d p) := by
  have mP := show (method 375 174 (.pointer (some ⟨c, 0, none⟩)) "Push").run Tryz.prog w = .ok (213, .pointer (some ⟨c, 0, none⟩)) w from m_push _ w
  have eP := e_push
  have eL := e_len
  have QP := Lib.hid (qpush_any h p (by omega))
  have HU := Lib.hid (heaped_push hh (fun i hi => fv_more (p := p) i hi))
  have HB := Lib.hid hb
  have hl2 : (d ++ [p]).length = d.length + 1 := by simp
  have HL := Lib.hid hl2
  clear h hh hb
  generalize hv : p.val = pv at *
  go_enter Tryz.func97, Tryz.ntmps97
  go_wp2_with fail
  (with_reducible refine (QP.out).mono ?_)
  rintro e w1 ⟨rfl, ⟨v1, h1, l1⟩, o1⟩
  have H1 := Lib.hid h1
  have O1 := Lib.hid o1
  have L1 := Lib.hid l1
  have mL := m_len h1.cellv
  have QL := Lib.hid (qlen_any h1.own)
  rw [hl2] at QL
  have UP := Lib.hid (up_any (j := d.length) h1 (by omega) (by rw [hl2]; exact HU.out) HB.out (by omega))
  have hwi : IntKind.i64.wrap ((d.length + 1 : Nat) - 1 : Int) = (d.length : Int) := by rw [IntKind.wrap_i64]; omega
  obtain ⟨n, hn⟩ : ∃ n, d.length = n := ⟨_, rfl⟩
  rw [hn] at QL UP hwi hl
  clear h1 o1 l1 QP mP HL hl2 hn
  go_wp2_with fail
  (with_reducible refine QL.out.mono ?_)
  rintro e w' ⟨rfl, rfl⟩
  go_wp2_with fail
  (with_reducible refine UP.out.mono ?_)
  rintro e w2 ⟨rfl, d2, p2, hh2, h2, o2⟩
  have O2 := Lib.hid o2
  have H2 := Lib.hid h2
  clear o2 h2
  go_wp2_with fail
  go_end0
  exact ⟨rfl, v1, d2, p2, hh2, H2.out, L1.out, O1.out.trans O2.out (fun i hi q => by
    rcases q with q | q
    · exact .inl q
    · rcases L1.out i q.symm with k | k
      · exact .inr k.symm
      · omega)⟩
end Go.Proofs.YtfbpjobobdidiaaGreatDoor


/- A heap of places in memory: what stands at the root goes down; the first comes out. -/
namespace Go.Proofs.YtfbpjobobdidiaaGreatDoor
open Go.RowKit
set_option linter.unusedVariables false
set_option maxRecDepth 100000

def Downed (w : World) (c base : Nat) (v : Value) (d : List Pl) (n : Nat) (e : Ending) (w' : World) : Prop :=
  (∃ b, e = .returned (.bool b)) ∧ ∃ d', d'.Perm d ∧ Heaped (fv d') n ∧ (∀ m, n ≤ m → d'[m]? = d[m]?) ∧ Qu w' c base v d' ∧ Only (quB c v) w w'
set_option maxHeartbeats 4000000 in
theorem down_any {w : World} {c base n : Nat} {v : Value} {d : List Pl} (h : Qu w c base v d) (hn : n ≤ d.length) (hd : DownOk (fv d) n 0) (hb : InB d) (hl : d.length ≤ 1000) :
    Calls Tryz.prog 132 #[.iface 174 (.pointer (some ⟨c, 0, none⟩)), .int .i64 0, .int .i64 n] w (Downed w c base v d n) := by
  have H := Lib.hid h
  have HD := Lib.hid hd
  have HB := Lib.hid hb
  have n1000 : n ≤ 1000 := by omega
  clear h hd hb
  go_enter Tryz.func132, Tryz.ntmps132
  go_wp2_with fail
  go_loopw [7] (fun i wr => ∃ (k : Nat) (f : List Pl), i = .int .i64 k ∧ k ≤ 1000 ∧ f.Perm d ∧ DownOk (fv f) n k ∧ (∀ m, n ≤ m → f[m]? = d[m]?) ∧ Qu wr c base v f ∧ Only (quB c v) w wr) (fun i _ => n - (intOf i).toNat)
  case atStart => exact ⟨0, d, rfl, by omega, List.Perm.refl _, HD.out, fun _ _ => rfl, H.out, Only.refl _ _⟩
  case round =>
    obtain ⟨k, f, rfl, hk, hp, hd, hm, hq, ho⟩ := hrel
    have eL := e_less
    have eS := e_swap
    have len := hp.length_eq
    have HM := Lib.hid hm
    have HQ := Lib.hid hq
    have HBF := Lib.hid (HB.out.perm hp)
    clear hm hq H HD
    by_cases k1 : n ≤ 2 * k + 1
    · have HS := Lib.hid (down_stop hd (fun m m0 h1 h2 => by omega))
      clear hd
      have t1 : decide ((n : Int) ≤ 2 * (k : Int) + 1) = true := by simp; omega
      go_wp2_with fail
      go_ret
      exact ⟨⟨_, rfl⟩, f, hp, HS.out, HM.out, HQ.out, ho⟩
    · have t1 : decide ((n : Int) ≤ 2 * (k : Int) + 1) = false := by simp; omega
      have t2 : decide ((2 * (k : Int) + 1) < 0) = false := by simp; omega
      obtain ⟨a, ha⟩ : ∃ a, 2 * k + 1 = a := ⟨_, rfl⟩
      have ea : 2 * (k : Int) + 1 = (a : Int) := by omega
      obtain ⟨z, hz⟩ : ∃ z, f[k]? = some z := ⟨_, List.getElem?_eq_getElem (by omega)⟩
      obtain ⟨x, hx⟩ : ∃ x, f[a]? = some x := ⟨_, List.getElem?_eq_getElem (by omega)⟩
      have HZ := Lib.hid hz
      have HX := Lib.hid hx
      have BZ := Lib.hid (HBF.out z (List.mem_of_getElem? hz))
      have BX := Lib.hid (HBF.out x (List.mem_of_getElem? hx))
      have OO := Lib.hid ho
      have HDN := Lib.hid hd
      have mL := m_less HQ.out.cellv
      clear hz hx ho hd
      by_cases k2 : n ≤ a + 1
      · have t3 : decide ((a : Int) + 1 < (n : Int)) = false := by simp; omega
        have QK := Lib.hid (qless_any HQ.out.own HX.out HZ.out (by omega))
        have LK := Lib.hid (lt_kv BX.out BZ.out)
        have LEAST := Lib.hid (show ∀ m, 0 < m → m < n → (m - 1) / 2 = k → fv f a ≤ fv f m from fun m m0 h1 h2 => by
                  have : m = a := by omega
                  rw [this]; exact Int.le_refl _)
        cases hlk : ltP x z with
        | false =>
          rw [hlk] at QK LK
          have HS := Lib.hid (down_stop HDN.out (fun m m0 h1 h2 => Int.le_trans (by rw [fv_at HZ.out, fv_at HX.out]; have := LK.out; simpa using this.symm) (LEAST.out m m0 h1 h2)))
          clear hlk
          go_wp2_with fail
          (with_reducible refine (QK.out).mono ?_)
          rintro e w8 ⟨rfl, o8⟩
          go_wp2_with fail
          go_ret
          exact ⟨⟨_, rfl⟩, f, hp, HS.out, HM.out, HQ.out.still o8, OO.out.idle o8⟩
        | true =>
          rw [hlk] at QK LK
          have HS := Lib.hid (down_go HDN.out (by omega) (by omega) (by omega) (by rw [fv_at HZ.out, fv_at HX.out]; have := LK.out; simpa using this.symm) LEAST.out)
          clear hlk
          go_wp2_with fail
          (with_reducible refine (QK.out).mono ?_)
          rintro e w8 ⟨rfl, o8⟩
          have O8 := Lib.hid (OO.out.idle o8)
          have Q8 := Lib.hid (HQ.out.still o8)
          have mS := m_swap Q8.out.cellv
          have QS := Lib.hid (qswap_any Q8.out.own HZ.out HX.out (by omega))
          clear o8
          go_wp2_with fail
          (with_reducible refine (QS.out).mono ?_)
          rintro e w9 ⟨rfl, o2, o3⟩
          have Q9 := Lib.hid (Q8.out.rowed o3 o2)
          have O9 := Lib.hid (O8.out.same (o3.more (fun _ _ q => Or.inr q)))
          clear o2 o3
          have FV := Lib.hid (fv_swp HZ.out HX.out)
          go_wp2_with fail
          go_roundw
          case rel => exact ⟨a, swp f k a z x, rfl, by omega, (swp_perm HZ.out HX.out).trans hp, by rw [FV.out]; exact HS.out, fun m h1 => by rw [swp_at HZ.out HX.out, if_neg (by omega), if_neg (by omega)]; exact HM.out m h1, Q9.out, O9.out⟩
          case measure => simp [intOf]; omega
      · have t3 : decide ((a : Int) + 1 < (n : Int)) = true := by simp; omega
        obtain ⟨b, hb⟩ : ∃ b, a + 1 = b := ⟨_, rfl⟩
        have eb : (a : Int) + 1 = (b : Int) := by omega
        obtain ⟨y, hy⟩ : ∃ y, f[b]? = some y := ⟨_, List.getElem?_eq_getElem (by omega)⟩
        have HY := Lib.hid hy
        have BY := Lib.hid (HBF.out y (List.mem_of_getElem? hy))
        have QJ := Lib.hid (qless_any HQ.out.own HY.out HX.out (by omega))
        have LJ := Lib.hid (lt_kv BY.out BX.out)
        clear hy
        cases hlj : ltP y x with
        | false =>
          rw [hlj] at QJ LJ
          clear hlj
          go_wp2_with fail
          (with_reducible refine (QJ.out).mono ?_)
          rintro e w7 ⟨rfl, o7⟩
          have Q7 := Lib.hid (HQ.out.still o7)
          have O7 := Lib.hid (OO.out.idle o7)
          clear o7 mL
          have mL := m_less Q7.out.cellv
          have QK := Lib.hid (qless_any Q7.out.own HX.out HZ.out (by omega))
          have LK := Lib.hid (lt_kv BX.out BZ.out)
          have LEAST := Lib.hid (show ∀ m, 0 < m → m < n → (m - 1) / 2 = k → fv f a ≤ fv f m from fun m m0 h1 h2 => by
                      have : m = a ∨ m = b := by omega
                      rcases this with q | q
                      · rw [q]; exact Int.le_refl _
                      · rw [q, fv_at HX.out, fv_at HY.out]; have := LJ.out; simpa using this.symm)
          cases hlk : ltP x z with
          | false =>
            rw [hlk] at QK LK
            have HS := Lib.hid (down_stop HDN.out (fun m m0 h1 h2 => Int.le_trans (by rw [fv_at HZ.out, fv_at HX.out]; have := LK.out; simpa using this.symm) (LEAST.out m m0 h1 h2)))
            clear hlk
            go_wp2_with fail
            (with_reducible refine (QK.out).mono ?_)
            rintro e w8 ⟨rfl, o8⟩
            go_wp2_with fail
            go_ret
            exact ⟨⟨_, rfl⟩, f, hp, HS.out, HM.out, Q7.out.still o8, O7.out.idle o8⟩
          | true =>
            rw [hlk] at QK LK
            have HS := Lib.hid (down_go HDN.out (by omega) (by omega) (by omega) (by rw [fv_at HZ.out, fv_at HX.out]; have := LK.out; simpa using this.symm) LEAST.out)
            clear hlk
            go_wp2_with fail
            (with_reducible refine (QK.out).mono ?_)
            rintro e w8 ⟨rfl, o8⟩
            have O8 := Lib.hid (O7.out.idle o8)
            have Q8 := Lib.hid (Q7.out.still o8)
            have mS := m_swap Q8.out.cellv
            have QS := Lib.hid (qswap_any Q8.out.own HZ.out HX.out (by omega))
            clear o8
            go_wp2_with fail
            (with_reducible refine (QS.out).mono ?_)
            rintro e w9 ⟨rfl, o2, o3⟩
            have Q9 := Lib.hid (Q8.out.rowed o3 o2)
            have O9 := Lib.hid (O8.out.same (o3.more (fun _ _ q => Or.inr q)))
            clear o2 o3
            have FV := Lib.hid (fv_swp HZ.out HX.out)
            go_wp2_with fail
            go_roundw
            case rel => exact ⟨a, swp f k a z x, rfl, by omega, (swp_perm HZ.out HX.out).trans hp, by rw [FV.out]; exact HS.out, fun m h1 => by rw [swp_at HZ.out HX.out, if_neg (by omega), if_neg (by omega)]; exact HM.out m h1, Q9.out, O9.out⟩
            case measure => simp [intOf]; omega
        | true =>
          rw [hlj] at QJ LJ
          clear hlj
          go_wp2_with fail
          (with_reducible refine (QJ.out).mono ?_)
          rintro e w7 ⟨rfl, o7⟩
          have Q7 := Lib.hid (HQ.out.still o7)
          have O7 := Lib.hid (OO.out.idle o7)
          clear o7 mL
          have mL := m_less Q7.out.cellv
          have QK := Lib.hid (qless_any Q7.out.own HY.out HZ.out (by omega))
          have LK := Lib.hid (lt_kv BY.out BZ.out)
          have LEAST := Lib.hid (show ∀ m, 0 < m → m < n → (m - 1) / 2 = k → fv f b ≤ fv f m from fun m m0 h1 h2 => by
                      have : m = a ∨ m = b := by omega
                      rcases this with q | q
                      · rw [q, fv_at HX.out, fv_at HY.out]; have := LJ.out; have : kv y < kv x := by simpa using this.symm
                        omega
                      · rw [q]; exact Int.le_refl _)
          cases hlk : ltP y z with
          | false =>
            rw [hlk] at QK LK
            have HS := Lib.hid (down_stop HDN.out (fun m m0 h1 h2 => Int.le_trans (by rw [fv_at HZ.out, fv_at HY.out]; have := LK.out; simpa using this.symm) (LEAST.out m m0 h1 h2)))
            clear hlk
            go_wp2_with fail
            (with_reducible refine (QK.out).mono ?_)
            rintro e w8 ⟨rfl, o8⟩
            go_wp2_with fail
            go_ret
            exact ⟨⟨_, rfl⟩, f, hp, HS.out, HM.out, Q7.out.still o8, O7.out.idle o8⟩
          | true =>
            rw [hlk] at QK LK
            have HS := Lib.hid (down_go HDN.out (by omega) (by omega) (by omega) (by rw [fv_at HZ.out, fv_at HY.out]; have := LK.out; simpa using this.symm) LEAST.out)
            clear hlk
            go_wp2_with fail
            (with_reducible refine (QK.out).mono ?_)
            rintro e w8 ⟨rfl, o8⟩
            have O8 := Lib.hid (O7.out.idle o8)
            have Q8 := Lib.hid (Q7.out.still o8)
            have mS := m_swap Q8.out.cellv
            have QS := Lib.hid (qswap_any Q8.out.own HZ.out HY.out (by omega))
            clear o8
            go_wp2_with fail
            (with_reducible refine (QS.out).mono ?_)
            rintro e w9 ⟨rfl, o2, o3⟩
            have Q9 := Lib.hid (Q8.out.rowed o3 o2)
            have O9 := Lib.hid (O8.out.same (o3.more (fun _ _ q => Or.inr q)))
            clear o2 o3
            have FV := Lib.hid (fv_swp HZ.out HY.out)
            go_wp2_with fail
            go_roundw
            case rel => exact ⟨b, swp f k b z y, rfl, by omega, (swp_perm HZ.out HY.out).trans hp, by rw [FV.out]; exact HS.out, fun m h1 => by rw [swp_at HZ.out HY.out, if_neg (by omega), if_neg (by omega)]; exact HM.out m h1, Q9.out, O9.out⟩
            case measure => simp [intOf]; omega
end Go.Proofs.YtfbpjobobdidiaaGreatDoor


/- A heap of places in memory: the first comes out. -/
namespace Go.Proofs.YtfbpjobobdidiaaGreatDoor
open Go.RowKit
set_option linter.unusedVariables false
set_option maxRecDepth 100000

def Popped (w : World) (c base : Nat) (v : Value) (d : List Pl) (x : Pl) (e : Ending) (w' : World) : Prop :=
  e = .returned (.iface 169 x.val) ∧ ∃ v' d', (d' ++ [x]).Perm d ∧ Heaped (fv d') d'.length ∧ Qu w' c base v' d' ∧ Only (quB c v) w w'
theorem list_last {f : List Pl} {n : Nat} {x : Pl} (hl : f.length = n + 1) (hx : f[n]? = some x) : f = f.take n ++ [x] := by
  have h1 : f = f.take n ++ f.drop n := (List.take_append_drop n f).symm
  have h2 : f.drop n = [x] := by
    rw [List.drop_eq_getElem_cons (by omega), List.drop_of_length_le (by omega)]
    rw [List.getElem?_eq_getElem (by omega)] at hx
    rw [Option.some.inj hx]
  rw [h2] at h1
  exact h1
set_option maxHeartbeats 2000000 in
theorem hpop_any {w : World} {c base n : Nat} {v : Value} {d : List Pl} {x : Pl} (h : Qu w c base v d) (hl : d.length = n + 1) (hx : d[0]? = some x) (hh : Heaped (fv d) d.length) (hb : InB d) (hn : n < 1000) :
    Calls Tryz.prog 99 #[.iface 174 (.pointer (some ⟨c, 0, none⟩))] w (Popped w c base v d x) := by
  have eL := e_len
  have eS := e_swap
  have eP := e_pop
  have mL := m_len h.cellv
  have mS := m_swap h.cellv
  have QL := Lib.hid (qlen_any h.own)
  obtain ⟨y, hy⟩ : ∃ y, d[n]? = some y := ⟨_, List.getElem?_eq_getElem (by omega)⟩
  have QS := Lib.hid (show Calls Tryz.prog 211 #[v, .int .i64 0, .int .i64 n] w _ from qswap_any (i := 0) h.own hx hy (by omega))
  rw [hl] at QL
  have H := Lib.hid h
  have P1 := Lib.hid (swp_perm hx hy)
  have L1 := Lib.hid (show (swp d 0 n x y).length = n + 1 by rw [swp_len, hl])
  have A1 := Lib.hid (show (swp d 0 n x y)[n]? = some x by rw [swp_at hx hy, if_pos rfl])
  have D1 := Lib.hid (show DownOk (fv (swp d 0 n x y)) n 0 from heaped_root (f := fv d) (by rw [← hl]; exact hh) (fun i h1 h2 => by unfold fv; rw [swp_at hx hy, if_neg (by omega), if_neg (by omega)]))
  have HB := Lib.hid (hb.perm P1.out)
  have hwi : IntKind.i64.wrap ((n + 1 : Nat) - 1 : Int) = (n : Int) := by rw [IntKind.wrap_i64]; omega
  clear h hl hx hy hh hb
  go_enter Tryz.func99, Tryz.ntmps99
  go_wp2_with fail
  (with_reducible refine QL.out.mono ?_)
  rintro e w' ⟨rfl, rfl⟩
  go_wp2_with fail
  (with_reducible refine QS.out.mono ?_)
  rintro e w1 ⟨rfl, o2, o3⟩
  have Q1 := Lib.hid (H.out.rowed o3 o2)
  have O1 := Lib.hid (show Only (quB c v) w w1 from o3.more (fun _ _ q => Or.inr q))
  have DN := Lib.hid (down_any Q1.out (by have := L1.out; omega) D1.out HB.out (by have := L1.out; omega))
  clear o2 o3 mL mS QL QS
  go_wp2_with fail
  (with_reducible refine DN.out.mono ?_)
  rintro e w2 ⟨⟨b, rfl⟩, f, hp, hh, hm, h2, o2⟩
  have lf : f.length = n + 1 := by rw [hp.length_eq]; exact L1.out
  have fx : f[n]? = some x := by rw [hm n (Nat.le_refl _)]; exact A1.out
  have EF := Lib.hid (list_last lf fx)
  have tl : (f.take n).length = n := by rw [List.length_take]; omega
  have HP := Lib.hid (hp.trans P1.out)
  have HH := Lib.hid (heaped_less hh (Nat.le_refl _) (g := fv (f.take n)) (fun i hi => by unfold fv; rw [List.getElem?_take_of_lt hi]))
  have O2 := Lib.hid (O1.out.same o2)
  have QP := Lib.hid (qpop_any (d := f.take n) (p := x) (by rw [← EF.out]; exact h2) (by omega))
  have mP := show (method 375 174 (.pointer (some ⟨c, 0, none⟩)) "Pop").run Tryz.prog w2 = .ok (212, .pointer (some ⟨c, 0, none⟩)) w2 from m_pop _ w2
  have TL := Lib.hid tl
  clear hp hh hm h2 o2 lf fx tl
  generalize hv : x.val = pv at *
  go_wp2_with fail
  (with_reducible refine QP.out.mono ?_)
  rintro e w3 ⟨rfl, ⟨v3, h3⟩, o3⟩
  have H3 := Lib.hid h3
  have O3 := Lib.hid o3
  clear h3 o3
  go_wp2_with fail
  go_ret
  exact ⟨by rw [hv]; rfl, v3, f.take n, by rw [← EF.out]; exact HP.out, by rw [TL.out]; exact HH.out, H3.out, O2.out.same O3.out⟩
end Go.Proofs.YtfbpjobobdidiaaGreatDoor


/- Turns in memory: all that wait come out of a heap. -/
namespace Go.Proofs.YtfbpjobobdidiaaGreatDoor
open Go.RowKit Go.Maps
set_option linter.unusedVariables false
set_option maxRecDepth 100000

/-- append of one element, which lies at the head of a block: just the slice's own row may turn -/
theorem wpList_append_one8 {α : Type} {P : Program} {w : World} {ops : Array Oper} {rest : List Oper} {o : Oper} {a : Act} {Q : Exit → Act → World → Prop} (hgd : o.guard = none) (s x : Operand) (t : TypeId)
    (ho : o.op = .call { callee := .builtin .append, args := #[s, x], argTypes := #[t, t] })
    {base : Nat} {e : TypeId} {k : Nat} {c : α → List Value} (i : TypeInfo) (z : Value) (bytes : Nat) (ht : P.underlying t = some (.slice e)) (hi : P.info? e = some i) (hz : i.zero = some z)
    (hsize : i.size = k) (hby : i.bytes = bytes) (hzs : z.cells.size = k) (hk0 : 0 < k) (hk : ∀ y, (c y).length = k) (h1 : ∀ y, ∀ u ∈ c y, u.oneCell' = true)
    {v : Value} {xs : List α} (hs : a.eval s = v) (hown : Owns w base e k c v xs)
    {g cc : Nat} {y : α} (hx : a.eval x = .slice (some ⟨g, 0, none⟩) 1 cc) (hrow : Row w g e (c y).toArray)
    (hlen : xs.length < 9223372036854775807) (hbytes : (xs.length + 1) * bytes ≤ 140737488355328) (hbase : base ≤ w.heap.size)
    (h : ∀ v' w', Owns w' base e k c v' (xs ++ [y]) → Only (fun j => some j = v.ownBlock) w w' → wpList P ops Q rest (a.put o.dst v') w') : wpList P ops Q (o :: rest) a w := by
  refine wpList_append_own w hgd s x t ho base e i z k bytes ht hi hz hsize hby hzs hk0 v xs.length (xs.flatMap c) hs hown ⟨g, 0, none⟩ 1 cc (c y) hx (by rw [hk]; omega) ?_ (h1 y) (by unfold maxLen; omega) hbytes hbase ?_
  · intro j u hj
    rw [add12, Nat.zero_add, hrow.cell, List.getElem?_toArray]
    exact hj
  · intro v' w' h2 h3 _
    refine h v' w' ?_ (Only.of_grown h3)
    unfold Owns
    rw [List.flatMap_append, List.length_append]
    simpa using h2
theorem own_notMap {α : Type} {w : World} {base : Nat} {e : TypeId} {k : Nat} {c : α → List Value} {v : Value} {xs : List α} (h : Owns w base e k c v xs) {b n : Nat} {D : DataW Unit} (o : w.ownsMap Tryz.prog 3 plElem b n D) : some b ≠ v.ownBlock := by
  intro q
  obtain ⟨es, clock, hb, _⟩ := o
  rcases h.2 with ⟨rfl, _⟩ | ⟨g, cap, cur, rfl, _, hg, _⟩
  · cases q
  · have : b = g := by simpa [Value.ownBlock] using q
    subst this
    rw [hb] at hg
    cases hg
theorem own_notIter {α : Type} {w : World} {base : Nat} {e : TypeId} {k : Nat} {c : α → List Value} {v : Value} {xs : List α} (h : Owns w base e k c v xs) {b r n cnt : Nat} {D : DataW Unit} {left : Lit → Bool} (o : w.ranges Tryz.prog 3 plElem b r n D left cnt) : some r ≠ v.ownBlock := by
  intro q
  obtain ⟨_, _, _, _, _, _, _, _, _, hit, _⟩ := o
  rcases h.2 with ⟨rfl, _⟩ | ⟨g, cap, cur, rfl, _, hg, _⟩
  · cases q
  · have : r = g := by simpa [Value.ownBlock] using q
    subst this
    rw [hit] at hg
    cases hg
theorem row_notIter {w : World} {c : Nat} {t : TypeId} {cs : Array Value} (h : Row w c t cs) {b r n cnt : Nat} {D : DataW Unit} {left : Lit → Bool} (o : w.ranges Tryz.prog 3 plElem b r n D left cnt) : r ≠ c ∧ b ≠ c := by
  obtain ⟨_, _, _, _, _, hb, _, _, _, hit, _⟩ := o
  unfold Row at h
  constructor
  · rintro rfl; rw [h] at hit; cases hit
  · rintro rfl; rw [h] at hb; cases hb
/-- slices of different elements lie apart -/
theorem own_apart {α β : Type} {w : World} {base base' : Nat} {e e' : TypeId} {k k' : Nat} {c : α → List Value} {c' : β → List Value} {v v' : Value} {xs : List α} {ys : List β} (h : Owns w base e k c v xs) (h' : Owns w base' e' k' c' v' ys) (ne : e ≠ e') (g : Nat) (hg : v.ownBlock = some g) : v'.ownBlock ≠ some g := by
  intro q
  rcases h.2 with ⟨rfl, _⟩ | ⟨g1, cap, cur, rfl, _, h1, _⟩
  · cases hg
  · rcases h'.2 with ⟨rfl, _⟩ | ⟨g2, cap', cur', rfl, _, h2, _⟩
    · cases q
    · have e1 : g1 = g := by simpa [Value.ownBlock] using hg
      have e2 : g2 = g := by simpa [Value.ownBlock] using q
      subst e1 e2
      rw [h1] at h2
      injection h2 with h2
      injection h2 with _ h2
      exact ne h2
theorem own_row {α : Type} {w : World} {base c : Nat} {e t : TypeId} {k : Nat} {f : α → List Value} {v : Value} {xs : List α} {cs : Array Value} (h : Owns w base e k f v xs) (r : Row w c t cs) (ne : e ≠ t) : some c ≠ v.ownBlock := by
  intro q
  rcases h.2 with ⟨rfl, _⟩ | ⟨g1, cap, cur, rfl, _, h1, _⟩
  · cases q
  · have e1 : c = g1 := by simpa [Value.ownBlock] using q
    subst e1
    unfold Row at r
    rw [r] at h1
    injection h1 with h1
    injection h1 with _ h1
    exact ne h1.symm
theorem run_field_k (k n : Int) (a s : Bool) (w : World) : (Instr.field 169 (.agg #[.int .i64 k, .bool a, .int .i64 n, .bool s]) 0).run Tryz.prog w = .ok (.int .i64 k) w := by kernel_rfl
def lenV : Value → Nat
  | .slice _ n _ => n
  | _ => 0
theorem own_len12 {w : World} {base : Nat} {v : Value} {l : List Int} (h : OwnsInts w base v l) : ∃ a c, v = .slice a l.length c := by
  rcases h.2 with ⟨h0, h2⟩ | ⟨g, cap, cur, hv, _⟩
  · exact ⟨none, 0, by rw [h0, h2]⟩
  · exact ⟨_, _, hv⟩
theorem own_lenV {w : World} {base : Nat} {v : Value} {l : List Int} (h : OwnsInts w base v l) : lenV v = l.length := by
  obtain ⟨a, c, rfl⟩ := own_len12 h
  rfl
/-- a slice of integers, told in new memory -/
def Told12 (xs : List Int) (w : World) (e : Ending) (w' : World) : Prop := ∃ a cap, e = .returned (.slice a xs.length cap) ∧ OwnsInts w' w.heap.size (.slice a xs.length cap) xs ∧ Only none_ w w'
theorem filt_more {xs : List Pl} {q : Pl} (h : q.s = true) : (xs ++ [q]).filter (·.s) = xs.filter (·.s) ++ [q] := by
  rw [List.filter_append]
  simp [h]
theorem filt_less {xs : List Pl} {q : Pl} (h : q.s = false) : (xs ++ [q]).filter (·.s) = xs.filter (·.s) := by
  rw [List.filter_append]
  simp [h]

set_option maxHeartbeats 4000000 in
theorem twaiting_any {p b nd na L : Nat} {ps : List Pl} (w : World) (h : TnAt w p b nd na L ps) (hL : L < 100000000) :
    Calls Tryz.prog 56 #[.pointer (some ⟨p, 0, none⟩)] w (Told12 (waitL (ps.map Pl.sl)) w) := by
  have c2 : w.cell? ⟨p, 2, none⟩ = some (.map (some b)) := by rw [h.row.cell]; rfl
  have lp := h.row.lt
  have LE := h.len
  have PB := Lib.hid (show ∀ q ∈ ps, 0 ≤ q.n ∧ q.n < 1000000000 from fun q hq => by have := h.top q hq; omega)
  have RSE := Lib.hid h.rise
  have OC := Lib.hid h.once
  obtain ⟨D0, hown, hr0⟩ := h.md
  have HR := Lib.hid hr0
  have lb := hown.lt
  have o1 := (Only.refl none_ w).alloc (.cells #[.slice none 0 0] 172)
  have O1 := Lib.hid o1
  have OW := Lib.hid (owns_keep12 hown o1 (fun s => s))
  have Q0 := Lib.hid (show Qu (w.alloc (.cells #[.slice none 0 0] 172)) w.heap.size w.heap.size (.slice none 0 0) [] from ⟨Row.fresh _ _ _, Owns.start _ _ _ _ _, Nat.le_refl _⟩)
  have SZ := Lib.hid (show (w.alloc (.cells #[.slice none 0 0] 172)).heap.size = w.heap.size + 1 by simp)
  rw [wait_sl]
  have c2' : (w.alloc (.cells #[.slice none 0 0] 172)).cell? ⟨p, 2, none⟩ = some (.map (some b)) := o1.cell c2 (fun s => s)
  clear h hown hr0 o1
  generalize hW : w.alloc (.cells #[.slice none 0 0] 172) = W at *
  go_enter Tryz.func56, Tryz.ntmps56
  go_wp2_with (first
    | (at_range; refine wpList_range_own _ rfl _ 145 rfl 3 169 lawI12 Tryz.underlying145 _ b ps.length D0 rfl (by first | exact OW.out | (rw [hW]; exact OW.out)) ?_; intro w0 hrg0 hg0 hs0)
    | go_in)
  have RG0 := Lib.hid hrg0
  have G0 := Lib.hid (show Only none_ W w0 from (Only.of_grown hg0).more (fun _ _ e => by cases e))
  clear hrg0 hg0 hs0
  go_frame
  go_loopw [12] (fun _ wr => ∃ (left : Lit → Bool) (cnt : Nat) (xs d : List Pl) (v : Value), wr.ranges Tryz.prog 3 plElem b W.heap.size ps.length D0 left cnt ∧ Got12 ps left xs ∧ d.Perm (xs.filter (·.s)) ∧ Heaped (fv d) d.length ∧ Qu wr w.heap.size w.heap.size v d ∧ Only none_ w wr)
    (fun _ wr => wr.rangeLeft b W.heap.size)
  case atStart =>
    exact ⟨_, _, [], [], _, RG0.out, Got12.start HR.out, List.Perm.refl _, fun i h0 h1 => absurd h1 (Nat.not_lt_zero _), Q0.out.still G0.out, O1.out.same G0.out⟩
  case round =>
    obtain ⟨left, cnt, xs, d, v, hrg, hg, hp, hh, hq, ow⟩ := hrel
    have RG := Lib.hid hrg
    have GO := Lib.hid hg
    have OO := Lib.hid ow
    have PP := Lib.hid hp
    have HH := Lib.hid hh
    have QU := Lib.hid hq
    have l1 := List.length_filter_le (fun q : Pl => q.s) xs
    have xl := hg.len
    have dl := hp.length_eq
    clear hrg ow hg hp hh hq
    go_wp2_with (first
      | (at_next; refine wpList_next_ranges _ rfl _ rfl 3 lawI12 plElem (Value.int .i64) plVal (fun key kl hkey => by obtain ⟨x, rfl, _⟩ := Maps.keyOf_int_inv Tryz.underlying3 hkey; exact ⟨x, rfl⟩) (fun v y hv => by obtain ⟨q, rfl, _⟩ := plElem_inv hv; exact ⟨q, rfl⟩) b W.heap.size ps.length _ _ _ rfl RG.out ?_ ?_)
      | go_in)
    · intro _ hl0
      have OV := Lib.hid (wait_perm RSE.out PB.out (GO.out.over OC.out hl0))
      have RSW := Lib.hid (wait_rise RSE.out PB.out)
      have TL := Lib.hid (Nat.le_trans (wait_len ps) LE)
      have TB := Lib.hid (show InB (waitP ps) from fun q hq => PB.out q (wait_mem.1 hq).1)
      generalize hT : waitP ps = tt at *
      have HT := Lib.hid hT
      clear hT
      have PT := Lib.hid (PP.out.trans OV.out)
      clear hl0 OV PP GO RG l1 xl dl
      obtain ⟨i0, hi0, hz0, hz1, hz2⟩ := info_parts info_int8
      have I0 := Lib.hid hi0
      have I1 := Lib.hid hz0
      have I2 := Lib.hid hz1
      have I3 := Lib.hid hz2
      clear hi0 hz0 hz1 hz2
      go_wp2_with fail
      go_loopw [6] (fun tv wr => ∃ (r : Nat) (d : List Pl) (v : Value), r + d.length = tt.length ∧ OwnsInts wr w.heap.size tv ((tt.take r).map (·.k)) ∧ d.Perm (tt.drop r) ∧ Heaped (fv d) d.length ∧ Qu wr w.heap.size w.heap.size v d ∧ Only none_ w wr) (fun tv _ => tt.length - lenV tv)
      case atStart => exact ⟨0, d, v, by rw [Nat.zero_add]; exact PT.out.length_eq, Owns.start _ _ _ _ _, PT.out, HH.out, QU.out, OO.out⟩
      case round =>
        obtain ⟨r, f, u, hl, ho, hp, hh, hq, ow⟩ := hrel
        clear HH QU PT OO
        have q0 := hq.cellv
        have QL := Lib.hid (qlen_any hq.own)
        have HO := Lib.hid ho
        have HQ := Lib.hid hq
        have OO := Lib.hid ow
        have PF := Lib.hid hp
        have HF := Lib.hid hh
        have LV := Lib.hid (own_lenV ho)
        have HL := Lib.hid hl
        clear ho hq ow hp hh
        cases hn : f.length with
        | zero =>
          have ET := Lib.hid (show tt.take r = tt from List.take_of_length_le (by omega))
          rw [hn] at QL
          have HO2 := HO.out
          rw [ET.out] at HO2
          obtain ⟨a, cap, rfl⟩ := own_len12 HO2
          have HO2 := Lib.hid HO2
          rw [List.length_map] at HO2
          clear HO LV
          rw [List.length_map]
          go_wp2_with fail
          (with_reducible refine QL.out.mono ?_)
          rintro e w' ⟨rfl, rfl⟩
          go_wp2_with fail
          go_ret
          show Told12 _ w _ _
          rw [HT.out]
          refine ⟨a, cap, by rw [List.length_map]; rfl, by rw [List.length_map]; exact HO2.out, OO.out⟩
        | succ n =>
          obtain ⟨x, hx⟩ : ∃ x, f[0]? = some x := ⟨_, List.getElem?_eq_getElem (by omega)⟩
          obtain ⟨t, ht⟩ : ∃ t, tt[r]? = some t := ⟨_, List.getElem?_eq_getElem (by omega)⟩
          have hd : tt.drop r = t :: tt.drop (r + 1) := by
            have hr := lt_of_get ht
            rw [List.getElem?_eq_getElem hr] at ht
            rw [List.drop_eq_getElem_cons hr, Option.some.inj ht]
          have hp := PF.out
          rw [hd] at hp
          have XT := Lib.hid (least_first hp (by have := RSW.out.drop (i := r); rw [hd] at this; exact this) HF.out hx)
          have PF2 := Lib.hid hp
          have IB := Lib.hid (show InB f from fun z hz => TB.out z (List.mem_of_mem_drop (PF.out.mem_iff.1 hz)))
          have POP := hpop_any HQ.out hn hx HF.out IB.out (by have := TL.out; omega)
          have ra := run_assert_place x.k x.n x.a x.s
          have rf := run_field_k x.k x.n x.a x.s
          have TK := Lib.hid (show (tt.take (r + 1)).map (·.k) = (tt.take r).map (·.k) ++ [x.k] from by rw [XT.out, List.take_add_one, ht]; simp)
          unfold Popped Pl.val at POP
          have POP := Lib.hid POP
          have l1 := Lib.hid (show ((tt.take r).map (·.k)).length < 9223372036854775807 from by have := TL.out; rw [List.length_map, List.length_take]; omega)
          have l2 := Lib.hid (show (((tt.take r).map (·.k)).length + 1) * 8 ≤ 140737488355328 from by have := TL.out; rw [List.length_map, List.length_take]; omega)
          have TR := Lib.hid (show ((tt.take r).map (·.k)).length = r ∧ ((tt.take (r + 1)).map (·.k)).length = r + 1 from by rw [List.length_map, List.length_take, List.length_map, List.length_take]; omega)
          have HN := Lib.hid hn
          have RT := Lib.hid (lt_of_get ht)
          rw [hn] at QL
          have dn : decide ((0 : Int) < ((n + 1 : Nat) : Int)) = true := by simp
          clear hx ht hd hp hl hn
          go_wp2_with fail
          (with_reducible refine QL.out.mono ?_)
          rintro e w' ⟨rfl, rfl⟩
          go_wp2_with fail
          (with_reducible refine POP.out.mono ?_)
          rintro e w3 ⟨rfl, u3, f3, p3, hh3, h3, o3⟩
          have H3 := Lib.hid h3
          have P3 := Lib.hid (perm_last PF2.out p3 XT.out)
          have HH3 := Lib.hid hh3
          have L3 := Lib.hid (show f3.length = n from by have := p3.length_eq; rw [List.length_append, HN.out] at this; simpa using this)
          have HO3 := Lib.hid (HO.out.keep o3 (fun g hg z => z.elim (fun z => own_row HO.out HQ.out.row (by decide) (by rw [← z, hg])) (fun z => own_apart HO.out HQ.out.own (by decide) g hg z.symm)))
          have O3 := Lib.hid (OO.out.trans o3 (fun i hi z => by
            rcases z with z | z
            · omega
            · have := (Owns.base_le HQ.out.own z.symm).1; omega))
          clear p3 hh3 h3 o3
          have oa := (Only.refl none_ w3).alloc (.cells #[.int .i64 x.k] 3)
          have OA := Lib.hid oa
          have RF := Lib.hid (Row.fresh w3 3 #[.int .i64 x.k])
          have HO4 := Lib.hid (HO3.out.still oa)
          have H4 := Lib.hid (H3.out.still oa)
          have O4 := Lib.hid (O3.out.idle oa)
          have sz : w.heap.size ≤ (w3.alloc (.cells #[.int .i64 x.k] 3)).heap.size := O4.out.size
          clear oa
          go_wp2_with (first
            | (at_builtin; go_loud (refine wpList_append_one8 rfl (.tmp 25) (.tmp 30) 44 rfl (c := one) i0 _ 8 Tryz.underlying44 I0.out I1.out I2.out I3.out rfl (by decide) one1 one_one rfl HO4.out (y := x.k) rfl RF.out l1.out l2.out sz ?_; intro v5 w5 hown5 hO5))
            | go_in)
          have H5 := Lib.hid (H4.out.keep hO5 (fun z => own_row HO4.out H4.out.row (by decide) z) (fun g hg z => own_apart HO4.out H4.out.own (by decide) g z.symm hg))
          have O5 := Lib.hid (O4.out.trans hO5 (fun i hi z => by have := (Owns.base_le HO4.out z.symm).1; omega))
          rw [← TK.out] at hown5
          have W5 := Lib.hid hown5
          clear hown5 hO5
          go_wp2_with fail
          go_roundw
          case rel => exact ⟨r + 1, f3, u3, by have := HL.out; have := HN.out; have := L3.out; omega, W5.out, P3.out, HH3.out, H5.out, O5.out⟩
          case measure =>
            rw [own_lenV W5.out, LV.out, TR.out.1, TR.out.2]
            have := RT.out
            omega
    · intro x q kl y zs w1 cnt1 hkey hlx hq hat hrg1 hlt hg1 hs1 hen
      obtain ⟨x', ex, rfl, hwx⟩ := Maps.keyOf_int_inv Tryz.underlying3 hkey
      cases ex
      rw [plElem_mk] at hq
      injection hq with hq
      injection hq with hq1 hq2
      subst hq1 hq2
      obtain ⟨qm, rfl⟩ := entry_of12 HR.out hat
      have G1 := Lib.hid (Only.of_grown hg1)
      have sz := SZ.out
      have O3 := Lib.hid (OO.out.trans G1.out (fun i hi z => by have := Option.some.inj z; omega))
      have GS := Lib.hid (GO.out.step OC.out qm hlx)
      have RA := Lib.hid (World.ranges.alloc (o := .cells #[.int .i64 q.k, .bool q.a, .int .i64 q.n, .bool q.s] 169) (show w1.ranges Tryz.prog 3 plElem b W.heap.size ps.length D0 (strike12 left q.k) cnt1 from hrg1))
      have ni := row_notIter QU.out.row RG.out
      have nv := own_notIter QU.out.own RG.out
      have nb := own_notMap QU.out.own RG.out.owns
      have Q1 := Lib.hid (QU.out.keep G1.out (fun z => ni.1 (Option.some.inj z).symm) (fun g hg z => nv (by rw [← z, hg])))
      have Q2 := Lib.hid (Q1.out.still ((Only.refl none_ w1).alloc (.cells #[.int .i64 q.k, .bool q.a, .int .i64 q.n, .bool q.s] 169)))
      have O4 := Lib.hid (O3.out.alloc (.cells #[.int .i64 q.k, .bool q.a, .int .i64 q.n, .bool q.s] 169))
      have NI := Lib.hid (show ¬ quB w.heap.size v b ∧ ¬ quB w.heap.size v W.heap.size from ⟨fun z => z.elim (fun z => ni.2 z) (fun z => nb z), fun z => z.elim (fun z => ni.1 z) (fun z => nv z)⟩)
      unfold plVal at hen ⊢
      clear hkey hat hrg1 hg1 hs1 hlx ni nv nb sz
      cases ha : q.s with
      | false =>
        rw [ha] at hen RA Q2 O4
        have FM := Lib.hid (filt_less (xs := xs) ha)
        go_wp2_with fail
        go_roundw
        case rel => exact ⟨strike12 left q.k, cnt1, xs ++ [q], d, v, RA.out, GS.out, by rw [FM.out]; exact PP.out, HH.out, Q2.out, O4.out⟩
        case measure => rw [World.ranges.left_eq RA.out, RG.out.left_eq]; exact hlt
      | true =>
        rw [ha] at hen RA Q2 O4
        have FM := Lib.hid (filt_more (xs := xs) ha)
        have IB := Lib.hid (show InB (d ++ [q]) from fun z hz => by
          rcases List.mem_append.1 hz with hz | hz
          · exact PB.out z ((GO.out.2 z).1 (List.mem_filter.1 (PP.out.mem_iff.1 hz)).1).1
          · rw [List.mem_singleton.1 hz]; exact PB.out q qm)
        have HP := hpush_any Q2.out q HH.out IB.out (by omega)
        unfold Pl.val at HP
        rw [ha] at HP
        have HP := Lib.hid HP
        go_wp2_with fail
        (with_reducible refine HP.out.mono ?_)
        rintro e w4 ⟨rfl, v4, d4, p4, hh4, h4, l4, o4⟩
        have R4 := Lib.hid (ranges_keep12 RA.out o4 NI.out.1 NI.out.2)
        have O5 := Lib.hid (O4.out.trans o4 (fun i hi z => by
          rcases z with z | z
          · omega
          · have := (Owns.base_le Q2.out.own z.symm).1; omega))
        have P4 := Lib.hid (p4.trans (PP.out.append_right [q]))
        have Q4 := Lib.hid h4
        have H4 := Lib.hid hh4
        clear o4 p4 h4 l4 hh4
        go_wp2_with fail
        go_roundw
        case rel => exact ⟨strike12 left q.k, cnt1, xs ++ [q], d4, v4, R4.out, GS.out, by rw [FM.out]; exact P4.out, H4.out, Q4.out, O5.out⟩
        case measure => rw [World.ranges.left_eq R4.out, RG.out.left_eq]; exact hlt
end Go.Proofs.YtfbpjobobdidiaaGreatDoor


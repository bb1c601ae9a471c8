/- A shelf and the document's own, beside each other; a step on both. -/
import Derived.Test.YtgbccaplmafgkaaActs6
import Derived.Deep.RegionHeld3
namespace Go.Proofs.Ytgbccaplmafgkaa
open Go.RowKit
set_option linter.unusedVariables false

def Act1.agg (a : Act1) : Value := .agg #[.int .i64 a.kind, .int .i64 a.list, .int .i64 a.node]
def stepS (s : Sh) (a : Act1) : Sh :=
  if a.kind = 0 then s.frontS a.list a.node else if a.kind = 1 then s.dropS a.node else if a.kind = 2 then s.holdS a.node true else if a.kind = 3 then s.holdS a.node false else s
theorem stepS_fine {s : Sh} (f : s.Fine) (a : Act1) : (stepS s a).Fine := by
  unfold stepS
  split
  · exact f.frontS _ _
  · split
    · exact f.dropS _
    · split
      · exact f.holdS _ _
      · split
        · exact f.holdS _ _
        · exact f
theorem frontS_n (s : Sh) (k i : Int) : (s.frontS k i).n = s.n ∧ (s.frontS k i).bot = s.bot := by
  unfold Sh.frontS
  split
  · unfold Sh.front; split <;> exact ⟨rfl, rfl⟩
  · exact ⟨rfl, rfl⟩
theorem stepS_n (s : Sh) (a : Act1) : (stepS s a).n = s.n ∧ (stepS s a).bot = s.bot := by
  unfold stepS
  split
  · exact frontS_n s _ _
  · split
    · unfold Sh.dropS; split <;> exact ⟨rfl, rfl⟩
    · split
      · unfold Sh.holdS; split <;> exact ⟨rfl, rfl⟩
      · split
        · unfold Sh.holdS; split <;> exact ⟨rfl, rfl⟩
        · exact ⟨rfl, rfl⟩

structure Both (w : World) (p b q hb base : Nat) (s r : Sh) : Prop where
  one : Lies w p b s
  two : RSh w q hb base r
  pq : p ≠ q
  ph : p ≠ hb
  bq : b ≠ q
  bh : b ≠ hb
  bb : b < base
def two_ (q hb : Nat) : Nat → Prop := fun k => k = q ∨ k = hb
def three_ (b q hb : Nat) : Nat → Prop := fun k => k = b ∨ k = q ∨ k = hb
theorem Both.still {w w' : World} {p b q hb base : Nat} {s r : Sh} (h : Both w p b q hb base s r) (o : Only none_ w w') : Both w' p b q hb base s r := ⟨h.one.still o, h.two.still o, h.pq, h.ph, h.bq, h.bh, h.bb⟩
theorem Both.first {w w' : World} {p b q hb base : Nat} {s r s' : Sh} (h : Both w p b q hb base s r) (k : Lies w' p b s') (o : Only (fun k => k = b) w w') : Both w' p b q hb base s' r :=
  ⟨k, h.two.keep o (fun e => h.bq e.symm) (fun e => h.bh e.symm) (fun g hg e => by have := h.bb; omega), h.pq, h.ph, h.bq, h.bh, h.bb⟩
theorem Both.second {w w' : World} {p b q hb base : Nat} {s r r' : Sh} (h : Both w p b q hb base s r) (k : RSh w' q hb base r') (o : Only (two_ q hb) w w') : Both w' p b q hb base s r' :=
  ⟨h.one.keep o (fun e => e.elim h.pq h.ph) (fun e => e.elim h.bq h.bh), k, h.pq, h.ph, h.bq, h.bh, h.bb⟩

/-- a step's end -/
def Stepped (p b q hb base : Nat) (s r s' r' : Sh) (w : World) (e : Ending) (w' : World) : Prop := ∃ t, e = .returned (.bool t) ∧ (s = r → t = true) ∧ Both w' p b q hb base s' r' ∧ Only (three_ b q hb) w w'
theorem act_cells (w : World) (a : Act1) (t : TypeId) : ∀ j v, #[Value.int .i64 a.kind, Value.int .i64 a.list, Value.int .i64 a.node][j]? = some v → (w.alloc (.cells #[.int .i64 a.kind, .int .i64 a.list, .int .i64 a.node] t)).cell? ⟨w.heap.size, j, none⟩ = some v := by
  intro j v h
  rw [(Row.fresh w t _).cell]; exact h
theorem Only.b3 {b q hb : Nat} {w w' : World} (o : Only (fun k => k = b) w w') : Only (three_ b q hb) w w' := o.more (fun _ _ s => .inl s)
theorem Only.q3 {b q hb : Nat} {w w' : World} (o : Only (two_ q hb) w w') : Only (three_ b q hb) w w' := o.more (fun _ _ s => .inr s)
theorem RSh.lt {w : World} {p hb base : Nat} {s : Sh} (h : RSh w p hb base s) : p < w.heap.size ∧ hb < w.heap.size := ⟨Nat.lt_of_lt_of_le h.ltp h.ltb, Nat.lt_of_lt_of_le h.lth h.ltb⟩

set_option maxHeartbeats 1000000 in
theorem step_front (p b q hb base : Nat) (s r : Sh) (k i : Int) (w : World) (h : Both w p b q hb base s r) :
    Calls Try.prog 12 #[.pointer (some ⟨p, 0, none⟩), .pointer (some ⟨q, 0, none⟩), .agg #[.int .i64 0, .int .i64 k, .int .i64 i]] w (Stepped p b q hb base s r (s.frontS k i) (r.frontS k i) w) := by
  have HB := Lib.hid (h.still ((Only.refl none_ w).alloc (.cells #[.int .i64 0, .int .i64 k, .int .i64 i] 33)))
  have c1 := act_cells w ⟨0, k, i⟩ 33 1 (.int .i64 k) rfl
  have c2 := act_cells w ⟨0, k, i⟩ 33 2 (.int .i64 i) rfl
  have O0 := Lib.hid ((Only.refl (three_ b q hb) w).alloc (.cells #[.int .i64 0, .int .i64 k, .int .i64 i] 33))
  have bl := h.one.lt
  have cl := h.two.lt
  simp only at c1 c2
  clear h
  go_enter Try.func12, Try.ntmps12
  go_wp2_with fail
  generalize (w.alloc (.cells #[.int .i64 0, .int .i64 k, .int .i64 i] 33)) = W at *
  have HD := Lib.hid (HB.out.still (Only.refl none_ W).drew)
  have OD := Lib.hid (O0.out.drew)
  have nb : ¬ w.heap.size = b := by omega
  have nq : ¬ two_ q hb w.heap.size := by unfold two_; omega
  go_region_held3 (fun w' => w'.cell? ⟨w.heap.size, 1, none⟩ = some (.int .i64 k) ∧ w'.cell? ⟨w.heap.size, 2, none⟩ = some (.int .i64 i))
    (first
      | (go_keep; done)
      | (go_split_ands; exact ⟨o1.cell c1 nb, o1.cell c2 nb⟩)
      | (go_split_ands; exact ⟨o2.cell (o1.cell c1 nb) nq, o2.cell (o1.cell c2 nb) nq⟩))
    (first
      | (go_at_call 20; refine (front_any p b s k i _ ?_).mono ?_; (exact HD.out.one); rintro e w1 ⟨rfl, h1, o1⟩; have HB1 := Lib.hid (HD.out.first h1 o1))
      | (go_at_call 25; refine (front_ref q hb base r k i _ ?_).mono ?_; (exact HB1.out.two); rintro e w2 ⟨rfl, h2, o2'⟩; have o2 : Only (two_ q hb) w1 w2 := o2'.more (fun _ _ e => .inl e); have HB2 := Lib.hid (HB1.out.second h2 o2)))
  have O2 := Lib.hid ((OD.out.same o1.b3).same o2.q3)
  clear o1 o2 h1 h2
  go_wp2_with fail
  go_ret
  exact ⟨_, rfl, fun e => by subst e; simp, HB2.out, O2.out⟩

set_option maxHeartbeats 1000000 in
theorem step_drop (p b q hb base : Nat) (s r : Sh) (k i : Int) (w : World) (h : Both w p b q hb base s r) :
    Calls Try.prog 12 #[.pointer (some ⟨p, 0, none⟩), .pointer (some ⟨q, 0, none⟩), .agg #[.int .i64 1, .int .i64 k, .int .i64 i]] w (Stepped p b q hb base s r (s.dropS i) (r.dropS i) w) := by
  have HB := Lib.hid (h.still ((Only.refl none_ w).alloc (.cells #[.int .i64 1, .int .i64 k, .int .i64 i] 33)))
  have c2 := act_cells w ⟨1, k, i⟩ 33 2 (.int .i64 i) rfl
  have O0 := Lib.hid ((Only.refl (three_ b q hb) w).alloc (.cells #[.int .i64 1, .int .i64 k, .int .i64 i] 33))
  have bl := h.one.lt
  have cl := h.two.lt
  simp only at c2
  clear h
  go_enter Try.func12, Try.ntmps12
  go_wp2_with fail
  generalize (w.alloc (.cells #[.int .i64 1, .int .i64 k, .int .i64 i] 33)) = W at *
  have HD := Lib.hid (HB.out.still (Only.refl none_ W).drew)
  have OD := Lib.hid (O0.out.drew)
  have nb : ¬ w.heap.size = b := by omega
  have nq : ¬ two_ q hb w.heap.size := by unfold two_; omega
  go_region_held3 (fun w' => w'.cell? ⟨w.heap.size, 2, none⟩ = some (.int .i64 i))
    (first
      | (go_keep; done)
      | (exact o1.cell c2 nb)
      | (exact o2.cell (o1.cell c2 nb) nq))
    (first
      | (go_at_call 24; refine (drop_any p b s i _ ?_).mono ?_; (exact HD.out.one); rintro e w1 ⟨rfl, h1, o1⟩; have HB1 := Lib.hid (HD.out.first h1 o1))
      | (go_at_call 26; refine (drop_ref q hb base r i _ ?_).mono ?_; (exact HB1.out.two); rintro e w2 ⟨rfl, h2, o2⟩; have HB2 := Lib.hid (HB1.out.second h2 o2)))
  have O2 := Lib.hid ((OD.out.same o1.b3).same (Only.q3 o2))
  clear o1 o2 h1 h2
  go_wp2_with fail
  go_ret
  exact ⟨_, rfl, fun e => by subst e; simp, HB2.out, O2.out⟩

set_option maxHeartbeats 1000000 in
theorem step_hold2 (p b q hb base : Nat) (s r : Sh) (k i : Int) (w : World) (h : Both w p b q hb base s r) :
    Calls Try.prog 12 #[.pointer (some ⟨p, 0, none⟩), .pointer (some ⟨q, 0, none⟩), .agg #[.int .i64 2, .int .i64 k, .int .i64 i]] w (Stepped p b q hb base s r (s.holdS i true) (r.holdS i true) w) := by
  have HB := Lib.hid (h.still ((Only.refl none_ w).alloc (.cells #[.int .i64 2, .int .i64 k, .int .i64 i] 33)))
  have c0 := act_cells w ⟨2, k, i⟩ 33 0 (.int .i64 2) rfl
  have c2 := act_cells w ⟨2, k, i⟩ 33 2 (.int .i64 i) rfl
  have O0 := Lib.hid ((Only.refl (three_ b q hb) w).alloc (.cells #[.int .i64 2, .int .i64 k, .int .i64 i] 33))
  have bl := h.one.lt
  have cl := h.two.lt
  simp only at c0 c2
  clear h
  go_enter Try.func12, Try.ntmps12
  go_wp2_with fail
  generalize (w.alloc (.cells #[.int .i64 2, .int .i64 k, .int .i64 i] 33)) = W at *
  have HD := Lib.hid (HB.out.still (Only.refl none_ W).drew)
  have OD := Lib.hid (O0.out.drew)
  have nb : ¬ w.heap.size = b := by omega
  have nq : ¬ two_ q hb w.heap.size := by unfold two_; omega
  go_region_held3 (fun w' => w'.cell? ⟨w.heap.size, 0, none⟩ = some (.int .i64 2) ∧ w'.cell? ⟨w.heap.size, 2, none⟩ = some (.int .i64 i))
    (first
      | (go_keep; done)
      | (go_split_ands; exact ⟨o1.cell c0 nb, o1.cell c2 nb⟩)
      | (go_split_ands; exact ⟨o2.cell (o1.cell c0 nb) nq, o2.cell (o1.cell c2 nb) nq⟩))
    (first
      | (go_at_call 23; refine (hold_any p b s i true _ ?_).mono ?_; (exact HD.out.one); rintro e w1 ⟨rfl, h1, o1⟩; have HB1 := Lib.hid (HD.out.first h1 o1))
      | (go_at_call 27; refine (hold_ref q hb base r i true _ ?_).mono ?_; (exact HB1.out.two); rintro e w2 ⟨rfl, h2, o2⟩; have HB2 := Lib.hid (HB1.out.second h2 o2)))
  have O2 := Lib.hid ((OD.out.same o1.b3).same (Only.q3 o2))
  clear o1 o2 h1 h2
  go_wp2_with fail
  go_ret
  exact ⟨_, rfl, fun e => by subst e; simp, HB2.out, O2.out⟩
set_option maxHeartbeats 1000000 in
theorem step_hold3 (p b q hb base : Nat) (s r : Sh) (k i : Int) (w : World) (h : Both w p b q hb base s r) :
    Calls Try.prog 12 #[.pointer (some ⟨p, 0, none⟩), .pointer (some ⟨q, 0, none⟩), .agg #[.int .i64 3, .int .i64 k, .int .i64 i]] w (Stepped p b q hb base s r (s.holdS i false) (r.holdS i false) w) := by
  have HB := Lib.hid (h.still ((Only.refl none_ w).alloc (.cells #[.int .i64 3, .int .i64 k, .int .i64 i] 33)))
  have c0 := act_cells w ⟨3, k, i⟩ 33 0 (.int .i64 3) rfl
  have c2 := act_cells w ⟨3, k, i⟩ 33 2 (.int .i64 i) rfl
  have O0 := Lib.hid ((Only.refl (three_ b q hb) w).alloc (.cells #[.int .i64 3, .int .i64 k, .int .i64 i] 33))
  have bl := h.one.lt
  have cl := h.two.lt
  simp only at c0 c2
  clear h
  go_enter Try.func12, Try.ntmps12
  go_wp2_with fail
  generalize (w.alloc (.cells #[.int .i64 3, .int .i64 k, .int .i64 i] 33)) = W at *
  have HD := Lib.hid (HB.out.still (Only.refl none_ W).drew)
  have OD := Lib.hid (O0.out.drew)
  have nb : ¬ w.heap.size = b := by omega
  have nq : ¬ two_ q hb w.heap.size := by unfold two_; omega
  go_region_held3 (fun w' => w'.cell? ⟨w.heap.size, 0, none⟩ = some (.int .i64 3) ∧ w'.cell? ⟨w.heap.size, 2, none⟩ = some (.int .i64 i))
    (first
      | (go_keep; done)
      | (go_split_ands; exact ⟨o1.cell c0 nb, o1.cell c2 nb⟩)
      | (go_split_ands; exact ⟨o2.cell (o1.cell c0 nb) nq, o2.cell (o1.cell c2 nb) nq⟩))
    (first
      | (go_at_call 23; refine (hold_any p b s i false _ ?_).mono ?_; (exact HD.out.one); rintro e w1 ⟨rfl, h1, o1⟩; have HB1 := Lib.hid (HD.out.first h1 o1))
      | (go_at_call 27; refine (hold_ref q hb base r i false _ ?_).mono ?_; (exact HB1.out.two); rintro e w2 ⟨rfl, h2, o2⟩; have HB2 := Lib.hid (HB1.out.second h2 o2)))
  have O2 := Lib.hid ((OD.out.same o1.b3).same (Only.q3 o2))
  clear o1 o2 h1 h2
  go_wp2_with fail
  go_ret
  exact ⟨_, rfl, fun e => by subst e; simp, HB2.out, O2.out⟩

theorem step_nop (p b q hb base : Nat) (s r : Sh) (c k i : Int) (w : World) (h : Both w p b q hb base s r) (h0 : c ≠ 0) (h1 : c ≠ 1) (h2 : c ≠ 2) (h3 : c ≠ 3) :
    Calls Try.prog 12 #[.pointer (some ⟨p, 0, none⟩), .pointer (some ⟨q, 0, none⟩), .agg #[.int .i64 c, .int .i64 k, .int .i64 i]] w (Stepped p b q hb base s r s r w) := by
  have HB := Lib.hid (h.still ((Only.refl none_ w).alloc (.cells #[.int .i64 c, .int .i64 k, .int .i64 i] 33)))
  have c0 := act_cells w ⟨c, k, i⟩ 33 0 (.int .i64 c) rfl
  have O0 := Lib.hid ((Only.refl (three_ b q hb) w).alloc (.cells #[.int .i64 c, .int .i64 k, .int .i64 i] 33))
  simp only at c0
  have t0 : (c == 0) = false := by simpa using h0
  have t1 : (c == 1) = false := by simpa using h1
  have t2 : (c == 2) = false := by simpa using h2
  have t3 : (c == 3) = false := by simpa using h3
  clear h h0 h1 h2 h3
  go_enter Try.func12, Try.ntmps12
  go_wp2
  go_ret
  exact ⟨_, rfl, fun _ => rfl, HB.out, O0.out⟩

theorem step_any (p b q hb base : Nat) (s r : Sh) (a : Act1) (w : World) (h : Both w p b q hb base s r) :
    Calls Try.prog 12 #[.pointer (some ⟨p, 0, none⟩), .pointer (some ⟨q, 0, none⟩), .agg #[.int .i64 a.kind, .int .i64 a.list, .int .i64 a.node]] w (Stepped p b q hb base s r (stepS s a) (stepS r a) w) := by
  obtain ⟨c, k, i⟩ := a
  by_cases h0 : c = 0
  · subst h0
    exact step_front p b q hb base s r k i w h
  · by_cases h1 : c = 1
    · subst h1
      exact step_drop p b q hb base s r k i w h
    · by_cases h2 : c = 2
      · subst h2
        exact step_hold2 p b q hb base s r k i w h
      · by_cases h3 : c = 3
        · subst h3
          exact step_hold3 p b q hb base s r k i w h
        · have e : ∀ x : Sh, stepS x ⟨c, k, i⟩ = x := fun x => by unfold stepS; simp [h0, h1, h2, h3]
          rw [e, e]
          exact step_nop p b q hb base s r c k i w h h0 h1 h2 h3

/-- a new one of the document's own beside a shelf -/
theorem Both.made {w w' : World} {p b : Nat} {s : Sh} {n bot : Nat} (h : Lies w p b s) {q hb base : Nat} (hq : RSh w' q hb base (newSh n bot)) (lq : w.heap.size ≤ q) (lh : w.heap.size ≤ hb) (o : Only none_ w w') : Both w' p b q hb base s (newSh n bot) := by
  have lt := h.lt
  have := hq.ltp
  exact ⟨h.still o, hq, by omega, by omega, by omega, by omega, by omega⟩
end Go.Proofs.Ytgbccaplmafgkaa

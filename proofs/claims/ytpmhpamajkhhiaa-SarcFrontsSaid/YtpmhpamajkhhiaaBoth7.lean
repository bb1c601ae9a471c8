/- A policy and the document's own, beside each other; a step on both. -/
import Derived.Test.YtpmhpamajkhhiaaLaw7
import Derived.Deep.RegionHeld3
namespace Go.Proofs.Ytpmhpamajkhhiaa
open Go.RowKit
set_option linter.unusedVariables false

def stepS (c : Sc) (a : Act1) : Sc :=
  if a.kind = 0 then c.enterS a.frame a.list else if a.kind = 1 then c.readyS a.frame else if a.kind = 2 then c.hitS a.frame a.list else if a.kind = 3 then c.missS a.list else if a.kind = 4 then c.goneS a.frame else if a.kind = 5 then c.victimS else c
theorem stepS_fine {c : Sc} (f : c.Fine) (a : Act1) : (stepS c a).Fine := by
  unfold stepS
  split
  · exact f.enterS _ _
  · split
    · exact f.readyS _
    · split
      · exact f.hitS _ _
      · split
        · exact f.missS _
        · split
          · exact f.goneS _
          · split
            · exact f.victimS
            · exact f
theorem stepS_us {c : Sc} (f : c.Fine) (a : Act1) : (stepS c a).us.length ≤ c.us.length + 1 := by
  unfold stepS
  split
  · unfold Sc.enterS
    split
    · show (c.us ++ [_]).length ≤ _
      simp
    · omega
  · split
    · unfold Sc.readyS
      split
      · show c.us.length ≤ _
        omega
      · omega
    · split
      · unfold Sc.hitS
        split
        · show ((c.hitW _).us ++ [_]).length ≤ _
          rw [(f.hitW _).2.2]
          simp
        · omega
      · split
        · unfold Sc.missS
          split
          · rw [(weigh_s _).2]
            show c.us.length ≤ _
            omega
          · omega
        · split
          · show c.us.length ≤ _
            omega
          · split
            · unfold Sc.victimS
              split
              · omega
              · show c.us.length ≤ _
                omega
            · omega
theorem stepS_n {c : Sc} (f : c.Fine) (a : Act1) : (stepS c a).s.n = c.s.n ∧ (stepS c a).s.bot = c.s.bot := by
  unfold stepS
  split
  · unfold Sc.enterS
    split
    · exact front_nb c.s _ _
    · exact ⟨rfl, rfl⟩
  · split
    · unfold Sc.readyS
      split <;> exact ⟨rfl, rfl⟩
    · split
      · unfold Sc.hitS
        split
        · have := front_nb (c.hitW a.frame.toNat).s a.list.toNat a.frame.toNat
          rw [(f.hitW _).2.1] at this
          show (Sh.front (c.hitW _).s _ _).n = _ ∧ (Sh.front (c.hitW _).s _ _).bot = _
          rw [(f.hitW _).2.1]
          exact this
        · exact ⟨rfl, rfl⟩
      · split
        · unfold Sc.missS
          split
          · rw [(weigh_s _).1]
            exact ⟨rfl, rfl⟩
          · exact ⟨rfl, rfl⟩
        · split
          · show (c.s.dropS _).n = _ ∧ (c.s.dropS _).bot = _
            unfold Sh.dropS
            split <;> exact ⟨rfl, rfl⟩
          · split
            · unfold Sc.victimS
              split <;> exact ⟨rfl, rfl⟩
            · exact ⟨rfl, rfl⟩

structure Both (w : World) (P p b r q hb : Nat) (ro : Nat → Prop) (c c' : Sc) : Prop where
  one : SLies w P p b c
  two_ : RSc w r q hb ro c'
  P1 : P ≠ r ∧ P ≠ q ∧ P ≠ hb ∧ ¬ ro P
  p1 : p ≠ r ∧ p ≠ q ∧ p ≠ hb ∧ ¬ ro p
  b1 : b ≠ r ∧ b ≠ q ∧ b ≠ hb ∧ ¬ ro b
def six (P b r q hb : Nat) (ro : Nat → Prop) : Nat → Prop := fun k => two P b k ∨ rset r q hb ro k
theorem RRaw.apart {w w' : World} {r q hb : Nat} {ro : Nat → Prop} {c : Sc} (h : RRaw w r q hb ro c) (o : Only none_ w w') {B : Nat} (hB : w.heap.size ≤ B) (hl : B < w'.heap.size) : RRaw w' r q hb (fun g => ro g ∧ g ≠ B) c := by
  obtain ⟨⟨vu, rw_, ou, ⟨f, ⟨v0, v1, x, p0, p1⟩, hr, ne, l1, l2, l3⟩⟩, a1, a2, a3, a4, a5, a6⟩ := h
  have fine : ∀ {v : Value} {xs : List Int}, OwnsOk w (okB ro vu) v xs → OwnsOk w' (okB (fun g => ro g ∧ g ≠ B) vu) v xs := fun {v xs} p =>
    ⟨p.1.still o, fun g hg => ⟨⟨(p.2 g hg).1, by have := p.lt hg; omega⟩, (p.2 g hg).2⟩⟩
  refine ⟨⟨vu, o.still rw_, ⟨ou.1.still o, fun g hg => ⟨ou.2 g hg, by have := ou.lt hg; omega⟩⟩, ⟨f, ⟨v0, v1, o.still x, fine p0, fine p1⟩, o.still hr, ne, fun e => a4 e.1.1, fun e => a5 e.1.1, fun g hg => ⟨⟨a6 g (Nat.le_trans o.size hg), by omega⟩, fun e => ?_⟩⟩⟩, a1, a2, fun e => a3 e.1, fun e => a4 e.1, fun e => a5 e.1, fun g hg => ⟨a6 g (Nat.le_trans o.size hg), by omega⟩⟩
  have := ou.lt e
  have := o.size
  omega
section
variable {w w' : World} {P p b r q hb : Nat} {ro : Nat → Prop} {c c' d : Sc}
theorem Both.still (h : Both w P p b r q hb ro c c') (o : Only none_ w w') : Both w' P p b r q hb ro c c' := ⟨h.one.still o, h.two_.still o, h.P1, h.p1, h.b1⟩
theorem Both.apart (h : Both w P p b r q hb ro c c') (o : Only none_ w w') {B : Nat} (hB : w.heap.size ≤ B) (hl : B < w'.heap.size) : Both w' P p b r q hb (fun g => ro g ∧ g ≠ B) c c' :=
  ⟨h.one.still o, ⟨h.two_.raw.apart o hB hl, h.two_.fine⟩, ⟨h.P1.1, h.P1.2.1, h.P1.2.2.1, fun e => h.P1.2.2.2 e.1⟩, ⟨h.p1.1, h.p1.2.1, h.p1.2.2.1, fun e => h.p1.2.2.2 e.1⟩, ⟨h.b1.1, h.b1.2.1, h.b1.2.2.1, fun e => h.b1.2.2.2 e.1⟩⟩
theorem Both.back {w0 : World} {e e' : Sc} {B : Nat} (h : Both w P p b r q hb (fun g => ro g ∧ g ≠ B) c c') (h0 : Both w0 P p b r q hb ro e e') (hs : w0.heap.size ≤ w.heap.size) : Both w P p b r q hb ro c c' :=
  ⟨h.one, h.two_.mono (fun g _ k => k.1) h0.two_.raw.rb h0.two_.raw.qb h0.two_.raw.hbb (fun g hg => h0.two_.raw.bw g (Nat.le_trans hs hg)), h0.P1, h0.p1, h0.b1⟩
theorem Both.first (h : Both w P p b r q hb ro c c') (k : SLies w' P p b d) (o : Only (two P b) w w') : Both w' P p b r q hb ro d c' :=
  ⟨k, h.two_.keep o (fun e => e.elim (fun e => h.P1.1 e.symm) (fun e => h.b1.1 e.symm)) (fun e => e.elim (fun e => h.P1.2.1 e.symm) (fun e => h.b1.2.1 e.symm)) (fun e => e.elim (fun e => h.P1.2.2.1 e.symm) (fun e => h.b1.2.2.1 e.symm)) (fun g hg e => e.elim (fun e => h.P1.2.2.2 (e ▸ hg)) (fun e => h.b1.2.2.2 (e ▸ hg))), h.P1, h.p1, h.b1⟩
theorem Both.second (h : Both w P p b r q hb ro c c') (k : RSc w' r q hb ro d) (o : Only (rset r q hb ro) w w') : Both w' P p b r q hb ro c d :=
  ⟨h.one.keep o (fun e => e.elim h.P1.1 (fun e => e.elim h.P1.2.1 (fun e => e.elim h.P1.2.2.1 h.P1.2.2.2))) (fun e => e.elim h.p1.1 (fun e => e.elim h.p1.2.1 (fun e => e.elim h.p1.2.2.1 h.p1.2.2.2))) (fun e => e.elim h.b1.1 (fun e => e.elim h.b1.2.1 (fun e => e.elim h.b1.2.2.1 h.b1.2.2.2))), k, h.P1, h.p1, h.b1⟩
end
/-- a step's end -/
def Stepped (P p b r q hb : Nat) (ro : Nat → Prop) (c c' d d' : Sc) (w : World) (e : Ending) (w' : World) : Prop := ∃ t, e = .returned (.bool t) ∧ (c = c' → t = true) ∧ Both w' P p b r q hb ro d d' ∧ Only (six P b r q hb ro) w w'
theorem act_cells (w : World) (a : Act1) (t : TypeId) : ∀ j v, #[Value.int .i64 a.kind, Value.int .i64 a.frame, Value.int .i64 a.list][j]? = some v → (w.alloc (.cells #[.int .i64 a.kind, .int .i64 a.frame, .int .i64 a.list] t)).cell? ⟨w.heap.size, j, none⟩ = some v := by
  intro j v h
  rw [(Row.fresh w t _).cell]; exact h

set_option maxHeartbeats 600000 in
theorem step_enter (P p b r q hb : Nat) (ro : Nat → Prop) (c c' : Sc) (f l : Int) (w : World) (h : Both w P p b r q hb ro c c') (hu : c.us.length < 1000000) (hu' : c'.us.length < 1000000) :
    Calls Try.prog 13 #[.pointer (some ⟨P, 0, none⟩), .pointer (some ⟨r, 0, none⟩), .agg #[.int .i64 0, .int .i64 f, .int .i64 l]] w (Stepped P p b r q hb ro c c' (c.enterS f l) (c'.enterS f l) w) := by
  have oa := (Only.refl none_ w).alloc (.cells #[.int .i64 0, .int .i64 f, .int .i64 l] 33)
  have HB := Lib.hid (h.apart oa (B := w.heap.size) (Nat.le_refl _) (by simp))
  have c1 := act_cells w ⟨0, f, l⟩ 33 1 (.int .i64 f) rfl
  have c2 := act_cells w ⟨0, f, l⟩ 33 2 (.int .i64 l) rfl
  have O0 := Lib.hid (oa.up (S := six P b r q hb (fun g => ro g ∧ g ≠ w.heap.size)))
  have bl := h.one.raw.lt
  have rl := h.two_.raw.lt
  have H0 := Lib.hid h
  obtain ⟨okq, sq⟩ := h.two_.raw.shelf
  obtain ⟨_, ⟨_, _, xq, _⟩, hq, _⟩ := sq
  have ql := xq.lt
  have hl := hq.lt
  have nb : ¬ two P b w.heap.size := by unfold two; omega
  have nr : ¬ rset r q hb (fun g => ro g ∧ g ≠ w.heap.size) w.heap.size := fun e => e.elim (fun e => by omega) (fun e => e.elim (fun e => by omega) (fun e => e.elim (fun e => by omega) (fun e => e.2 rfl)))
  simp only at c1 c2
  clear h oa xq hq
  go_enter Try.func13, Try.ntmps13
  go_wp2_with fail
  generalize (w.alloc (.cells #[.int .i64 0, .int .i64 f, .int .i64 l] 33)) = W at *
  have HD := Lib.hid (HB.out.still (Only.refl none_ W).drew)
  have OD := Lib.hid (O0.out.drew)
  replace c1 : W.drew.cell? ⟨w.heap.size, 1, none⟩ = some (.int .i64 f) := c1
  replace c2 : W.drew.cell? ⟨w.heap.size, 2, none⟩ = some (.int .i64 l) := c2
  go_region_held3 (fun w' => w'.cell? ⟨w.heap.size, 1, none⟩ = some (.int .i64 f) ∧ w'.cell? ⟨w.heap.size, 2, none⟩ = some (.int .i64 l))
    (first
      | (go_split_ands; with_reducible exact ⟨c1, c2⟩)
      | (go_split_ands; with_reducible exact ⟨(o1.cell c1 nb), (o1.cell c2 nb)⟩)
      | (go_split_ands; with_reducible exact ⟨(o2.cell (o1.cell c1 nb) nr), (o2.cell (o1.cell c2 nb) nr)⟩)
      | fail)
    (first
      | (go_at_call 21; (with_reducible refine (enter_any P p b c f l _ ?_ hu).mono ?_); (exact HD.out.one); rintro e w1 ⟨rfl, h1, o1⟩; have HB1 := Lib.hid (HD.out.first h1 o1))
      | (go_at_call 29; (with_reducible refine (enter_ref r q hb (fun g => ro g ∧ g ≠ w.heap.size) c' f l _ ?_ hu').mono ?_); (exact HB1.out.two_); rintro e w2 ⟨rfl, h2, o2⟩; have HB2 := Lib.hid (HB1.out.second h2 o2))
      | fail)
  have O1 := Lib.hid (o1.more (S' := six P b r q hb (fun g => ro g ∧ g ≠ w.heap.size)) (fun _ _ e => .inl e))
  have O2 := Lib.hid (o2.more (S' := six P b r q hb (fun g => ro g ∧ g ≠ w.heap.size)) (fun _ _ e => .inr e))
  have OO := Lib.hid ((OD.out.same O1.out).same O2.out)
  rename_i hHeld
  clear hHeld o1 o2 h1 h2 c1 c2
  go_wp2_with fail
  go_ret
  refine ⟨_, rfl, fun e => by subst e; simp, HB2.out.back H0.out OO.out.size, OO.out.more (fun i _ e => e.elim .inl (fun e => .inr (e.elim .inl (fun e => .inr (e.elim .inl (fun e => .inr (e.elim .inl (fun e => .inr e.1))))))))⟩

set_option maxHeartbeats 600000 in
theorem step_ready (P p b r q hb : Nat) (ro : Nat → Prop) (c c' : Sc) (f l : Int) (w : World) (h : Both w P p b r q hb ro c c') (hu : c.us.length < 1000000) (hu' : c'.us.length < 1000000) :
    Calls Try.prog 13 #[.pointer (some ⟨P, 0, none⟩), .pointer (some ⟨r, 0, none⟩), .agg #[.int .i64 1, .int .i64 f, .int .i64 l]] w (Stepped P p b r q hb ro c c' (c.readyS f) (c'.readyS f) w) := by
  have oa := (Only.refl none_ w).alloc (.cells #[.int .i64 1, .int .i64 f, .int .i64 l] 33)
  have HB := Lib.hid (h.apart oa (B := w.heap.size) (Nat.le_refl _) (by simp))
  have c1 := act_cells w ⟨1, f, l⟩ 33 1 (.int .i64 f) rfl
  have O0 := Lib.hid (oa.up (S := six P b r q hb (fun g => ro g ∧ g ≠ w.heap.size)))
  have bl := h.one.raw.lt
  have rl := h.two_.raw.lt
  have H0 := Lib.hid h
  obtain ⟨okq, sq⟩ := h.two_.raw.shelf
  obtain ⟨_, ⟨_, _, xq, _⟩, hq, _⟩ := sq
  have ql := xq.lt
  have hl := hq.lt
  have nb : ¬ two P b w.heap.size := by unfold two; omega
  have nr : ¬ rset r q hb (fun g => ro g ∧ g ≠ w.heap.size) w.heap.size := fun e => e.elim (fun e => by omega) (fun e => e.elim (fun e => by omega) (fun e => e.elim (fun e => by omega) (fun e => e.2 rfl)))
  simp only at c1
  clear h oa xq hq
  go_enter Try.func13, Try.ntmps13
  go_wp2_with fail
  generalize (w.alloc (.cells #[.int .i64 1, .int .i64 f, .int .i64 l] 33)) = W at *
  have HD := Lib.hid (HB.out.still (Only.refl none_ W).drew)
  have OD := Lib.hid (O0.out.drew)
  replace c1 : W.drew.cell? ⟨w.heap.size, 1, none⟩ = some (.int .i64 f) := c1
  go_region_held3 (fun w' => w'.cell? ⟨w.heap.size, 1, none⟩ = some (.int .i64 f))
    (first
      | (with_reducible exact c1)
      | (with_reducible exact (o1.cell c1 nb))
      | (with_reducible exact (o2.cell (o1.cell c1 nb) nr))
      | fail)
    (first
      | (go_at_call 22; (with_reducible refine (ready_any P p b c f _ ?_).mono ?_); (exact HD.out.one); rintro e w1 ⟨rfl, h1, o1⟩; have HB1 := Lib.hid (HD.out.first h1 o1))
      | (go_at_call 30; (with_reducible refine (ready_ref r q hb (fun g => ro g ∧ g ≠ w.heap.size) c' f _ ?_).mono ?_); (exact HB1.out.two_); rintro e w2 ⟨rfl, h2, o2⟩; have HB2 := Lib.hid (HB1.out.second h2 o2))
      | fail)
  have O1 := Lib.hid (o1.more (S' := six P b r q hb (fun g => ro g ∧ g ≠ w.heap.size)) (fun _ _ e => .inl e))
  have O2 := Lib.hid (o2.more (S' := six P b r q hb (fun g => ro g ∧ g ≠ w.heap.size)) (fun _ _ e => .inr e))
  have OO := Lib.hid ((OD.out.same O1.out).same O2.out)
  rename_i hHeld
  clear hHeld o1 o2 h1 h2 c1
  go_wp2_with fail
  go_ret
  refine ⟨_, rfl, fun e => by subst e; simp, HB2.out.back H0.out OO.out.size, OO.out.more (fun i _ e => e.elim .inl (fun e => .inr (e.elim .inl (fun e => .inr (e.elim .inl (fun e => .inr (e.elim .inl (fun e => .inr e.1))))))))⟩

set_option maxHeartbeats 600000 in
theorem step_hit (P p b r q hb : Nat) (ro : Nat → Prop) (c c' : Sc) (f l : Int) (w : World) (h : Both w P p b r q hb ro c c') (hu : c.us.length < 1000000) (hu' : c'.us.length < 1000000) :
    Calls Try.prog 13 #[.pointer (some ⟨P, 0, none⟩), .pointer (some ⟨r, 0, none⟩), .agg #[.int .i64 2, .int .i64 f, .int .i64 l]] w (Stepped P p b r q hb ro c c' (c.hitS f l) (c'.hitS f l) w) := by
  have oa := (Only.refl none_ w).alloc (.cells #[.int .i64 2, .int .i64 f, .int .i64 l] 33)
  have HB := Lib.hid (h.apart oa (B := w.heap.size) (Nat.le_refl _) (by simp))
  have c1 := act_cells w ⟨2, f, l⟩ 33 1 (.int .i64 f) rfl
  have c2 := act_cells w ⟨2, f, l⟩ 33 2 (.int .i64 l) rfl
  have O0 := Lib.hid (oa.up (S := six P b r q hb (fun g => ro g ∧ g ≠ w.heap.size)))
  have bl := h.one.raw.lt
  have rl := h.two_.raw.lt
  have H0 := Lib.hid h
  obtain ⟨okq, sq⟩ := h.two_.raw.shelf
  obtain ⟨_, ⟨_, _, xq, _⟩, hq, _⟩ := sq
  have ql := xq.lt
  have hl := hq.lt
  have nb : ¬ two P b w.heap.size := by unfold two; omega
  have nr : ¬ rset r q hb (fun g => ro g ∧ g ≠ w.heap.size) w.heap.size := fun e => e.elim (fun e => by omega) (fun e => e.elim (fun e => by omega) (fun e => e.elim (fun e => by omega) (fun e => e.2 rfl)))
  simp only at c1 c2
  clear h oa xq hq
  go_enter Try.func13, Try.ntmps13
  go_wp2_with fail
  generalize (w.alloc (.cells #[.int .i64 2, .int .i64 f, .int .i64 l] 33)) = W at *
  have HD := Lib.hid (HB.out.still (Only.refl none_ W).drew)
  have OD := Lib.hid (O0.out.drew)
  replace c1 : W.drew.cell? ⟨w.heap.size, 1, none⟩ = some (.int .i64 f) := c1
  replace c2 : W.drew.cell? ⟨w.heap.size, 2, none⟩ = some (.int .i64 l) := c2
  go_region_held3 (fun w' => w'.cell? ⟨w.heap.size, 1, none⟩ = some (.int .i64 f) ∧ w'.cell? ⟨w.heap.size, 2, none⟩ = some (.int .i64 l))
    (first
      | (go_split_ands; with_reducible exact ⟨c1, c2⟩)
      | (go_split_ands; with_reducible exact ⟨(o1.cell c1 nb), (o1.cell c2 nb)⟩)
      | (go_split_ands; with_reducible exact ⟨(o2.cell (o1.cell c1 nb) nr), (o2.cell (o1.cell c2 nb) nr)⟩)
      | fail)
    (first
      | (go_at_call 23; (with_reducible refine (hit_any P p b c f l _ ?_ hu).mono ?_); (exact HD.out.one); rintro e w1 ⟨rfl, h1, o1⟩; have HB1 := Lib.hid (HD.out.first h1 o1))
      | (go_at_call 31; (with_reducible refine (hit_ref r q hb (fun g => ro g ∧ g ≠ w.heap.size) c' f l _ ?_ hu').mono ?_); (exact HB1.out.two_); rintro e w2 ⟨rfl, h2, o2⟩; have HB2 := Lib.hid (HB1.out.second h2 o2))
      | fail)
  have O1 := Lib.hid (o1.more (S' := six P b r q hb (fun g => ro g ∧ g ≠ w.heap.size)) (fun _ _ e => .inl e))
  have O2 := Lib.hid (o2.more (S' := six P b r q hb (fun g => ro g ∧ g ≠ w.heap.size)) (fun _ _ e => .inr e))
  have OO := Lib.hid ((OD.out.same O1.out).same O2.out)
  rename_i hHeld
  clear hHeld o1 o2 h1 h2 c1 c2
  go_wp2_with fail
  go_ret
  refine ⟨_, rfl, fun e => by subst e; simp, HB2.out.back H0.out OO.out.size, OO.out.more (fun i _ e => e.elim .inl (fun e => .inr (e.elim .inl (fun e => .inr (e.elim .inl (fun e => .inr (e.elim .inl (fun e => .inr e.1))))))))⟩

set_option maxHeartbeats 600000 in
theorem step_miss (P p b r q hb : Nat) (ro : Nat → Prop) (c c' : Sc) (f l : Int) (w : World) (h : Both w P p b r q hb ro c c') (hu : c.us.length < 1000000) (hu' : c'.us.length < 1000000) :
    Calls Try.prog 13 #[.pointer (some ⟨P, 0, none⟩), .pointer (some ⟨r, 0, none⟩), .agg #[.int .i64 3, .int .i64 f, .int .i64 l]] w (Stepped P p b r q hb ro c c' (c.missS l) (c'.missS l) w) := by
  have oa := (Only.refl none_ w).alloc (.cells #[.int .i64 3, .int .i64 f, .int .i64 l] 33)
  have HB := Lib.hid (h.apart oa (B := w.heap.size) (Nat.le_refl _) (by simp))
  have c2 := act_cells w ⟨3, f, l⟩ 33 2 (.int .i64 l) rfl
  have O0 := Lib.hid (oa.up (S := six P b r q hb (fun g => ro g ∧ g ≠ w.heap.size)))
  have bl := h.one.raw.lt
  have rl := h.two_.raw.lt
  have H0 := Lib.hid h
  obtain ⟨okq, sq⟩ := h.two_.raw.shelf
  obtain ⟨_, ⟨_, _, xq, _⟩, hq, _⟩ := sq
  have ql := xq.lt
  have hl := hq.lt
  have nb : ¬ two P b w.heap.size := by unfold two; omega
  have nr : ¬ rset r q hb (fun g => ro g ∧ g ≠ w.heap.size) w.heap.size := fun e => e.elim (fun e => by omega) (fun e => e.elim (fun e => by omega) (fun e => e.elim (fun e => by omega) (fun e => e.2 rfl)))
  simp only at c2
  clear h oa xq hq
  go_enter Try.func13, Try.ntmps13
  go_wp2_with fail
  generalize (w.alloc (.cells #[.int .i64 3, .int .i64 f, .int .i64 l] 33)) = W at *
  have HD := Lib.hid (HB.out.still (Only.refl none_ W).drew)
  have OD := Lib.hid (O0.out.drew)
  replace c2 : W.drew.cell? ⟨w.heap.size, 2, none⟩ = some (.int .i64 l) := c2
  go_region_held3 (fun w' => w'.cell? ⟨w.heap.size, 2, none⟩ = some (.int .i64 l))
    (first
      | (with_reducible exact c2)
      | (with_reducible exact (o1.cell c2 nb))
      | (with_reducible exact (o2.cell (o1.cell c2 nb) nr))
      | fail)
    (first
      | (go_at_call 20; (with_reducible refine (miss_any P p b c l _ ?_).mono ?_); (exact HD.out.one); rintro e w1 ⟨rfl, h1, o1⟩; have HB1 := Lib.hid (HD.out.first h1 o1))
      | (go_at_call 32; (with_reducible refine (miss_ref r q hb (fun g => ro g ∧ g ≠ w.heap.size) c' l _ ?_).mono ?_); (exact HB1.out.two_); rintro e w2 ⟨rfl, h2, o2⟩; have HB2 := Lib.hid (HB1.out.second h2 o2))
      | fail)
  have O1 := Lib.hid (o1.more (S' := six P b r q hb (fun g => ro g ∧ g ≠ w.heap.size)) (fun _ _ e => .inl e))
  have O2 := Lib.hid (o2.more (S' := six P b r q hb (fun g => ro g ∧ g ≠ w.heap.size)) (fun _ _ e => .inr e))
  have OO := Lib.hid ((OD.out.same O1.out).same O2.out)
  rename_i hHeld
  clear hHeld o1 o2 h1 h2 c2
  go_wp2_with fail
  go_ret
  refine ⟨_, rfl, fun e => by subst e; simp, HB2.out.back H0.out OO.out.size, OO.out.more (fun i _ e => e.elim .inl (fun e => .inr (e.elim .inl (fun e => .inr (e.elim .inl (fun e => .inr (e.elim .inl (fun e => .inr e.1))))))))⟩

set_option maxHeartbeats 600000 in
theorem step_gone (P p b r q hb : Nat) (ro : Nat → Prop) (c c' : Sc) (f l : Int) (w : World) (h : Both w P p b r q hb ro c c') (hu : c.us.length < 1000000) (hu' : c'.us.length < 1000000) :
    Calls Try.prog 13 #[.pointer (some ⟨P, 0, none⟩), .pointer (some ⟨r, 0, none⟩), .agg #[.int .i64 4, .int .i64 f, .int .i64 l]] w (Stepped P p b r q hb ro c c' (c.goneS f) (c'.goneS f) w) := by
  have oa := (Only.refl none_ w).alloc (.cells #[.int .i64 4, .int .i64 f, .int .i64 l] 33)
  have HB := Lib.hid (h.apart oa (B := w.heap.size) (Nat.le_refl _) (by simp))
  have c1 := act_cells w ⟨4, f, l⟩ 33 1 (.int .i64 f) rfl
  have O0 := Lib.hid (oa.up (S := six P b r q hb (fun g => ro g ∧ g ≠ w.heap.size)))
  have bl := h.one.raw.lt
  have rl := h.two_.raw.lt
  have H0 := Lib.hid h
  obtain ⟨okq, sq⟩ := h.two_.raw.shelf
  obtain ⟨_, ⟨_, _, xq, _⟩, hq, _⟩ := sq
  have ql := xq.lt
  have hl := hq.lt
  have nb : ¬ two P b w.heap.size := by unfold two; omega
  have nr : ¬ rset r q hb (fun g => ro g ∧ g ≠ w.heap.size) w.heap.size := fun e => e.elim (fun e => by omega) (fun e => e.elim (fun e => by omega) (fun e => e.elim (fun e => by omega) (fun e => e.2 rfl)))
  simp only at c1
  clear h oa xq hq
  go_enter Try.func13, Try.ntmps13
  go_wp2_with fail
  generalize (w.alloc (.cells #[.int .i64 4, .int .i64 f, .int .i64 l] 33)) = W at *
  have HD := Lib.hid (HB.out.still (Only.refl none_ W).drew)
  have OD := Lib.hid (O0.out.drew)
  replace c1 : W.drew.cell? ⟨w.heap.size, 1, none⟩ = some (.int .i64 f) := c1
  go_region_held3 (fun w' => w'.cell? ⟨w.heap.size, 1, none⟩ = some (.int .i64 f))
    (first
      | (with_reducible exact c1)
      | (with_reducible exact (o1.cell c1 nb))
      | (with_reducible exact (o2.cell (o1.cell c1 nb) nr))
      | fail)
    (first
      | (go_at_call 26; (with_reducible refine (gone_any P p b c f _ ?_).mono ?_); (exact HD.out.one); rintro e w1 ⟨rfl, h1, o1⟩; have HB1 := Lib.hid (HD.out.first h1 o1))
      | (go_at_call 33; (with_reducible refine (gone_ref r q hb (fun g => ro g ∧ g ≠ w.heap.size) c' f _ ?_).mono ?_); (exact HB1.out.two_); rintro e w2 ⟨rfl, h2, o2⟩; have HB2 := Lib.hid (HB1.out.second h2 o2))
      | fail)
  have O1 := Lib.hid (o1.more (S' := six P b r q hb (fun g => ro g ∧ g ≠ w.heap.size)) (fun _ _ e => .inl e))
  have O2 := Lib.hid (o2.more (S' := six P b r q hb (fun g => ro g ∧ g ≠ w.heap.size)) (fun _ _ e => .inr e))
  have OO := Lib.hid ((OD.out.same O1.out).same O2.out)
  rename_i hHeld
  clear hHeld o1 o2 h1 h2 c1
  go_wp2_with fail
  go_ret
  refine ⟨_, rfl, fun e => by subst e; simp, HB2.out.back H0.out OO.out.size, OO.out.more (fun i _ e => e.elim .inl (fun e => .inr (e.elim .inl (fun e => .inr (e.elim .inl (fun e => .inr (e.elim .inl (fun e => .inr e.1))))))))⟩

theorem lastV_form (o : Option Nat) : ∃ (x : Nat) (b : Bool), lastV o = .tuple #[.int .i64 x, .bool b] := ⟨_, _, rfl⟩
set_option maxHeartbeats 600000 in
theorem step_victim (P p b r q hb : Nat) (ro : Nat → Prop) (c c' : Sc) (f l : Int) (w : World) (h : Both w P p b r q hb ro c c') (hu : c.us.length < 1000000) (hu' : c'.us.length < 1000000) :
    Calls Try.prog 13 #[.pointer (some ⟨P, 0, none⟩), .pointer (some ⟨r, 0, none⟩), .agg #[.int .i64 5, .int .i64 f, .int .i64 l]] w (Stepped P p b r q hb ro c c' c.victimS c'.victimS w) := by
  have oa := (Only.refl none_ w).alloc (.cells #[.int .i64 5, .int .i64 f, .int .i64 l] 33)
  have HB := Lib.hid (h.still oa)
  have O0 := Lib.hid (oa.up (S := six P b r q hb ro))
  obtain ⟨x0, b0, e0⟩ := lastV_form c.victim
  obtain ⟨x1, b1, e1⟩ := lastV_form c'.victim
  have EQ := Lib.hid (fun (e : c = c') => show x0 = x1 ∧ b0 = b1 from by
    subst e
    rw [e0] at e1
    simp only [Value.tuple.injEq, Array.mk.injEq, List.cons.injEq, Value.int.injEq, Value.bool.injEq, true_and, and_true] at e1
    exact ⟨by omega, e1.2⟩)
  have V0 := victim_any P p b c _ HB.out.one hu
  rw [e0] at V0
  have V0 := Lib.hid V0
  have V1 := Lib.hid (fun w' (k : RSc w' r q hb ro c') => victim_ref r q hb ro c' w' k hu')
  simp only [e1] at V1
  clear h e0 e1 oa
  go_enter Try.func13, Try.ntmps13
  go_wp2_with fail
  (with_reducible refine (V0.out).mono ?_)
  rintro e w1 ⟨rfl, h1, o1⟩
  have HB1 := Lib.hid (HB.out.first h1 o1)
  have O1 := Lib.hid (O0.out.same (o1.more (S' := six P b r q hb ro) (fun _ _ e => .inl e)))
  clear h1 o1 V0
  go_wp2_with fail
  (with_reducible refine (V1.out _ HB1.out.two_).mono ?_)
  rintro e w2 ⟨rfl, h2, o2⟩
  have HB2 := Lib.hid (HB1.out.second h2 o2)
  have O2 := Lib.hid (O1.out.same (o2.more (S' := six P b r q hb ro) (fun _ _ e => .inr e)))
  clear h2 o2 V1
  by_cases ex : x0 = x1
  · have d : ((x0 : Int) == (x1 : Int)) = true := by simp [ex]
    go_wp2_with fail
    go_ret
    exact ⟨_, rfl, fun e => by rw [(EQ.out e).2]; simp, HB2.out, O2.out⟩
  · have d : ((x0 : Int) == (x1 : Int)) = false := by simp; omega
    go_wp2_with fail
    go_ret
    exact ⟨_, rfl, fun e => absurd (EQ.out e).1 ex, HB2.out, O2.out⟩

theorem step_nop (P p b r q hb : Nat) (ro : Nat → Prop) (c c' : Sc) (k f l : Int) (w : World) (h : Both w P p b r q hb ro c c') (h0 : k ≠ 0) (h1 : k ≠ 1) (h2 : k ≠ 2) (h3 : k ≠ 3) (h4 : k ≠ 4) (h5 : k ≠ 5) :
    Calls Try.prog 13 #[.pointer (some ⟨P, 0, none⟩), .pointer (some ⟨r, 0, none⟩), .agg #[.int .i64 k, .int .i64 f, .int .i64 l]] w (Stepped P p b r q hb ro c c' c c' w) := by
  have oa := (Only.refl none_ w).alloc (.cells #[.int .i64 k, .int .i64 f, .int .i64 l] 33)
  have HB := Lib.hid (h.still oa)
  have O0 := Lib.hid (oa.up (S := six P b r q hb ro))
  have t0 : (k == 0) = false := by simpa using h0
  have t1 : (k == 1) = false := by simpa using h1
  have t2 : (k == 2) = false := by simpa using h2
  have t3 : (k == 3) = false := by simpa using h3
  have t4 : (k == 4) = false := by simpa using h4
  have t5 : (k == 5) = false := by simpa using h5
  clear h h0 h1 h2 h3 h4 h5 oa
  go_enter Try.func13, Try.ntmps13
  go_wp2
  go_ret
  exact ⟨_, rfl, fun _ => rfl, HB.out, O0.out⟩

theorem step_any (P p b r q hb : Nat) (ro : Nat → Prop) (c c' : Sc) (a : Act1) (w : World) (h : Both w P p b r q hb ro c c') (hu : c.us.length < 1000000) (hu' : c'.us.length < 1000000) :
    Calls Try.prog 13 #[.pointer (some ⟨P, 0, none⟩), .pointer (some ⟨r, 0, none⟩), .agg #[.int .i64 a.kind, .int .i64 a.frame, .int .i64 a.list]] w (Stepped P p b r q hb ro c c' (stepS c a) (stepS c' a) w) := by
  obtain ⟨k, f, l⟩ := a
  by_cases h0 : k = 0
  · subst h0; exact step_enter P p b r q hb ro c c' f l w h hu hu'
  · by_cases h1 : k = 1
    · subst h1; exact step_ready P p b r q hb ro c c' f l w h hu hu'
    · by_cases h2 : k = 2
      · subst h2; exact step_hit P p b r q hb ro c c' f l w h hu hu'
      · by_cases h3 : k = 3
        · subst h3; exact step_miss P p b r q hb ro c c' f l w h hu hu'
        · by_cases h4 : k = 4
          · subst h4; exact step_gone P p b r q hb ro c c' f l w h hu hu'
          · by_cases h5 : k = 5
            · subst h5; exact step_victim P p b r q hb ro c c' f l w h hu hu'
            · have e : ∀ x : Sc, stepS x ⟨k, f, l⟩ = x := fun x => by unfold stepS; simp [h0, h1, h2, h3, h4, h5]
              rw [e, e]
              exact step_nop P p b r q hb ro c c' k f l w h h0 h1 h2 h3 h4 h5

/-- a new one of the document's own beside a policy -/
theorem Both.made {w w' : World} {P p b : Nat} {c : Sc} {n bot : Nat} (h : SLies w P p b c) {r q hb base : Nat} (hr : RSc w' r q hb (fun g => base ≤ g) (newSc n bot)) (lr : w.heap.size ≤ r) (lq : w.heap.size ≤ q) (lh : w.heap.size ≤ hb) (lb : w.heap.size ≤ base) (o : Only none_ w w') : Both w' P p b r q hb (fun g => base ≤ g) c (newSc n bot) := by
  have lt := h.raw.lt
  exact ⟨h.still o, hr, by omega, by omega, by omega⟩
end Go.Proofs.Ytpmhpamajkhhiaa

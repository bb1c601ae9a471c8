/- Turns in memory: a ticket's place, room, and who comes in. -/
import Derived.Test.YtmihinpbgppjlaaTn
import Derived.Test.YtmihinpbgppjlaaCatch
namespace Go.Proofs.Ytmihinpbgppjlaa
open Go.RowKit Go.Maps
set_option linter.unusedVariables false

def roomP (nd na : Nat) (ps : List Pl) (a : Bool) : Int := (mostL nd na a : Int) - (ps.filter (fun q => q.a == a)).length
theorem troom_any {p b nd na L : Nat} {ps : List Pl} (a : Bool) (w : World) (h : TnAt w p b nd na L ps) :
    Calls Try.prog 47 #[.pointer (some ⟨p, 0, none⟩), .bool a] w fun e w' => e = .returned (.int .i64 (roomP nd na ps a)) ∧ Only none_ w w' := by
  have FR := Lib.hid (tfree_any w h)
  unfold Freed12 at FR
  unfold roomP
  clear h
  cases a with
  | false =>
    have E := Lib.hid (show mostL nd na false = nd from rfl)
    rw [E.out]
    generalize (ps.filter (fun q => q.a == false)).length = m at *
    generalize (ps.filter (fun q => q.a == true)).length = n at *
    go_enter Try.func47, Try.ntmps47
    go_wp2_with fail
    (with_reducible refine (FR.out).mono ?_)
    rintro e w1 ⟨rfl, o⟩
    have O := Lib.hid o
    clear o
    go_wp2_with fail
    go_ret
    exact ⟨rfl, O.out⟩
  | true =>
    have E := Lib.hid (show mostL nd na true = na from rfl)
    rw [E.out]
    generalize (ps.filter (fun q => q.a == false)).length = m at *
    generalize (ps.filter (fun q => q.a == true)).length = n at *
    go_enter Try.func47, Try.ntmps47
    go_wp2_with fail
    (with_reducible refine (FR.out).mono ?_)
    rintro e w1 ⟨rfl, o⟩
    have O := Lib.hid o
    clear o
    go_wp2_with fail
    go_ret
    exact ⟨rfl, O.out⟩

theorem tat_yes {p b nd na L : Nat} {ps : List Pl} (x : Int) (w : World) (h : TnAt w p b nd na L ps) (wx : (Lit.int .i64 x).wf = true) (hx : hasP ps x = true) :
    Calls Try.prog 39 #[.pointer (some ⟨p, 0, none⟩), .int .i64 x] w fun e w' => e = .returned (.agg #[.int .i64 (atP ps x).k, .bool (atP ps x).a, .int .i64 (atP ps x).n, .bool (atP ps x).s]) ∧ Only none_ w w' := by
  have c2 : w.cell? ⟨p, 2, none⟩ = some (.map (some b)) := by rw [h.row.cell]; rfl
  have o1 := (Only.refl none_ w).alloc (.cells #[.int .i64 0, .bool false, .int .i64 0, .bool false] 59)
  have LK := (h.md.still o1).look h.once wx
  have c2' : (w.alloc (.cells #[.int .i64 0, .bool false, .int .i64 0, .bool false] 59)).cell? ⟨p, 2, none⟩ = some (.map (some b)) := o1.cell c2 (fun s => s)
  rw [hx] at LK
  have lp := h.row.lt
  have O1 := Lib.hid o1
  generalize atP ps x = q at *
  unfold plVal at LK
  clear h wx hx o1
  go_enter Try.func39, Try.ntmps39
  go_wp2_with fail
  (with_reducible refine (unless_yes _ _).mono ?_)
  rintro e w' ⟨rfl, rfl⟩
  go_wp2_with fail
  refine bodyPost_ret (v := .agg #[.int .i64 q.k, .bool q.a, .int .i64 q.n, .bool q.s]) (by simp [results, Try.results39, go_sem]) rfl ⟨rfl, ?_⟩
  exact ((Only.refl _ _).alloc _).alloc _
theorem tat_no {p b nd na L : Nat} {ps : List Pl} (x : Int) (w : World) (h : TnAt w p b nd na L ps) (wx : (Lit.int .i64 x).wf = true) (hx : hasP ps x = false) :
    Calls Try.prog 39 #[.pointer (some ⟨p, 0, none⟩), .int .i64 x] w fun e w' => e = left 3 ∧ Only none_ w w' := by
  have c2 : w.cell? ⟨p, 2, none⟩ = some (.map (some b)) := by rw [h.row.cell]; rfl
  have o1 := (Only.refl none_ w).alloc (.cells #[.int .i64 0, .bool false, .int .i64 0, .bool false] 59)
  have LK := (h.md.still o1).look h.once wx
  have c2' : (w.alloc (.cells #[.int .i64 0, .bool false, .int .i64 0, .bool false] 59)).cell? ⟨p, 2, none⟩ = some (.map (some b)) := o1.cell c2 (fun s => s)
  rw [hx] at LK
  have lp := h.row.lt
  have O1 := Lib.hid o1
  generalize atP ps x = q at *
  unfold plVal at LK
  clear h wx hx o1
  go_enter Try.func39, Try.ntmps39
  go_wp2_with fail
  (with_reducible refine (unless_no _ _).mono ?_)
  rintro e w' ⟨rfl, rfl⟩
  go_wp2_with fail
  exact ⟨rfl, rfl, O1.out.alloc _⟩

/-- a ticket has a place in its row, with the last turn -/
def enterP (ps : List Pl) (L : Nat) (q : Pl) : List Pl := ps.filter (fun p => !(p.k == q.k)) ++ [⟨q.k, q.a, L + 1, q.s⟩]
theorem enter_at {w w' : World} {p b nd na L : Nat} {ps : List Pl} {q : Pl} (h : TnAt w p b nd na L ps) (hr : 0 < roomP nd na ps q.a) (r : Row w' p 57 #[.int .i64 nd, .int .i64 na, .map (some b), .int .i64 ((L + 1 : Nat) : Int)]) (m : Md w' b (enterP ps L q)) (o : Once (enterP ps L q)) : TnAt w' p b nd na (L + 1) (enterP ps L q) := by
  refine ⟨r, m, o, ?_, ?_, ?_, h.nd64, h.na64⟩
  · unfold Rise enterP
    rw [List.pairwise_append]
    refine ⟨h.rise.filter _, List.pairwise_singleton _ _, fun a ha c hc => ?_⟩
    rw [List.mem_singleton.1 hc]
    have := (h.top a (List.mem_filter.1 ha).1).2
    show a.n < (L : Int) + 1
    omega
  · intro a ha
    rcases List.mem_append.1 ha with ha | ha
    · have := h.top a (List.mem_filter.1 ha).1
      omega
    · rw [List.mem_singleton.1 ha]
      show (0 : Int) ≤ (L : Int) + 1 ∧ (L : Int) + 1 ≤ ((L + 1 : Nat) : Int)
      omega
  · intro a
    unfold enterP
    have h1 := h.few a
    have h2 : ((ps.filter (fun p => !(p.k == q.k))).filter (fun p => p.a == a)).length ≤ (ps.filter (fun p => p.a == a)).length := by
      rw [List.filter_filter]
      have : (fun p : Pl => (p.a == a) && !(p.k == q.k)) = fun p => (!(p.k == q.k)) && (p.a == a) := by funext p; rw [Bool.and_comm]
      rw [this, ← List.filter_filter]
      exact List.length_filter_le _ _
    rw [List.filter_append, List.length_append]
    by_cases e : q.a = a
    · subst e
      have : (List.filter (fun p : Pl => p.a == q.a) [⟨q.k, q.a, (L : Int) + 1, q.s⟩]).length ≤ 1 := List.length_filter_le _ _
      unfold roomP at hr
      omega
    · have : (List.filter (fun p : Pl => p.a == a) [⟨q.k, q.a, (L : Int) + 1, q.s⟩]).length = 0 := by
        simp [e]
      omega
theorem enter_once {ps : List Pl} (h : Once ps) (L : Nat) (q : Pl) : Once (enterP ps L q) := by
  unfold Once enterP
  rw [List.pairwise_append]
  refine ⟨h.filter _, List.pairwise_singleton _ _, fun a ha c hc => ?_⟩
  rw [List.mem_singleton.1 hc]
  simpa using (List.mem_filter.1 ha).2
theorem tenter_no {p b nd na L : Nat} {ps : List Pl} (q : Pl) (w : World) (h : TnAt w p b nd na L ps) (hr : ¬ 0 < roomP nd na ps q.a) :
    Calls Try.prog 37 #[.pointer (some ⟨p, 0, none⟩), .agg #[.int .i64 q.k, .bool q.a, .int .i64 q.n, .bool q.s]] w fun e w' => e = left 2 ∧ Only none_ w w' := by
  have o1 := (Only.refl none_ w).alloc (.cells #[.int .i64 q.k, .bool q.a, .int .i64 q.n, .bool q.s] 59)
  have O1 := Lib.hid o1
  have RM := Lib.hid (troom_any q.a _ (h.still o1))
  have d : decide (0 < roomP nd na ps q.a) = false := by simpa using hr
  clear h o1 hr
  generalize roomP nd na ps q.a = r at *
  go_enter Try.func37, Try.ntmps37
  go_wp2_with fail
  (with_reducible refine (RM.out).mono ?_)
  rintro e w1 ⟨rfl, o⟩
  have O2 := Lib.hid (O1.out.same o)
  clear o
  go_wp2_with fail
  (with_reducible refine (unless_no _ _).mono ?_)
  rintro e w' ⟨rfl, rfl⟩
  go_wp2_with fail
  exact ⟨rfl, rfl, O2.out⟩
set_option maxHeartbeats 2000000 in
theorem tenter_yes {p b nd na L : Nat} {ps : List Pl} (q : Pl) (w : World) (h : TnAt w p b nd na L ps) (hr : 0 < roomP nd na ps q.a) (hL : L < 100000000) (wx : (Lit.int .i64 q.k).wf = true) :
    Calls Try.prog 37 #[.pointer (some ⟨p, 0, none⟩), .agg #[.int .i64 q.k, .bool q.a, .int .i64 q.n, .bool q.s]] w fun e w' => e = .returned (.tuple #[]) ∧ TnAt w' p b nd na (L + 1) (enterP ps L q) ∧ Only (two12 p b) w w' := by
  have o1 := (Only.refl none_ w).alloc (.cells #[.int .i64 q.k, .bool q.a, .int .i64 q.n, .bool q.s] 59)
  have O1 := Lib.hid o1
  have RM := Lib.hid (troom_any q.a _ (h.still o1))
  have d : decide (0 < roomP nd na ps q.a) = true := by simpa using hr
  have H := Lib.hid h
  have HR := Lib.hid hr
  have lp := h.row.lt
  have lb := h.md.lt
  have ne := h.ne
  have RX := Lib.hid (Row.fresh w 59 #[.int .i64 q.k, .bool q.a, .int .i64 q.n, .bool q.s])
  clear h o1 hr
  generalize roomP nd na ps q.a = r at RM d
  go_enter Try.func37, Try.ntmps37
  go_wp2_with fail
  (with_reducible refine (RM.out).mono ?_)
  rintro e w1 ⟨rfl, o⟩
  have O2 := Lib.hid (O1.out.same o)
  have RX1 := Lib.hid (o.still RX.out)
  have H1 := Lib.hid (H.out.still O2.out)
  obtain ⟨x, hx⟩ : ∃ x, w.heap.size = x := ⟨_, rfl⟩
  have nx : p ≠ x := by omega
  have nb : b ≠ x := by omega
  rw [hx] at RX1 ⊢
  have HX := Lib.hid hx
  clear o RX RM H
  have c3 : w1.cell? ⟨p, 3, none⟩ = some (.int .i64 L) := by rw [H1.out.row.cell]; rfl
  have c2 : w1.cell? ⟨p, 2, none⟩ = some (.map (some b)) := by rw [H1.out.row.cell]; rfl
  have z3 := H1.out.row.frozen 3
  have z2 := RX1.out.frozen 2
  obtain ⟨e0, e1, e2, e3⟩ := RX1.out.four
  go_wp2_with fail
  (with_reducible refine (unless_yes _ _).mono ?_)
  rintro e w' ⟨rfl, rfl⟩
  go_wp2_with fail
  have oS := ((Only.refl (fun k => k = p ∨ k = x) w1).into (b := p) (.inl rfl) 3 (.int .i64 ((L : Int) + 1))).into (b := x) (.inr rfl) 2 (.int .i64 ((L : Int) + 1))
  have R3 := Lib.hid ((((H1.out.row.put 3 (.int .i64 ((L : Int) + 1))).far (p := ⟨x, 2, none⟩) nx (.int .i64 ((L : Int) + 1)))).drew)
  have RX3 := Lib.hid (((RX1.out.far (p := ⟨p, 3, none⟩) (fun e => nx e.symm) (.int .i64 ((L : Int) + 1))).put 2 (.int .i64 ((L : Int) + 1))).drew)
  have M3 := Lib.hid (H1.out.md.keep oS.drew (fun e => e.elim (fun k => ne k.symm) nb))
  have oP := (O2.out.up (S := two12 p b)).trans oS.drew (fun i hi e => e.elim (fun k => .inl k) (fun k => by omega))
  have OP := Lib.hid oP
  clear oS oP c3 c2 z3 z2 e0 e1 e2 e3
  have c2 : (((w1.setCell ⟨p, 3, none⟩ (.int .i64 ((L : Int) + 1))).setCell ⟨x, 2, none⟩ (.int .i64 ((L : Int) + 1))).drew).cell? ⟨p, 2, none⟩ = some (.map (some b)) := by rw [R3.out.cell]; rfl
  obtain ⟨e0, e1, e2, e3⟩ : (((w1.setCell ⟨p, 3, none⟩ (.int .i64 ((L : Int) + 1))).setCell ⟨x, 2, none⟩ (.int .i64 ((L : Int) + 1))).drew).cell? ⟨x, 0, none⟩ = some (.int .i64 q.k) ∧ (((w1.setCell ⟨p, 3, none⟩ (.int .i64 ((L : Int) + 1))).setCell ⟨x, 2, none⟩ (.int .i64 ((L : Int) + 1))).drew).cell? ⟨x, 1, none⟩ = some (.bool q.a) ∧ (((w1.setCell ⟨p, 3, none⟩ (.int .i64 ((L : Int) + 1))).setCell ⟨x, 2, none⟩ (.int .i64 ((L : Int) + 1))).drew).cell? ⟨x, 2, none⟩ = some (.int .i64 ((L : Int) + 1)) ∧ (((w1.setCell ⟨p, 3, none⟩ (.int .i64 ((L : Int) + 1))).setCell ⟨x, 2, none⟩ (.int .i64 ((L : Int) + 1))).drew).cell? ⟨x, 3, none⟩ = some (.bool q.s) := RX3.out.four
  have ON := Lib.hid (enter_once H1.out.once L q)
  obtain ⟨w5, run5, m5, o5⟩ := M3.out.store (qs := enterP ps L q) ON.out (by have := H1.out.len; omega) ⟨q.k, q.a, L + 1, q.s⟩ wx (fun r hr => by
    rcases List.mem_append.1 hr with hr | hr
    · have := List.mem_filter.1 hr
      exact .inr ⟨this.1, by simpa using this.2⟩
    · exact .inl (List.mem_singleton.1 hr)) (List.mem_append.2 (.inr (by simp))) (fun r hr hk => List.mem_append.2 (.inl (List.mem_filter.2 ⟨hr, by simpa using hk⟩)))
  have M5 := Lib.hid m5
  have O5 := Lib.hid (OP.out.same (o5.more (fun i hi e => .inr e)))
  have R5 := Lib.hid (o5.row R3.out (fun e => ne e))
  unfold plVal at run5
  clear m5 o5
  go_region
  all_goals
    go_wp2_with fail
    go_end0
    exact ⟨rfl, enter_at H1.out HR.out R5.out M5.out ON.out, O5.out⟩
end Go.Proofs.Ytmihinpbgppjlaa

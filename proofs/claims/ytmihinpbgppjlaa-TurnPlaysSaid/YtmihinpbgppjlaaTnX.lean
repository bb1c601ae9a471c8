/- Turns in memory: a ticket waits, or not; it ends. -/
import Derived.Test.YtmihinpbgppjlaaTnM
namespace Go.Proofs.Ytmihinpbgppjlaa
open Go.RowKit Go.Maps
set_option linter.unusedVariables false

/-- a ticket waits, or not -/
def waitP1 (ps : List Pl) (x : Int) (v : Bool) : List Pl := ps.map (fun p => if p.k = x then { p with s := v } else p)
theorem wait1_sl (ps : List Pl) (x : Int) (v : Bool) : (waitP1 ps x v).map Pl.sl = waitS (ps.map Pl.sl) x v := by
  unfold waitP1 waitS
  rw [List.map_map, List.map_map]
  apply List.map_congr_left
  intro p _
  show Pl.sl (if p.k = x then _ else _) = if p.sl.k = x then _ else _
  show Pl.sl (if p.k = x then _ else _) = if p.k = x then _ else _
  split <;> rfl
theorem wait1_k (x : Int) (v : Bool) (p : Pl) : (if p.k = x then { p with s := v } else p).k = p.k ∧ (if p.k = x then { p with s := v } else p).a = p.a ∧ (if p.k = x then { p with s := v } else p).n = p.n := by
  split <;> exact ⟨rfl, rfl, rfl⟩
theorem wait1_same {ps : List Pl} (o : Once ps) {x : Int} {v : Bool} (h : (atP ps x).s = v ∨ hasP ps x = false) : waitP1 ps x v = ps := by
  unfold waitP1
  rw [List.map_congr_left (g := id)]
  · simp
  · intro p hp
    show (if p.k = x then _ else _) = p
    by_cases e : p.k = x
    · rw [if_pos e]
      rcases h with h | h
      · subst e
        rw [atP_of o hp] at h
        cases p
        simp at h ⊢
        exact h.symm
      · have := hasP_iff.2 ⟨p, hp, e⟩
        rw [h] at this; cases this
    · rw [if_neg e]
theorem wait1_at {w w' : World} {p b nd na L : Nat} {ps : List Pl} {x : Int} {v : Bool} (h : TnAt w p b nd na L ps) (r : Row w' p 57 #[.int .i64 nd, .int .i64 na, .map (some b), .int .i64 L]) (m : Md w' b (waitP1 ps x v)) : TnAt w' p b nd na L (waitP1 ps x v) := by
  refine ⟨r, m, ?_, ?_, ?_, ?_, h.nd64, h.na64⟩
  · unfold Once waitP1
    rw [List.pairwise_map]
    exact h.once.imp (fun {a c} k => by rw [(wait1_k x v a).1, (wait1_k x v c).1]; exact k)
  · unfold Rise waitP1
    rw [List.pairwise_map]
    exact h.rise.imp (fun {a c} k => by rw [(wait1_k x v a).2.2, (wait1_k x v c).2.2]; exact k)
  · intro q hq
    obtain ⟨a, ha, rfl⟩ := List.mem_map.1 hq
    rw [(wait1_k x v a).2.2]
    exact h.top a ha
  · intro a
    unfold waitP1
    rw [List.filter_map, List.length_map]
    have : ((fun q : Pl => q.a == a) ∘ fun p : Pl => if p.k = x then { p with s := v } else p) = fun q => q.a == a := by
      funext q
      show ((if q.k = x then { q with s := v } else q).a == a) = _
      rw [(wait1_k x v q).2.1]
    rw [this]
    exact h.few a
theorem wait1_once {ps : List Pl} (h : Once ps) (x : Int) (v : Bool) : Once (waitP1 ps x v) := by
  unfold Once waitP1
  rw [List.pairwise_map]
  exact h.imp (fun {a c} k => by rw [(wait1_k x v a).1, (wait1_k x v c).1]; exact k)
theorem wait1_mem {ps : List Pl} (o : Once ps) {q : Pl} (hq : q ∈ ps) (v : Bool) :
    (∀ p ∈ waitP1 ps q.k v, p = { q with s := v } ∨ (p ∈ ps ∧ p.k ≠ q.k)) ∧ { q with s := v } ∈ waitP1 ps q.k v ∧ ∀ p ∈ ps, p.k ≠ q.k → p ∈ waitP1 ps q.k v := by
  refine ⟨fun p hp => ?_, List.mem_map.2 ⟨q, hq, if_pos rfl⟩, fun p hp hk => List.mem_map.2 ⟨p, hp, if_neg hk⟩⟩
  obtain ⟨a, ha, rfl⟩ := List.mem_map.1 hp
  by_cases e : a.k = q.k
  · rw [if_pos e]
    have := o.inj ha hq e
    subst this
    exact .inl rfl
  · rw [if_neg e]
    exact .inr ⟨ha, e⟩

set_option maxHeartbeats 2000000 in
theorem change1_any {p b nd na L qk qt qa : Nat} {ps : List Pl} (x : Int) (v : Bool) (w : World) (h : TnAt w p b nd na L ps) (ht : Var w qt (.pointer (some ⟨p, 0, none⟩))) (hk : Var w qk (.int .i64 x)) (ha : Var w qa (.bool v)) (wx : (Lit.int .i64 x).wf = true) :
    Calls Try.prog 46 #[.pointer (some ⟨qt, 0, none⟩), .pointer (some ⟨qk, 0, none⟩), .pointer (some ⟨qa, 0, none⟩)] w (Does w p b nd na L (waitC (ps.map Pl.sl) x v) (waitS (ps.map Pl.sl) x v)) := by
  have H := Lib.hid h
  have lk := hk.lt
  have lt' := ht.lt
  have la := ha.lt
  have e0 := has_sl ps x
  rw [← wait1_sl]
  cases hh : hasP ps x with
  | false =>
    have PC := Lib.hid (show waitC (ps.map Pl.sl) x v = 3 from by unfold waitC; rw [e0, hh]; rfl)
    have PS := Lib.hid (wait1_same (v := v) h.once (.inr hh))
    have AT := Lib.hid (tat_no x w h wx hh)
    clear h e0 hh
    go_enter Try.func46, Try.ntmps46
    go_wp2_with fail
    (with_reducible refine (AT.out).mono ?_)
    rintro e w1 ⟨rfl, o1⟩
    go_wp2_with fail
    refine ⟨rfl, ?_⟩
    rw [PC.out, PS.out]
    exact ⟨rfl, H.out.to o1, o1.up⟩
  | true =>
    have AT := Lib.hid (tat_yes x w h wx hh)
    have hx0 : hasL (ps.map Pl.sl) x = true := e0.trans hh
    have HK := Lib.hid (atP_has hh)
    have ea := at_sl ps x
    by_cases hs : (atP ps x).s = v
    · have PC := Lib.hid (show waitC (ps.map Pl.sl) x v = 5 from by unfold waitC; rw [hx0, ea]; simp [Pl.sl, hs])
      have PS := Lib.hid (wait1_same (v := v) h.once (.inl hs))
      rw [hs] at AT
      generalize atP ps x = q at *
      clear h e0 hh hx0 ea
      go_enter Try.func46, Try.ntmps46
      go_wp2_with fail
      (with_reducible refine (AT.out).mono ?_)
      rintro e w1 ⟨rfl, o1⟩
      have O1 := Lib.hid o1
      have ha1 : w1.cell? ⟨qa, 0, none⟩ = some (.bool v) := o1.cell ha (fun s => s)
      have la1 : qa < w1.heap.size := Nat.lt_of_lt_of_le la o1.size
      clear o1
      go_wp2_with fail
      (with_reducible refine (unless_no _ _).mono ?_)
      rintro e w' ⟨rfl, rfl⟩
      go_wp2_with fail
      refine ⟨rfl, ?_⟩
      rw [PC.out, PS.out]
      exact ⟨rfl, H.out.to (O1.out.alloc _), (O1.out.alloc _).up⟩
    · have PC := Lib.hid (show waitC (ps.map Pl.sl) x v = 0 from by unfold waitC; rw [hx0, ea]; simp [Pl.sl, hs])
      have W1 := Lib.hid (wait1_mem h.once HK.out.1 v)
      have WO := Lib.hid (wait1_once h.once x v)
      have lp := h.row.lt
      have ne := h.ne
      have WX := Lib.hid wx
      have hne : ((atP ps x).s == v) = false := by simp [hs]
      generalize atP ps x = q at *
      clear h e0 hh hx0 ea hs wx
      go_enter Try.func46, Try.ntmps46
      go_wp2_with fail
      (with_reducible refine (AT.out).mono ?_)
      rintro e w1 ⟨rfl, o1⟩
      have O1 := Lib.hid o1
      have ha1 : w1.cell? ⟨qa, 0, none⟩ = some (.bool v) := o1.cell ha (fun s => s)
      have ht1 : w1.cell? ⟨qt, 0, none⟩ = some (.pointer (some ⟨p, 0, none⟩)) := o1.cell ht (fun s => s)
      have hk1 : w1.cell? ⟨qk, 0, none⟩ = some (.int .i64 x) := o1.cell hk (fun s => s)
      have zz := o1.size
      have la1 : qa < w1.heap.size := Nat.lt_of_lt_of_le la zz
      have lt1 : qt < w1.heap.size := Nat.lt_of_lt_of_le lt' zz
      have lk1 : qk < w1.heap.size := Nat.lt_of_lt_of_le lk zz
      have lp1 : p < w1.heap.size := Nat.lt_of_lt_of_le lp zz
      clear o1 AT
      go_wp2_with fail
      (with_reducible refine (unless_yes _ _).mono ?_)
      rintro e w' ⟨rfl, rfl⟩
      go_wp2_with fail
      have OD := Lib.hid ((O1.out.alloc (.cells #[.int .i64 q.k, .bool q.a, .int .i64 q.n, .bool v] 59)).drew)
      have o9 := Lib.hid ((((Only.refl none_ w1).alloc (.cells #[.int .i64 q.k, .bool q.a, .int .i64 q.n, .bool v] 59)).drew))
      have ht2 : ((w1.alloc (.cells #[.int .i64 q.k, .bool q.a, .int .i64 q.n, .bool v] 59)).drew).cell? ⟨qt, 0, none⟩ = some (.pointer (some ⟨p, 0, none⟩)) := o9.out.cell ht1 (fun s => s)
      have hk2 : ((w1.alloc (.cells #[.int .i64 q.k, .bool q.a, .int .i64 q.n, .bool v] 59)).drew).cell? ⟨qk, 0, none⟩ = some (.int .i64 x) := o9.out.cell hk1 (fun s => s)
      have R2 := Lib.hid (OD.out.still H.out.row)
      have c2 : ((w1.alloc (.cells #[.int .i64 q.k, .bool q.a, .int .i64 q.n, .bool v] 59)).drew).cell? ⟨p, 2, none⟩ = some (.map (some b)) := by rw [R2.out.cell]; rfl
      have RX := Lib.hid (show Row ((w1.alloc (.cells #[.int .i64 q.k, .bool q.a, .int .i64 q.n, .bool v] 59)).drew) w1.heap.size 59 #[.int .i64 q.k, .bool q.a, .int .i64 q.n, .bool v] from Row.fresh w1 _ _)
      obtain ⟨e0, e1, e2, e3⟩ := RX.out.four
      have xk := HK.out.2
      obtain ⟨w5, run5, m5, o5⟩ := (H.out.md.still OD.out).store (qs := waitP1 ps x v) WO.out (by have := H.out.len; omega) ⟨q.k, q.a, q.n, v⟩ (by rw [show (⟨q.k, q.a, q.n, v⟩ : Pl).k = x from xk]; exact WX.out) (by rw [← xk]; exact W1.out.1) (by rw [← xk]; exact W1.out.2.1) (by rw [← xk]; exact W1.out.2.2)
      have M5 := Lib.hid m5
      have O5 := Lib.hid ((OD.out.up (S := two12 p b)).same (o5.more (fun i hi e => .inr e)))
      have R5 := Lib.hid (o5.row R2.out (fun e => ne e))
      unfold plVal at run5
      rw [xk] at run5 e0
      rw [xk]
      rw [xk] at ht2 hk2 c2 e1 e2 e3
      clear m5 o5 hne la1 lt1 lk1 lp1 ha1 ht1 hk1
      go_region
      all_goals
        go_wp2_with fail
        go_end0
        unfold Does
        rw [PC.out]
        exact ⟨rfl, ⟨L, _, wait1_at H.out R5.out M5.out, rfl, by omega⟩, O5.out⟩

/-- a ticket has no place any more -/
theorem end_at {w w' : World} {p b nd na L : Nat} {ps : List Pl} {x : Int} (h : TnAt w p b nd na L ps) (r : Row w' p 57 #[.int .i64 nd, .int .i64 na, .map (some b), .int .i64 L]) (m : Md w' b (ps.filter (fun q => !(q.k == x)))) : TnAt w' p b nd na L (ps.filter (fun q => !(q.k == x))) := by
  refine ⟨r, m, h.once.filter _, h.rise.filter _, fun q hq => h.top q (List.mem_filter.1 hq).1, fun a => ?_, h.nd64, h.na64⟩
  rw [List.filter_filter]
  have : (fun q : Pl => (q.a == a) && !(q.k == x)) = fun q => (!(q.k == x)) && (q.a == a) := by funext q; rw [Bool.and_comm]
  rw [this, ← List.filter_filter]
  exact Nat.le_trans (List.length_filter_le _ _) (h.few a)
theorem cut_none {ps : List Pl} {x : Int} (h : hasP ps x = false) : ps.filter (fun q => !(q.k == x)) = ps := by
  rw [List.filter_eq_self]
  intro s hs
  have : s.k ≠ x := fun e => by
    have := hasP_iff.2 ⟨s, hs, e⟩
    rw [h] at this; cases this
  simpa using this
set_option maxHeartbeats 2000000 in
theorem end1_any {p b nd na L qk qt : Nat} {ps : List Pl} (x : Int) (w : World) (h : TnAt w p b nd na L ps) (ht : Var w qt (.pointer (some ⟨p, 0, none⟩))) (hk : Var w qk (.int .i64 x)) (wx : (Lit.int .i64 x).wf = true) :
    Calls Try.prog 40 #[.pointer (some ⟨qt, 0, none⟩), .pointer (some ⟨qk, 0, none⟩)] w (Does w p b nd na L (endC (ps.map Pl.sl) x) (cutL (ps.map Pl.sl) x)) := by
  have H := Lib.hid h
  have lk := hk.lt
  have lt' := ht.lt
  have e0 := has_sl ps x
  rw [cut_sl]
  cases hh : hasP ps x with
  | false =>
    have PC := Lib.hid (show endC (ps.map Pl.sl) x = 3 from by unfold endC; rw [e0, hh]; rfl)
    have PS := Lib.hid (cut_none hh)
    have AT := Lib.hid (tat_no x w h wx hh)
    clear h e0 hh
    go_enter Try.func40, Try.ntmps40
    go_wp2_with fail
    (with_reducible refine (AT.out).mono ?_)
    rintro e w1 ⟨rfl, o1⟩
    go_wp2_with fail
    refine ⟨rfl, ?_⟩
    rw [PC.out, PS.out]
    exact ⟨rfl, H.out.to o1, o1.up⟩
  | true =>
    have PC := Lib.hid (show endC (ps.map Pl.sl) x = 0 from by unfold endC; rw [e0, hh]; rfl)
    have AT := tat_yes x w h wx hh
    have xk := (atP_has hh).2
    have lp := h.row.lt
    have ne := h.ne
    have WX := Lib.hid wx
    generalize atP ps x = q at *
    rw [xk] at AT
    have AT := Lib.hid AT
    clear h e0 hh wx
    go_enter Try.func40, Try.ntmps40
    go_wp2_with fail
    (with_reducible refine (AT.out).mono ?_)
    rintro e w1 ⟨rfl, o1⟩
    have O1 := Lib.hid o1
    have o9 := Lib.hid ((((Only.refl none_ w1).alloc (.cells #[.int .i64 x, .bool q.a, .int .i64 q.n, .bool q.s] 59)).drew))
    have OD := Lib.hid (O1.out.same o9.out)
    have ht2 : ((w1.alloc (.cells #[.int .i64 x, .bool q.a, .int .i64 q.n, .bool q.s] 59)).drew).cell? ⟨qt, 0, none⟩ = some (.pointer (some ⟨p, 0, none⟩)) := OD.out.cell ht (fun s => s)
    have R2 := Lib.hid (OD.out.still H.out.row)
    have c2 : ((w1.alloc (.cells #[.int .i64 x, .bool q.a, .int .i64 q.n, .bool q.s] 59)).drew).cell? ⟨p, 2, none⟩ = some (.map (some b)) := by rw [R2.out.cell]; rfl
    have RX := Lib.hid (show Row ((w1.alloc (.cells #[.int .i64 x, .bool q.a, .int .i64 q.n, .bool q.s] 59)).drew) w1.heap.size 59 #[.int .i64 x, .bool q.a, .int .i64 q.n, .bool q.s] from Row.fresh w1 _ _)
    obtain ⟨e0, e1, e2, e3⟩ := RX.out.four
    obtain ⟨w5, run5, m5, o5⟩ := (H.out.md.still OD.out).drop (qs := ps.filter (fun q => !(q.k == x))) (H.out.once.filter _) x WX.out (fun r => by rw [List.mem_filter]; simp) 0
    have M5 := Lib.hid m5
    have O5 := Lib.hid ((OD.out.up (S := two12 p b)).same (o5.more (fun i hi e => .inr e)))
    have R5 := Lib.hid (o5.row R2.out (fun e => ne e))
    clear m5 o5 o1 AT
    go_wp2_with fail
    go_region
    all_goals
      go_wp2_with fail
      go_end0
      unfold Does
      rw [PC.out]
      exact ⟨rfl, ⟨L, _, end_at H.out R5.out M5.out, rfl, by omega⟩, O5.out⟩
end Go.Proofs.Ytmihinpbgppjlaa

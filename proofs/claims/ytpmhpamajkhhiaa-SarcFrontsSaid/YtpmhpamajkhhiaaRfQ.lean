/- The document's own shelf: what it tells; how it is made. -/
import Derived.Test.YtpmhpamajkhhiaaRfC
import Derived.Test.YtpmhpamajkhhiaaRingWhere
import Derived.Deep.RegionHeld3
namespace Go.Proofs.Ytpmhpamajkhhiaa
open Go.RowKit
set_option linter.unusedVariables false

def mayB (n bot : Int) : Bool := decide (1 ≤ n ∧ n ≤ 64 ∧ 1 ≤ bot ∧ bot ≤ n)
theorem may_ref (n bot : Int) (w : World) : Calls Try.prog 11 #[.int .i64 n, .int .i64 bot] w fun e w' => e = .returned (.bool (mayB n bot)) ∧ w = w' := by
  have e : mayB n bot = (decide (1 ≤ n) && decide (n ≤ 64) && decide (1 ≤ bot) && decide (bot ≤ n)) := by
    unfold mayB
    by_cases a : 1 ≤ n <;> by_cases b : n ≤ 64 <;> by_cases c : 1 ≤ bot <;> by_cases d : bot ≤ n <;> simp [a, b, c, d]
  rw [e]
  clear e
  cases e1 : decide (1 ≤ n) with
  | false =>
    go_enter Try.func11, Try.ntmps11
    go_wp2
    go_ret
    exact ⟨rfl, rfl⟩
  | true =>
    cases e2 : decide (n ≤ 64) with
    | false =>
      go_enter Try.func11, Try.ntmps11
      go_wp2
      go_ret
      exact ⟨rfl, rfl⟩
    | true =>
      cases e3 : decide (1 ≤ bot) with
      | false =>
        go_enter Try.func11, Try.ntmps11
        go_wp2
        go_ret
        exact ⟨rfl, rfl⟩
      | true =>
        cases e4 : decide (bot ≤ n) with
        | false =>
          go_enter Try.func11, Try.ntmps11
          go_wp2
          go_ret
          exact ⟨rfl, rfl⟩
        | true =>
          go_enter Try.func11, Try.ntmps11
          go_wp2
          go_ret
          exact ⟨rfl, rfl⟩

theorem info_bool_ : (Try.prog.info? 4).map (fun i => (i.zero, i.size, i.bytes)) = some (some (.bool false), 1, 1) := by kernel_rfl
def MakesRef (n bot : Nat) (w : World) (e : Ending) (w' : World) : Prop := ∃ p hb base, e = .returned (.pointer (some ⟨p, 0, none⟩)) ∧ RSh w' p hb (fun g => base ≤ g) (newSh n bot) ∧ w.heap.size ≤ p ∧ w.heap.size ≤ hb ∧ p < base ∧ hb < base ∧ base = w'.heap.size ∧ Only none_ w w'

set_option maxHeartbeats 1000000 in
theorem new_ref (n bot : Nat) (w : World) (h1 : 1 ≤ bot) (h2 : bot ≤ n) (h3 : n ≤ 64) :
    Calls Try.prog 28 #[.int .i64 n, .int .i64 bot] w (MakesRef n bot w) := by
  obtain ⟨i0, hi0, hz0, hz1, hz2⟩ := info_parts info_bool_
  have MK := run_make_flat (P := Try.prog) (c := boolC) false bool1 (by decide) 47 4 i0 (.bool false) Try.underlying47 hi0 hz0 hz1 rfl .i64 .i64 n (by rw [hz2]; omega) (by omega)
  have FN := Lib.hid (fine_new h1 h2 h3)
  clear hi0 hz0 hz1 hz2
  go_enter Try.func28, Try.ntmps28
  go_wp2_with fail
  go_ret
  have r0 := Row.fresh w 4 (flat boolC (List.replicate n false))
  have r1 := Row.fresh (w.alloc (.cells (flat boolC (List.replicate n false)) 4)) 69 #[.int .i64 n, .int .i64 bot, .slice none 0 0, .slice none 0 0, .slice (some ⟨w.heap.size, 0, none⟩) n n]
  simp only [World.size_alloc] at r1
  refine ⟨w.heap.size + 1, w.heap.size, w.heap.size + 1 + 1, rfl, ⟨FN.out, ⟨_, _, r1, OwnsOk.start _ _, OwnsOk.start _ _⟩, r0.alloc _, by omega, by omega, by omega, fun g hg => by simpa using hg⟩, by omega, Nat.le_refl _, by omega, by omega, by simp, ((Only.refl _ _).alloc _).alloc _⟩

/-- a list's value, and what it reads -/
theorem RSh.listAt {w : World} {p hb : Nat} {ok : Nat → Prop} {s : Sh} (h : RSh w p hb ok s) {k : Nat} (hk : k < 2) :
    ∃ v, w.cell? ⟨p, 2 + k, none⟩ = some v ∧ OwnsInts w 0 v (ints (s.li k)) := by
  obtain ⟨f, ⟨v0, v1, r, o0, o1⟩, hr, ne, l1, l2, l3⟩ := h
  have : k = 0 ∨ k = 1 := by omega
  rcases this with rfl | rfl
  · exact ⟨v0, by rw [r.cell]; rfl, o0.1⟩
  · exact ⟨v1, by rw [r.cell]; rfl, o1.1⟩
theorem li_len {s : Sh} (f : s.Fine) (k : Nat) : (s.li k).length ≤ 64 := by
  unfold Sh.li
  split
  · exact fine_len0 f
  · exact fine_len1 f
theorem li_lt {s : Sh} (f : s.Fine) {k : Nat} {x : Nat} (h : x ∈ s.li k) : x < s.n := by
  unfold Sh.li at h
  split at h
  · exact f.lt0 x h
  · exact f.lt1 x h
theorem lst_li {s : Sh} {j : Nat} {k : Nat} (h : s.lst j = k) : j ∈ s.li k ∧ k < 2 := by
  have := lst_cases (s := s) (i := j) (by rw [h]; omega)
  rcases this with ⟨e, m⟩ | ⟨e, m⟩
  · rw [h] at e
    have : k = 0 := by omega
    subst this
    exact ⟨m, by decide⟩
  · rw [h] at e
    have : k = 1 := by omega
    subst this
    exact ⟨m, by decide⟩

theorem last_more {l : List Nat} {h : Nat → Bool} {q x : Nat} (hq : l[q]? = some x) (hall : ∀ y ∈ l.drop (q + 1), h y = true) (hx : h x = false) : l.reverse.find? (fun i => !h i) = some x := by
  have hlt := lt_of_get hq
  have e : l = l.take q ++ x :: l.drop (q + 1) := by
    have h1 := List.take_append_drop q l
    rw [List.drop_eq_getElem_cons hlt] at h1
    rw [List.getElem?_eq_getElem hlt] at hq
    injection hq with hq
    rw [hq] at h1
    exact h1.symm
  rw [e, List.reverse_append, List.reverse_cons, List.append_assoc, List.find?_append]
  have : List.find? (fun i => !h i) (l.drop (q + 1)).reverse = none := by
    rw [List.find?_eq_none]
    intro y hy
    simp [hall y (List.mem_reverse.1 hy)]
  rw [this]
  simp [hx]
theorem last_none {l : List Nat} {h : Nat → Bool} (hall : ∀ y ∈ l, h y = true) : l.reverse.find? (fun i => !h i) = none := by
  rw [List.find?_eq_none]
  intro y hy
  simp [hall y (List.mem_reverse.1 hy)]
theorem drop_more {l : List Nat} {h : Nat → Bool} {q x : Nat} (hq : l[q]? = some x) (hall : ∀ y ∈ l.drop (q + 1), h y = true) (hx : h x = true) : ∀ y ∈ l.drop q, h y = true := by
  have hlt := lt_of_get hq
  rw [List.getElem?_eq_getElem hlt] at hq
  injection hq with hq
  rw [List.drop_eq_getElem_cons hlt, hq]
  intro y hy
  rcases List.mem_cons.1 hy with rfl | hy
  · exact hx
  · exact hall y hy

set_option maxHeartbeats 2000000 in
theorem last_ref (p hb : Nat) (ok : Nat → Prop) (s : Sh) (k : Int) (w : World) (h : RSh w p hb ok s) :
    Calls Try.prog 56 #[.pointer (some ⟨p, 0, none⟩), .int .i64 k] w fun e w' => e = .returned (lastV (s.lastOk k)) ∧ Only none_ w w' := by
  by_cases hk0 : k < 0
  · have e : hasL k = false := by unfold hasL; simp; omega
    have e1 : s.lastOk k = none := by unfold Sh.lastOk Sh.revL; rw [e]; rfl
    rw [e1]
    have d1 : decide (k < 0) = true := by simp [hk0]
    clear h e e1 hk0
    go_enter Try.func56, Try.ntmps56
    go_wp2
    go_ret2
    exact ⟨rfl, Only.refl _ _⟩
  · have d1 : decide (k < 0) = false := by simp; omega
    by_cases hk1 : 1 < k
    · have e : hasL k = false := by unfold hasL; simp; omega
      have e1 : s.lastOk k = none := by unfold Sh.lastOk Sh.revL; rw [e]; rfl
      rw [e1]
      have d2 : decide (1 < k) = true := by simp [hk1]
      clear h e e1 hk1 hk0
      go_enter Try.func56, Try.ntmps56
      go_wp2
      go_ret2
      exact ⟨rfl, Only.refl _ _⟩
    · have d2 : decide (1 < k) = false := by simp; omega
      have e : hasL k = true := by unfold hasL; simp; omega
      have e1 : s.lastOk k = (s.li k.toNat).reverse.find? (fun i => !s.h i) := by unfold Sh.lastOk Sh.revL; rw [e]; rfl
      rw [e1]
      obtain ⟨kn, rfl⟩ : ∃ kn : Nat, k = kn := ⟨k.toNat, by omega⟩
      have hk2 : kn < 2 := by omega
      rw [Int.toNat_natCast]
      obtain ⟨v, c, ov⟩ := h.listAt hk2
      have rv := Reads.of_owns ov
      obtain ⟨a, ca, rfl, ha⟩ := rv
      have HA := Lib.hid ha
      have len64 := li_len h.fine kn
      have LT := Lib.hid (fun x => li_lt h.fine (k := kn) (x := x))
      have MK := Lib.hid (fun j => h.marked (j := j))
      have ch : w.cell? ⟨p, 4, none⟩ = some (.slice (some ⟨hb, 0, none⟩) s.n s.n) := by
        obtain ⟨f, ⟨v0, v1, r, o0, o1⟩, hr, ne, l1, l2, l3⟩ := h
        rw [r.cell]; rfl
      have n64 := h.fine.n64
      have kb : (kn : Int) < 2 := by omega
      clear h e e1 hk0 hk1 ha ov
      generalize s.li kn = l at *
      rw [ints_len] at c
      have d2' : decide (1 < kn) = false := by simp; omega
      have d1' : decide (kn < 0) = false := by simp
      have IL := Lib.hid (show ∀ (q x : Nat), l[q]? = some x → (ints l)[q]? = some (x : Int) from fun q x hx => by unfold ints; rw [List.getElem?_map, hx]; rfl)
      go_enter Try.func56, Try.ntmps56
      go_wp2_with fail
      go_loopw [6] (fun i wr => ∃ q : Nat, q ≤ l.length ∧ i = .int .i64 ((q : Int) - 1) ∧ (∀ y ∈ l.drop q, s.h y = true) ∧ Only none_ w wr) (fun i _ => (intOf i + 1).toNat)
      case atStart => exact ⟨l.length, Nat.le_refl _, rfl, by simp, Only.refl _ _⟩
      case round =>
        obtain ⟨q, hq, rfl, hall, hO⟩ := hrel
        have HD := Lib.hid hall
        have HO := Lib.hid hO
        clear hall hO
        rcases q with _ | q
        · have LN := Lib.hid (last_none (l := l) (h := s.h) (by simpa using HD.out))
          go_wp2_with fail
          go_ret2
          exact ⟨by rw [LN.out]; rfl, HO.out⟩
        · obtain ⟨x, hx⟩ : ∃ x, l[q]? = some x := ⟨_, List.getElem?_eq_getElem (by omega)⟩
          obtain ⟨g, o, rfl, cx⟩ := HA.out q x (IL.out q x hx)
          have hxn := LT.out x (List.mem_of_getElem? hx)
          have cm := HO.out.cell (MK.out x hxn) (fun s => s)
          have cx2 := HO.out.cell cx (fun s => s)
          have c2 := HO.out.cell c (fun s => s)
          have ch2 := HO.out.cell ch (fun s => s)
          have HX := Lib.hid hx
          have bx : (x : Int) < (s.n : Int) := by omega
          have bq : (q : Int) < (l.length : Int) := by omega
          have qe : ((q + 1 : Nat) : Int) - 1 = (q : Int) := by omega
          have b0 : decide (0 ≤ q) = true := by simp
          clear hx cx
          rw [qe]
          cases e : s.h x with
          | true =>
            rw [e] at cm
            have DM := Lib.hid (drop_more HX.out HD.out e)
            clear e qe
            go_wp2_with fail
            go_quiet (fail)
            go_wp2_with fail
            go_roundw
            case rel => exact ⟨q, by omega, by go_num, DM.out, HO.out.drewN _⟩
            case measure => simp [intOf]
          | false =>
            rw [e] at cm
            have LM := Lib.hid (last_more HX.out HD.out e)
            clear e qe
            go_wp2_with fail
            go_quiet (fail)
            go_wp2_with fail
            go_ret2
            exact ⟨by rw [LM.out]; rfl, HO.out.drewN _⟩

theorem idx_rev {l : List Nat} (hn : l.Nodup) {x : Nat} (h : x ∈ l) : l.reverse.idxOf x + l.idxOf x + 1 = l.length := by
  obtain ⟨p, q, rfl⟩ := List.append_of_mem h
  have hn2 := List.nodup_append.1 hn
  have h1 : x ∉ p := fun k => hn2.2.2 x k x (by simp) rfl
  have h2 : x ∉ q.reverse := fun k => (List.nodup_cons.1 hn2.2.1).1 (List.mem_reverse.1 k)
  rw [List.idxOf_append, if_neg h1, List.idxOf_cons_self, List.reverse_append, List.reverse_cons, List.append_assoc, List.idxOf_append, if_neg h2, List.singleton_append, List.idxOf_cons_self]
  simp
  omega

set_option maxHeartbeats 2000000 in
theorem where_ref (p hb : Nat) (ok : Nat → Prop) (s : Sh) (i : Int) (w : World) (h : RSh w p hb ok s) :
    Calls Try.prog 53 #[.pointer (some ⟨p, 0, none⟩), .int .i64 i] w fun e w' => e = .returned (s.whereV i) ∧ Only none_ w w' := by
  have L := list_ref p hb ok s i w h
  rcases lstI_ge s i with e | e | e
  case inr.inr =>
    have e1 : s.liesC i ≠ 0 := by
      rw [liesC_ref h.fine, e]
      split
      · rw [if_pos rfl]; decide
      · decide
    have e2 : s.whereV i = .tuple #[.int .i64 0, .bool false, .bool false] := by unfold Sh.whereV; rw [if_neg e1]
    rw [e2]
    rw [e] at L
    have L := Lib.hid L
    clear h e e1 e2
    go_enter Try.func53, Try.ntmps53
    go_wp2_with fail
    (with_reducible refine (L.out).mono ?_)
    rintro e w' ⟨rfl, rfl⟩
    go_wp2
    go_ret3
    exact ⟨rfl, Only.refl _ _⟩
  all_goals
    obtain ⟨j, rfl⟩ : ∃ j : Nat, i = j := ⟨i.toNat, by
      have : i ∈ ints s.l0 ∨ i ∈ ints s.l1 := by
        unfold Sh.lstI at e
        split at e
        · rename_i m; exact .inl m
        · split at e
          · rename_i m; exact .inr m
          · exact absurd e (by decide)
      have := this.elim ints_neg ints_neg
      omega⟩
    rw [e] at L
    rw [lstI_nat] at e
    have hn := h.fine
    have e1 : s.liesC j = 0 := by
      have : j < s.n := by
        rcases lst_cases (s := s) (i := j) (by rw [e]; decide) with ⟨_, m⟩ | ⟨_, m⟩
        · exact hn.lt0 j m
        · exact hn.lt1 j m
      rw [liesC_ref hn, lstI_nat, e]
      have : hasN s.n j = true := by unfold hasN; simp; omega
      rw [this]
      rfl
    have e2 : s.whereV j = .tuple #[.int .i64 (s.lst j), .bool (decide ((s.revL (s.lst j)).idxOf j < s.bot)), .bool true] := by unfold Sh.whereV; rw [if_pos e1, Int.toNat_natCast]
    rw [e2, e]
    have b64 := hn.botn
    have n64 := hn.n64
  · have m := (lst_li (k := 0) e).1
    have e3 : s.revL 0 = s.l0.reverse := rfl
    have ix := idx_rev hn.nd0 m
    obtain ⟨v, c, ov⟩ := h.listAt (k := 0) (by decide)
    have FD := Lib.hid (fun q => (find_any v _ j (w.drewN q) (Reads.of_owns (ov.still ((Only.refl none_ w).drewN q))) (by rw [ints_len]; have := li_len hn 0; omega)).mono (fun e w'' h => And.intro h.1 h.2.symm))
    rw [findI_in m] at FD
    have cb : w.cell? ⟨p, 1, none⟩ = some (.int .i64 s.bot) := by
      obtain ⟨f, ⟨v0, v1, r, o0, o1⟩, hr, ne, l1, l2, l3⟩ := h
      rw [r.cell]; rfl
    have l64 := li_len hn 0
    rw [e3]
    obtain ⟨a, ca, rfl, _⟩ := Reads.of_owns ov
    rw [ints_len] at c FD
    have L := Lib.hid L
    clear h hn e e1 e2 e3 ov m
    rw [show s.l0.length = (s.li 0).length from rfl] at ix
    rw [show s.l0.idxOf j = (s.li 0).idxOf j from rfl] at ix
    have E := Lib.hid (show decide (s.l0.reverse.idxOf j < s.bot) = decide ((((s.li 0).length : Nat) : Int) - (s.bot : Int) ≤ (((s.li 0).idxOf j : Nat) : Int)) from by
      by_cases q : s.l0.reverse.idxOf j < s.bot
      · have : (((s.li 0).length : Nat) : Int) - (s.bot : Int) ≤ (((s.li 0).idxOf j : Nat) : Int) := by omega
        simp [q, this]
      · have : ¬ (((s.li 0).length : Nat) : Int) - (s.bot : Int) ≤ (((s.li 0).idxOf j : Nat) : Int) := by omega
        simp [q, this])
    rw [E.out]
    have i64 : (s.li 0).idxOf j ≤ 64 := by omega
    clear ix
    generalize (s.li 0).idxOf j = x at *
    generalize (s.li 0).length = len at *
    go_enter Try.func53, Try.ntmps53
    go_wp2_with fail
    (with_reducible refine (L.out).mono ?_)
    rintro e w' ⟨rfl, rfl⟩
    go_wp2_with fail
    go_quiet ((go_at_call 19; exact Calls.quiet_of_same (FD.out _)))
    go_wp2
    go_ret3
    exact ⟨rfl, (Only.refl _ _).drewN _⟩
  · have m := (lst_li (k := 1) e).1
    have e3 : s.revL 1 = s.l1.reverse := rfl
    have ix := idx_rev hn.nd1 m
    obtain ⟨v, c, ov⟩ := h.listAt (k := 1) (by decide)
    have FD := Lib.hid (fun q => (find_any v _ j (w.drewN q) (Reads.of_owns (ov.still ((Only.refl none_ w).drewN q))) (by rw [ints_len]; have := li_len hn 1; omega)).mono (fun e w'' h => And.intro h.1 h.2.symm))
    rw [findI_in m] at FD
    have cb : w.cell? ⟨p, 1, none⟩ = some (.int .i64 s.bot) := by
      obtain ⟨f, ⟨v0, v1, r, o0, o1⟩, hr, ne, l1, l2, l3⟩ := h
      rw [r.cell]; rfl
    have l64 := li_len hn 1
    rw [e3]
    obtain ⟨a, ca, rfl, _⟩ := Reads.of_owns ov
    rw [ints_len] at c FD
    have L := Lib.hid L
    clear h hn e e1 e2 e3 ov m
    rw [show s.l1.length = (s.li 1).length from rfl] at ix
    rw [show s.l1.idxOf j = (s.li 1).idxOf j from rfl] at ix
    have E := Lib.hid (show decide (s.l1.reverse.idxOf j < s.bot) = decide ((((s.li 1).length : Nat) : Int) - (s.bot : Int) ≤ (((s.li 1).idxOf j : Nat) : Int)) from by
      by_cases q : s.l1.reverse.idxOf j < s.bot
      · have : (((s.li 1).length : Nat) : Int) - (s.bot : Int) ≤ (((s.li 1).idxOf j : Nat) : Int) := by omega
        simp [q, this]
      · have : ¬ (((s.li 1).length : Nat) : Int) - (s.bot : Int) ≤ (((s.li 1).idxOf j : Nat) : Int) := by omega
        simp [q, this])
    rw [E.out]
    have i64 : (s.li 1).idxOf j ≤ 64 := by omega
    clear ix
    generalize (s.li 1).idxOf j = x at *
    generalize (s.li 1).length = len at *
    go_enter Try.func53, Try.ntmps53
    go_wp2_with fail
    (with_reducible refine (L.out).mono ?_)
    rintro e w' ⟨rfl, rfl⟩
    go_wp2_with fail
    go_quiet ((go_at_call 19; exact Calls.quiet_of_same (FD.out _)))
    go_wp2
    go_ret3
    exact ⟨rfl, (Only.refl _ _).drewN _⟩

/-- the held ones among the first k -/
def Sh.heldTo (s : Sh) (k : Nat) : List Nat := (List.range k).filter s.h
theorem sheld_more (s : Sh) (k : Nat) : s.heldTo (k + 1) = if s.h k = true then s.heldTo k ++ [k] else s.heldTo k := by
  unfold Sh.heldTo
  rw [List.range_succ, List.filter_append]
  cases e : s.h k <;> simp [e]
theorem sheld_le (s : Sh) (k : Nat) : (s.heldTo k).length ≤ k := by
  unfold Sh.heldTo
  exact Nat.le_trans (List.length_filter_le _ _) (by simp)

set_option maxHeartbeats 4000000 in
theorem held_ref (p hb : Nat) (ok : Nat → Prop) (s : Sh) (w : World) (h : RSh w p hb ok s) :
    Calls Try.prog 35 #[.pointer (some ⟨p, 0, none⟩)] w fun e w' => ∃ v, e = .returned v ∧ OwnsInts w' w.heap.size v (ints s.heldL) ∧ Only none_ w w' := by
  have ch : w.cell? ⟨p, 4, none⟩ = some (.slice (some ⟨hb, 0, none⟩) s.n s.n) := by
    obtain ⟨f, ⟨v0, v1, r, o0, o1⟩, hr, ne, l1, l2, l3⟩ := h
    rw [r.cell]; rfl
  have cn : w.cell? ⟨p, 0, none⟩ = some (.int .i64 s.n) := by
    obtain ⟨f, ⟨v0, v1, r, o0, o1⟩, hr, ne, l1, l2, l3⟩ := h
    rw [r.cell]; rfl
  have MK := Lib.hid (fun j => h.marked (j := j))
  have n64 := h.fine.n64
  obtain ⟨i0, hi0, hz0, hz1, hz2⟩ := info_parts info_int8
  have I0 := Lib.hid hi0
  have I1 := Lib.hid hz0
  have I2 := Lib.hid hz1
  have I3 := Lib.hid hz2
  have HS := Lib.hid (sheld_more s)
  have LE := sheld_le s
  have HA := Lib.hid (show s.heldTo s.n = s.heldL from rfl)
  clear hi0 hz0 hz1 hz2 h
  go_enter Try.func35, Try.ntmps35
  go_wp2_with fail
  go_loopw [3, 4] (fun v i wr => ∃ (k : Nat), k ≤ s.n ∧ i = .int .i64 k ∧ OwnsInts wr w.heap.size v (ints (s.heldTo k)) ∧ Only none_ w wr) (fun _ i _ => s.n - (intOf i).toNat)
  case atStart => exact ⟨0, Nat.zero_le _, rfl, Owns.start _ _ _ _ _, Only.refl _ _⟩
  case round =>
    obtain ⟨k, hk, rfl, hV, hO⟩ := hrel
    have HO := Lib.hid hO
    have HW := Lib.hid hV
    clear hO hV
    have cn2 := HO.out.cell cn (fun s => s)
    have ch2 := HO.out.cell ch (fun s => s)
    by_cases hlt : k < s.n
    · have cm := HO.out.cell (MK.out k hlt) (fun s => s)
      have bk : (k : Int) < (s.n : Int) := by omega
      have HSK := HS.out k
      have lek := LE k
      cases e : s.h k with
      | true =>
        rw [e] at cm HSK
        rw [if_pos rfl] at HSK
        have HSK := Lib.hid HSK
        have OO := (Only.refl none_ wr).alloc (.cells #[.int .i64 k] 3)
        have RF := Lib.hid (Row.fresh wr 3 #[.int .i64 k])
        have HW2 := Lib.hid (HW.out.still OO)
        have HO2 := Lib.hid (HO.out.idle OO)
        have sz : w.heap.size ≤ (wr.alloc (.cells #[.int .i64 k] 3)).heap.size := HO2.out.size
        have l1 := Lib.hid (show (ints (s.heldTo k)).length < 9223372036854775807 by rw [ints_len]; omega)
        have l2 := Lib.hid (show ((ints (s.heldTo k)).length + 1) * 8 ≤ 140737488355328 by rw [ints_len]; omega)
        clear OO e
        go_wp2_with (at_builtin; go_loud (refine wpList_append_one rfl (.tmp 20) (.tmp 22) 35 rfl (c := one) i0 _ 8 Try.underlying35 I0.out I1.out I2.out I3.out rfl (by decide) one1 one_one rfl HW2.out (y := (k : Int)) rfl RF.out l1.out l2.out sz ?_; intro v5 w5 hown5 hO5))
        rw [← ints_more, ← HSK.out] at hown5
        have HO5 := Lib.hid (HO2.out.trans hO5 (fun i hi q => by omega))
        have W5 := Lib.hid hown5
        clear hown5 hO5
        go_wp2_with fail
        go_roundw
        case rel => exact ⟨k + 1, by omega, by go_num, W5.out, HO5.out⟩
        case measure => simp [intOf]; omega
      | false =>
        rw [e] at cm HSK
        rw [if_neg (by decide)] at HSK
        have HSK := Lib.hid HSK
        clear e
        go_wp2_with fail
        go_roundw
        case rel => exact ⟨k + 1, by omega, by go_num, by rw [HSK.out]; exact HW.out, HO.out⟩
        case measure => simp [intOf]; omega
    · have hk2 : k = s.n := by omega
      subst hk2
      have dk : decide ((s.n : Int) < (s.n : Int)) = false := by simp
      rw [HA.out] at HW
      go_wp2_with fail
      go_ret
      exact ⟨_, rfl, HW.out, HO.out⟩
end Go.Proofs.Ytpmhpamajkhhiaa

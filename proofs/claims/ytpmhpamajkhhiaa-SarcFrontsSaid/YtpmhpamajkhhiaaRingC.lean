/- What Front, Drop and Hold do to any shelf that lies in memory. -/
import Derived.Test.YtpmhpamajkhhiaaRingOps
namespace Go.Proofs.Ytpmhpamajkhhiaa
open Go.RowKit
set_option linter.unusedVariables false

/-- the shelf s lies at block p, its nodes at block b -/
structure Lies (w : World) (p b : Nat) (s : Sh) : Prop where
  fine : s.Fine
  it : ∃ ns, Rg w p b s.n s.bot ns ∧ Rep s ns

theorem Lies.keep {w w' : World} {p b : Nat} {s : Sh} (h : Lies w p b s) {S : Nat → Prop} (k : Only S w w') (hp : ¬ S p) (hb : ¬ S b) : Lies w' p b s := by
  obtain ⟨f, ns, r, q⟩ := h
  exact ⟨f, ns, r.keep k hp hb, q⟩
theorem Lies.still {w w' : World} {p b : Nat} {s : Sh} (h : Lies w p b s) (k : Only none_ w w') : Lies w' p b s := h.keep k (fun s => s) (fun s => s)
theorem Lies.lt {w : World} {p b : Nat} {s : Sh} (h : Lies w p b s) : p < w.heap.size ∧ b < w.heap.size := by
  obtain ⟨f, ns, r, q⟩ := h
  exact ⟨r.head.lt, r.row.lt⟩

def Sh.liesC (s : Sh) (i : Int) : Int := if hasN s.n i then if s.lst i.toNat = -1 then 3 else 0 else 1
def Sh.frontC (s : Sh) (k i : Int) : Int := if hasL k && hasN s.n i then 0 else 1
def Sh.frontS (s : Sh) (k i : Int) : Sh := if hasL k && hasN s.n i then s.front k.toNat i.toNat else s
def Sh.dropS (s : Sh) (i : Int) : Sh := if s.liesC i = 0 then s.drop i.toNat else s
def Sh.holdS (s : Sh) (i : Int) (b : Bool) : Sh := if s.liesC i = 0 then s.hold i.toNat b else s

theorem rep_liesC {s : Sh} {ns : List Nd} (h : Rep s ns) (i : Int) : Go.Proofs.Ytpmhpamajkhhiaa.liesC s.n ns i = s.liesC i := by
  unfold Go.Proofs.Ytpmhpamajkhhiaa.liesC Sh.liesC
  split
  · rename_i e
    have := of_decide_eq_true e
    rw [h.lst _ (by omega)]
  · rfl
theorem hasL_cases {k : Int} (h : hasL k = true) : k = 0 ∨ k = 1 := by
  have := of_decide_eq_true h
  omega
theorem hasN_nat {n : Nat} {i : Int} (h : hasN n i = true) : ∃ j : Nat, i = j ∧ j < n := by
  have := of_decide_eq_true h
  exact ⟨i.toNat, by omega, by omega⟩
theorem liesC_nat {s : Sh} {i : Int} (h : s.liesC i = 0) : ∃ j : Nat, i = j ∧ j < s.n ∧ s.lst j ≠ -1 := by
  unfold Sh.liesC at h
  split at h
  · rename_i e
    obtain ⟨j, rfl, hj⟩ := hasN_nat e
    refine ⟨j, rfl, hj, fun k => ?_⟩
    rw [Int.toNat_natCast, if_pos k] at h
    exact absurd h (by decide)
  · exact absurd h (by decide)
theorem Sh.Fine.frontS {s : Sh} (h : s.Fine) (k i : Int) : (s.frontS k i).Fine := by
  unfold Sh.frontS
  split
  · rename_i e
    rw [Bool.and_eq_true] at e
    obtain ⟨j, rfl, hj⟩ := hasN_nat e.2
    exact h.front _ hj
  · exact h
theorem Sh.Fine.dropS {s : Sh} (h : s.Fine) (i : Int) : (s.dropS i).Fine := by
  unfold Sh.dropS
  split
  · exact h.drop _
  · exact h
theorem Sh.Fine.holdS {s : Sh} (h : s.Fine) (i : Int) (b : Bool) : (s.holdS i b).Fine := by
  unfold Sh.holdS
  split
  · exact h.hold _ _
  · exact h

set_option maxHeartbeats 4000000 in
theorem front_any (p b : Nat) (s : Sh) (k i : Int) (w : World) (h : Lies w p b s) :
    Calls Try.prog 66 #[.pointer (some ⟨p, 0, none⟩), .int .i64 k, .int .i64 i] w fun e w' => e = .returned (.int .i64 (s.frontC k i)) ∧ Lies w' p b (s.frontS k i) ∧ Only (fun k => k = b) w w' := by
  obtain ⟨f, ns, r, q⟩ := h
  have HL := Lib.hid (hasList_any (.pointer (some ⟨p, 0, none⟩)) k w)
  have HN := Lib.hid (has_any p b s.n s.bot ns i w r)
  have F1 := Lib.hid (show Lies w p b s from ⟨f, ns, r, q⟩)
  cases e : hasL k with
  | false =>
    have e1 : s.frontC k i = 1 := by unfold Sh.frontC; rw [e]; rfl
    have e2 : s.frontS k i = s := by unfold Sh.frontS; rw [e]; rfl
    rw [e1, e2]
    rw [e] at HL
    clear r q f HN e1 e2 e
    go_enter Try.func66, Try.ntmps66
    go_wp2_with fail
    (with_reducible refine (HL.out).mono ?_)
    rintro e w' ⟨rfl, rfl⟩
    go_wp2
    go_ret
    exact ⟨rfl, F1.out, Only.refl _ _⟩
  | true =>
    rw [e] at HL
    cases e' : hasN s.n i with
    | false =>
      have e1 : s.frontC k i = 1 := by unfold Sh.frontC; rw [e, e']; rfl
      have e2 : s.frontS k i = s := by unfold Sh.frontS; rw [e, e']; rfl
      rw [e1, e2]
      rw [e'] at HN
      clear r q f e1 e2 e e'
      go_enter Try.func66, Try.ntmps66
      go_wp2_with fail
      (with_reducible refine (HL.out).mono ?_)
      rintro e w' ⟨rfl, rfl⟩
      go_wp2_with fail
      (with_reducible refine (HN.out).mono ?_)
      rintro e w' ⟨rfl, rfl⟩
      go_wp2
      go_ret
      exact ⟨rfl, F1.out, Only.refl _ _⟩
    | true =>
      rw [e'] at HN
      have e1 : s.frontC k i = 0 := by unfold Sh.frontC; rw [e, e']; rfl
      have e2 : s.frontS k i = s.front k.toNat i.toNat := by unfold Sh.frontS; rw [e, e']; rfl
      rw [e1, e2]
      obtain ⟨j, rfl, hj⟩ := hasN_nat e'
      rw [Int.toNat_natCast]
      clear e1 e2 e' F1
      have len := r.len
      have n64 := r.n64
      have bj : (j : Int) < (s.n : Int) + 2 := by omega
      rcases hasL_cases e with rfl | rfl
      · obtain ⟨q2, hA, hB, hC⟩ := q.front0 f hj
        have L := Lib.hid (lift_any p b s.n s.bot ns j w r hj hA hB)
        have Y := Lib.hid (fun w' r' => lay_any p b s.n s.bot (liftN ns j) j s.n w' r' hj (by rw [len_lift]; omega) (by rw [len_lift]; exact hC))
        have Q := Lib.hid q2
        have F2 := Lib.hid (f.front 0 hj)
        have ll : (layN (liftN ns j) j s.n).length = s.n + 2 := by rw [len_lay, len_lift, len]
        have R := Lib.hid r
        have lb := r.row.lt
        have lp := r.head.lt
        clear r q q2 f hA hB hC e len
        generalize layN (liftN ns j) j s.n = n2 at *
        generalize liftN ns j = n1 at *
        go_enter Try.func66, Try.ntmps66
        go_wp2_with fail
        (with_reducible refine (HL.out).mono ?_)
        rintro e w' ⟨rfl, rfl⟩
        go_wp2_with fail
        (with_reducible refine (HN.out).mono ?_)
        rintro e w' ⟨rfl, rfl⟩
        go_wp2_with fail
        (with_reducible refine (L.out).mono ?_)
        rintro e w1 ⟨rfl, r1, o1⟩
        have c := r1.e0
        have O1 := Lib.hid o1
        have Y1 := Lib.hid (Y.out w1 r1)
        clear Y R o1 r1
        go_wp2_with fail
        (with_reducible refine (Y1.out).mono ?_)
        rintro e w2 ⟨rfl, r2, o2⟩
        have c2 := r2.hd
        have z := r2.fz
        obtain ⟨c3, _, _, _⟩ := r2.at_ (i := j) (by omega)
        have O := Lib.hid (O1.out.same o2)
        have R2 := Lib.hid (r2.setL (i := j) (by omega) 0)
        clear Y1 O1 o2 r2 c HL HN L
        go_wp2
        go_ret
        exact ⟨rfl, ⟨F2.out, _, R2.out, Q.out⟩, O.out.into rfl _ _⟩
      · obtain ⟨q2, hA, hB, hC⟩ := q.front1 f hj
        have L := Lib.hid (lift_any p b s.n s.bot ns j w r hj hA hB)
        have Y := Lib.hid (fun w' r' => lay_any p b s.n s.bot (liftN ns j) j (s.n + 1) w' r' hj (by rw [len_lift]; omega) (by rw [len_lift]; exact hC))
        have Q := Lib.hid q2
        have F2 := Lib.hid (f.front 1 hj)
        have ll : (layN (liftN ns j) j (s.n + 1)).length = s.n + 2 := by rw [len_lay, len_lift, len]
        have R := Lib.hid r
        have lb := r.row.lt
        have lp := r.head.lt
        clear r q q2 f hA hB hC e len
        generalize layN (liftN ns j) j (s.n + 1) = n2 at *
        generalize liftN ns j = n1 at *
        go_enter Try.func66, Try.ntmps66
        go_wp2_with fail
        (with_reducible refine (HL.out).mono ?_)
        rintro e w' ⟨rfl, rfl⟩
        go_wp2_with fail
        (with_reducible refine (HN.out).mono ?_)
        rintro e w' ⟨rfl, rfl⟩
        go_wp2_with fail
        (with_reducible refine (L.out).mono ?_)
        rintro e w1 ⟨rfl, r1, o1⟩
        have c := r1.e1
        have O1 := Lib.hid o1
        have Y1 := Y.out w1 r1
        rw [show ((s.n + 1 : Nat) : Int) = (s.n : Int) + 1 from rfl] at Y1
        replace Y1 := Lib.hid Y1
        clear Y R o1 r1
        go_wp2_with fail
        (with_reducible refine (Y1.out).mono ?_)
        rintro e w2 ⟨rfl, r2, o2⟩
        have c2 := r2.hd
        have z := r2.fz
        obtain ⟨c3, _, _, _⟩ := r2.at_ (i := j) (by omega)
        have O := Lib.hid (O1.out.same o2)
        have R2 := Lib.hid (r2.setL (i := j) (by omega) 1)
        clear Y1 O1 o2 r2 c HL HN L
        go_wp2
        go_ret
        exact ⟨rfl, ⟨F2.out, _, R2.out, Q.out⟩, O.out.into rfl _ _⟩

theorem Rg.pairLH {w : World} {p b n bot : Nat} {ns : List Nd} (h : Rg w p b n bot ns) {A : Nat} (hA : A < ns.length) (x : Int) (y : Bool) :
    Rg ((w.setCell ⟨b, A * 4, none⟩ (.int .i64 x)).setCell ⟨b, A * 4 + 1, none⟩ (.bool y)).drew p b n bot (upH (upL ns A x) A y) ∧
    Only (fun k => k = b) w ((w.setCell ⟨b, A * 4, none⟩ (.int .i64 x)).setCell ⟨b, A * 4 + 1, none⟩ (.bool y)).drew :=
  ⟨((h.setL hA x).setH (by rw [len_upL]; exact hA) y).drew, (((Only.refl (fun k => k = b) w).into rfl _ _).into rfl _ _).drew⟩

set_option maxHeartbeats 4000000 in
theorem drop_any (p b : Nat) (s : Sh) (i : Int) (w : World) (h : Lies w p b s) :
    Calls Try.prog 42 #[.pointer (some ⟨p, 0, none⟩), .int .i64 i] w fun e w' => e = .returned (.int .i64 (s.liesC i)) ∧ Lies w' p b (s.dropS i) ∧ Only (fun k => k = b) w w' := by
  obtain ⟨f, ns, r, q⟩ := h
  have LC := lies_any p b s.n s.bot ns i w r
  rw [rep_liesC q] at LC
  by_cases e : s.liesC i = 0
  · have e2 : s.dropS i = s.drop i.toNat := by unfold Sh.dropS; rw [if_pos e]
    rw [e2]
    obtain ⟨j, rfl, hj, _⟩ := liesC_nat e
    rw [e] at LC ⊢
    rw [Int.toNat_natCast]
    obtain ⟨q2, hA, hB⟩ := q.drop f hj
    have LC := Lib.hid LC
    have L := Lib.hid (lift_any p b s.n s.bot ns j w r hj hA hB)
    have Q := Lib.hid q2
    have F2 := Lib.hid (f.drop j)
    have len := r.len
    have n64 := r.n64
    have ll : (liftN ns j).length = s.n + 2 := by rw [len_lift, len]
    have lb := r.row.lt
    have lp := r.head.lt
    have bj : (j : Int) < (s.n : Int) + 2 := by omega
    have ne := r.ne
    have ne' : b ≠ p := fun e => ne e.symm
    clear r q q2 f hA hB len e e2
    generalize liftN ns j = n1 at *
    go_enter Try.func42, Try.ntmps42
    go_wp2_with fail
    (with_reducible refine (LC.out).mono ?_)
    rintro e w' ⟨rfl, rfl⟩
    go_wp2_with fail
    (with_reducible refine (L.out).mono ?_)
    rintro e w1 ⟨rfl, r1, o1⟩
    have c := r1.hd
    have z := r1.fz
    obtain ⟨c0, c1, _, _⟩ := r1.at_ (i := j) (by omega)
    have R2 := Lib.hid (r1.pairLH (A := j) (by omega) (-1) false)
    have O := Lib.hid o1
    clear LC L r1 o1
    go_wp2
    go_region
    go_wp2
    go_ret
    exact ⟨rfl, ⟨F2.out, _, R2.out.1, Q.out⟩, O.out.same R2.out.2⟩
  · have e2 : s.dropS i = s := by unfold Sh.dropS; rw [if_neg e]
    rw [e2]
    have F1 := Lib.hid (show Lies w p b s from ⟨f, ns, r, q⟩)
    have e3 : s.liesC i = 1 ∨ s.liesC i = 3 := by
      unfold Sh.liesC at e ⊢
      split
      · split
        · exact .inr rfl
        · rename_i h1 h2; rw [if_pos h1, if_neg h2] at e; exact absurd rfl e
      · exact .inl rfl
    clear r q f e2 e
    rcases e3 with e | e <;> rw [e] at LC ⊢ <;> clear e
    · go_enter Try.func42, Try.ntmps42
      go_wp2_with fail
      (with_reducible refine (LC).mono ?_)
      rintro e w' ⟨rfl, rfl⟩
      go_wp2
      go_ret
      exact ⟨rfl, F1.out, Only.refl _ _⟩
    · go_enter Try.func42, Try.ntmps42
      go_wp2_with fail
      (with_reducible refine (LC).mono ?_)
      rintro e w' ⟨rfl, rfl⟩
      go_wp2
      go_ret
      exact ⟨rfl, F1.out, Only.refl _ _⟩

set_option maxHeartbeats 4000000 in
theorem hold_any (p b : Nat) (s : Sh) (i : Int) (v : Bool) (w : World) (h : Lies w p b s) :
    Calls Try.prog 48 #[.pointer (some ⟨p, 0, none⟩), .int .i64 i, .bool v] w fun e w' => e = .returned (.int .i64 (s.liesC i)) ∧ Lies w' p b (s.holdS i v) ∧ Only (fun k => k = b) w w' := by
  obtain ⟨f, ns, r, q⟩ := h
  have LC := lies_any p b s.n s.bot ns i w r
  rw [rep_liesC q] at LC
  by_cases e : s.liesC i = 0
  · have e2 : s.holdS i v = s.hold i.toNat v := by unfold Sh.holdS; rw [if_pos e]
    rw [e2]
    obtain ⟨j, rfl, hj, _⟩ := liesC_nat e
    rw [e] at LC ⊢
    rw [Int.toNat_natCast]
    have q2 := q.hold f hj v
    have LC := Lib.hid LC
    have Q := Lib.hid q2
    have F2 := Lib.hid (f.hold j v)
    have len := r.len
    have n64 := r.n64
    have lb := r.row.lt
    have lp := r.head.lt
    have bj : (j : Int) < (s.n : Int) + 2 := by omega
    have c := r.hd
    have z := r.fz
    obtain ⟨_, c1, _, _⟩ := r.at_ (i := j) (by omega)
    have R2 := Lib.hid (r.setH (i := j) (by omega) v)
    clear r q q2 f e e2
    go_enter Try.func48, Try.ntmps48
    go_wp2_with fail
    (with_reducible refine (LC.out).mono ?_)
    rintro e w' ⟨rfl, rfl⟩
    go_wp2
    go_ret
    exact ⟨rfl, ⟨F2.out, _, R2.out, Q.out⟩, (Only.refl (fun k => k = b) w).into rfl _ _⟩
  · have e2 : s.holdS i v = s := by unfold Sh.holdS; rw [if_neg e]
    rw [e2]
    have F1 := Lib.hid (show Lies w p b s from ⟨f, ns, r, q⟩)
    have e3 : s.liesC i = 1 ∨ s.liesC i = 3 := by
      unfold Sh.liesC at e ⊢
      split
      · split
        · exact .inr rfl
        · rename_i h1 h2; rw [if_pos h1, if_neg h2] at e; exact absurd rfl e
      · exact .inl rfl
    clear r q f e2 e
    rcases e3 with e | e <;> rw [e] at LC ⊢ <;> clear e
    · go_enter Try.func48, Try.ntmps48
      go_wp2_with fail
      (with_reducible refine (LC).mono ?_)
      rintro e w' ⟨rfl, rfl⟩
      go_wp2
      go_ret
      exact ⟨rfl, F1.out, Only.refl _ _⟩
    · go_enter Try.func48, Try.ntmps48
      go_wp2_with fail
      (with_reducible refine (LC).mono ?_)
      rintro e w' ⟨rfl, rfl⟩
      go_wp2
      go_ret
      exact ⟨rfl, F1.out, Only.refl _ _⟩
end Go.Proofs.Ytpmhpamajkhhiaa

/- Nodes are taken away and laid: any shelf that lies in memory. -/
import Derived.Test.YtpmhpamajkhhiaaRing
namespace Go.Proofs.Ytpmhpamajkhhiaa
open Go.RowKit
set_option linter.unusedVariables false

theorem upAB {ns : List Nd} {i j x y : Nat} (hi : i < ns.length) (hj : j < ns.length) : upA (upB ns j y) i x = upB (upA ns i x) j y := by
  unfold upA upB
  rw [nd_set hj, nd_set hi]
  by_cases c : i = j
  · subst c
    simp
  · rw [if_neg c, if_neg (fun e => c e.symm), List.set_comm _ _ (fun e => c e.symm)]

def liesC (n : Nat) (ns : List Nd) (i : Int) : Int := if hasN n i then if (nd ns i.toNat).lst = -1 then 3 else 0 else 1

theorem lies_any (p b n bot : Nat) (ns : List Nd) (i : Int) (w : World) (h : Rg w p b n bot ns) :
    Calls Try.prog 61 #[.pointer (some ⟨p, 0, none⟩), .int .i64 i] w fun e w' => e = .returned (.int .i64 (liesC n ns i)) ∧ w = w' := by
  have H := Lib.hid (has_any p b n bot ns i w h)
  have c := h.hd
  have n64 := h.n64
  have len := h.len
  cases e : hasN n i with
  | false =>
    rw [e] at H
    have e2 : liesC n ns i = 1 := by unfold liesC; rw [e]; rfl
    rw [e2]
    clear h e e2
    go_enter Try.func61, Try.ntmps61
    go_wp2_with fail
    (with_reducible refine (H.out).mono ?_)
    rintro e w' ⟨rfl, rfl⟩
    go_wp2
    go_ret
    exact ⟨rfl, rfl⟩
  | true =>
    rw [e] at H
    have hj := of_decide_eq_true e
    obtain ⟨j, rfl⟩ : ∃ j : Nat, i = j := ⟨i.toNat, by omega⟩
    have hj : j < n := by omega
    obtain ⟨c0, _, _, _⟩ := h.at_ (i := j) (by omega)
    by_cases k : (nd ns j).lst = -1
    · have e2 : liesC n ns j = 3 := by unfold liesC; rw [e, if_pos rfl, Int.toNat_natCast, if_pos k]
      rw [e2]
      rw [k] at c0
      clear h e e2 k
      go_enter Try.func61, Try.ntmps61
      go_wp2_with fail
      (with_reducible refine (H.out).mono ?_)
      rintro e w' ⟨rfl, rfl⟩
      go_wp2
      go_ret
      exact ⟨rfl, rfl⟩
    · have e2 : liesC n ns j = 0 := by unfold liesC; rw [e, if_pos rfl, Int.toNat_natCast, if_neg k]
      rw [e2]
      generalize (nd ns j).lst = t at *
      clear h e e2
      go_enter Try.func61, Try.ntmps61
      go_wp2_with fail
      (with_reducible refine (H.out).mono ?_)
      rintro e w' ⟨rfl, rfl⟩
      go_wp2
      go_ret
      exact ⟨rfl, rfl⟩

theorem Rg.two {w : World} {p b n bot : Nat} {ns : List Nd} (h : Rg w p b n bot ns) {A B : Nat} (hA : A < ns.length) (hB : B < ns.length) (m x y : Nat) :
    Rg (((w.drewN m).setCell ⟨b, A * 4 + 3, none⟩ (.int .i64 x)).setCell ⟨b, B * 4 + 2, none⟩ (.int .i64 y)) p b n bot (upA (upB ns A x) B y) ∧
    Only (fun k => k = b) w (((w.drewN m).setCell ⟨b, A * 4 + 3, none⟩ (.int .i64 x)).setCell ⟨b, B * 4 + 2, none⟩ (.int .i64 y)) := by
  have h0 : Rg (w.drewN m) p b n bot ns := ⟨h.head, h.row, h.len, h.n64, h.bot64, h.ne⟩
  exact ⟨(h0.setB hA x).setA (by rw [len_upB]; exact hB) y, (((Only.refl (fun k => k = b) w).drewN m).into rfl _ _).into rfl _ _⟩
theorem Rg.pairAB {w : World} {p b n bot : Nat} {ns : List Nd} (h : Rg w p b n bot ns) {A B : Nat} (hA : A < ns.length) (hB : B < ns.length) (x y : Nat) :
    Rg ((w.setCell ⟨b, A * 4 + 2, none⟩ (.int .i64 x)).setCell ⟨b, B * 4 + 3, none⟩ (.int .i64 y)).drew p b n bot (upB (upA ns A x) B y) ∧
    Only (fun k => k = b) w ((w.setCell ⟨b, A * 4 + 2, none⟩ (.int .i64 x)).setCell ⟨b, B * 4 + 3, none⟩ (.int .i64 y)).drew :=
  ⟨((h.setA hA x).setB (by rw [len_upA]; exact hB) y).drew, (((Only.refl (fun k => k = b) w).into rfl _ _).into rfl _ _).drew⟩
theorem Rg.pairBA {w : World} {p b n bot : Nat} {ns : List Nd} (h : Rg w p b n bot ns) {A B : Nat} (hA : A < ns.length) (hB : B < ns.length) (x y : Nat) :
    Rg ((w.setCell ⟨b, A * 4 + 3, none⟩ (.int .i64 x)).setCell ⟨b, B * 4 + 2, none⟩ (.int .i64 y)).drew p b n bot (upA (upB ns A x) B y) ∧
    Only (fun k => k = b) w ((w.setCell ⟨b, A * 4 + 3, none⟩ (.int .i64 x)).setCell ⟨b, B * 4 + 2, none⟩ (.int .i64 y)).drew :=
  ⟨((h.setB hA x).setA (by rw [len_upB]; exact hB) y).drew, (((Only.refl (fun k => k = b) w).into rfl _ _).into rfl _ _).drew⟩

set_option maxHeartbeats 4000000 in
theorem lift_any (p b n bot : Nat) (ns : List Nd) (i : Nat) (w : World) (h : Rg w p b n bot ns) (hi : i < n) (hA : aF ns i < ns.length) (hB : bF ns i < ns.length) :
    Calls Try.prog 62 #[.pointer (some ⟨p, 0, none⟩), .int .i64 i] w fun e w' => e = .returned (.tuple #[]) ∧ Rg w' p b n bot (liftN ns i) ∧ Only (fun k => k = b) w w' := by
  have c := h.hd
  have z := h.fz
  have n64 := h.n64
  have len := h.len
  obtain ⟨_, _, c2, c3⟩ := h.at_ (i := i) (by omega)
  obtain ⟨_, _, _, ca⟩ := h.at_ hA
  obtain ⟨_, _, cb, _⟩ := h.at_ hB
  have lt := h.head.lt
  have lb := h.row.lt
  have ne := h.ne
  have ne' : b ≠ p := fun e => ne e.symm
  have hR := Lib.hid (fun m => h.two hA hB m (bF ns i) (aF ns i))
  clear h
  have eL : liftN ns i = upB (upA (upA (upB ns (aF ns i) (bF ns i)) (bF ns i) (aF ns i)) i i) i i := rfl
  rw [eL]
  clear eL
  generalize aF ns i = A at *
  generalize bF ns i = B at *
  rw [len] at hA hB
  have bi : (i : Int) < (n : Int) + 2 := by omega
  have bA : (A : Int) < (n : Int) + 2 := by omega
  have bB : (B : Int) < (n : Int) + 2 := by omega
  generalize bF ns A = ua at *
  generalize aF ns B = ub at *
  go_enter Try.func62, Try.ntmps62
  go_wp2_with fail
  go_quiet (fail)
  go_wp2
  go_region
  go_wp2
  clear c c2 c3 ca cb z
  obtain ⟨r1, o1⟩ := hR.out (nq + 1)
  clear hR
  generalize ((w.drewN (nq + 1)).setCell ⟨b, A * 4 + 3, none⟩ (.int .i64 B)).setCell ⟨b, B * 4 + 2, none⟩ (.int .i64 A) = W2 at *
  have hl : (upA (upB ns A B) B A).length = n + 2 := by rw [len_upA, len_upB, len]
  obtain ⟨ns2, hns⟩ : ∃ ns2, upA (upB ns A B) B A = ns2 := ⟨_, rfl⟩
  rw [hns] at r1 hl
  have c := r1.hd
  have z := r1.fz
  obtain ⟨_, _, c2, c3⟩ := r1.at_ (i := i) (by omega)
  have R := Lib.hid (r1.pairAB (A := i) (B := i) (by omega) (by omega) i i)
  replace hns := Lib.hid hns
  have O := Lib.hid o1
  clear r1 o1
  go_region
  go_wp2
  go_end0
  obtain rfl := hns.out
  exact ⟨rfl, R.out.1, O.out.same R.out.2⟩

set_option maxHeartbeats 4000000 in
theorem lay_any (p b n bot : Nat) (ns : List Nd) (i e : Nat) (w : World) (h : Rg w p b n bot ns) (hi : i < n) (he : e < ns.length) (hB : bF ns e < ns.length) :
    Calls Try.prog 78 #[.pointer (some ⟨p, 0, none⟩), .int .i64 i, .int .i64 e] w fun e' w' => e' = .returned (.tuple #[]) ∧ Rg w' p b n bot (layN ns i e) ∧ Only (fun k => k = b) w w' := by
  have c := h.hd
  have z := h.fz
  have n64 := h.n64
  have len := h.len
  obtain ⟨_, _, c2, c3⟩ := h.at_ (i := i) (by omega)
  obtain ⟨_, _, _, ce⟩ := h.at_ he
  have lt := h.head.lt
  have lb := h.row.lt
  have ne := h.ne
  have ne' : b ≠ p := fun e => ne e.symm
  have hR := Lib.hid (h.pairAB (A := i) (B := i) (by omega) (by omega) e (bF ns e))
  clear h
  have eL : layN ns i e = upA (upB (upB (upA ns i e) i (bF ns e)) e i) (bF ns e) i := rfl
  rw [eL]
  clear eL
  generalize bF ns e = B at *
  rw [len] at hB he
  have bi : (i : Int) < (n : Int) + 2 := by omega
  have be : (e : Int) < (n : Int) + 2 := by omega
  have bB : (B : Int) < (n : Int) + 2 := by omega
  generalize bF ns i = ua at *
  generalize aF ns i = ub at *
  go_enter Try.func78, Try.ntmps78
  go_wp2
  go_region
  go_wp2
  clear c c2 c3 ce z
  obtain ⟨r1, o1⟩ := hR.out
  clear hR
  generalize ((w.setCell ⟨b, i * 4 + 2, none⟩ (.int .i64 e)).setCell ⟨b, i * 4 + 3, none⟩ (.int .i64 B)).drew = W2 at *
  have hl : (upB (upA ns i e) i B).length = n + 2 := by rw [len_upB, len_upA, len]
  obtain ⟨ns2, hns⟩ : ∃ ns2, upB (upA ns i e) i B = ns2 := ⟨_, rfl⟩
  rw [hns] at r1 hl
  have c := r1.hd
  have z := r1.fz
  obtain ⟨_, _, _, c3⟩ := r1.at_ (i := e) (by omega)
  obtain ⟨_, _, c2, _⟩ := r1.at_ (i := B) (by omega)
  have R := Lib.hid (r1.pairBA (A := e) (B := B) (by omega) (by omega) i i)
  replace hns := Lib.hid hns
  have O := Lib.hid o1
  clear r1 o1
  go_region
  go_wp2
  go_end0
  obtain rfl := hns.out
  exact ⟨rfl, R.out.1, O.out.same R.out.2⟩
end Go.Proofs.Ytpmhpamajkhhiaa

/- What package index's calls answer: Len, Get, Far. -/
import Derived.Test.YtajphhalneaihaaIxLift
namespace Go.Proofs.Ytajphhalneaihaa
open Go.RowKit
set_option linter.unusedVariables false

theorem Ix.drewN {w : World} {p b : Nat} {ps : List Pl} (h : Ix w p b ps) (n : Nat) : Ix (w.drewN n) p b ps := ⟨h.head, h.row, h.pow, h.ne⟩
theorem len_any (p b : Nat) (ps : List Pl) (w : World) (h : Ix w p b ps) :
    Calls Try.prog 18 #[.pointer (some ⟨p, 0, none⟩)] w fun e w' => e = .returned (.int .i64 (cnt ps)) ∧ w = w' := by
  have ck := h.kd
  clear h
  go_enter Try.func18, Try.ntmps18
  go_wp2
  go_ret
  exact ⟨rfl, rfl⟩

set_option maxHeartbeats 1000000 in
theorem get_any (p b : Nat) (ps : List Pl) (key : Int) (w : World) (h : Ix w p b ps) (g : Good ps) :
    Calls Try.prog 16 #[.pointer (some ⟨p, 0, none⟩), .int .i64 key] w fun e w' => e = .returned (.tuple #[.int .i64 (numP ps key), .bool (hasP ps key)]) ∧ Only none_ w w' := by
  have A := Lib.hid (find_any p b ps key w.drew h.drew g.gap g.clean)
  have A2 := Lib.hid (find_any p b ps key (w.alloc (.cells #[.bool false, .int .i64 0, .int .i64 0] 55)).drew (h.alloc _).drew g.gap g.clean)
  have lp := h.head.lt
  have lb := h.row.lt
  have lt := findP_lt key g.gap
  have c := h.hd
  obtain ⟨c0, c1, c2⟩ := h.at_ (at_get lt)
  have n256 := h.pow.le.2
  have O := Lib.hid (Only.refl none_ w)
  have EN := Lib.hid (show (Go.Proofs.Ytajphhalneaihaa.at_ ps (findP ps key)).n = numP ps key from rfl)
  have ET := Lib.hid (show (Go.Proofs.Ytajphhalneaihaa.at_ ps (findP ps key)).taken = hasP ps key from rfl)
  rw [EN.out] at c2
  rw [ET.out] at c0
  clear h g EN ET
  generalize (Go.Proofs.Ytajphhalneaihaa.at_ ps (findP ps key)).key = k at *
  generalize numP ps key = n at *
  generalize hasP ps key = t at *
  generalize findP ps key = i at *
  go_enter Try.func16, Try.ntmps16
  go_wp2
  go_region_with ((go_at_call 26; (first | (with_reducible refine A.out.mono ?_) | (with_reducible refine A2.out.mono ?_)); rintro e w' ⟨rfl, rfl⟩))
  all_goals
    go_wp2
    go_region
    go_wp2
    go_ret2
    exact ⟨rfl, (O.out.alloc _).drew.drew⟩

theorem far_place {N h k : Nat} (hh : h < N) (hk : k < N) : ((sl N h k : Nat) - (h : Nat) : Int) % (N : Int) = (k : Nat) := by
  rcases sl_or N h k with ⟨e, c⟩ | ⟨e, c⟩
  · rw [e, show ((h + k : Nat) : Int) - (h : Int) = (k : Int) by omega]
    exact Int.emod_eq_of_lt (by omega) (by omega)
  · rw [e, show ((h + k - N : Nat) : Int) - (h : Int) = (k : Int) + (N : Int) * (-1) by omega, Int.add_mul_emod_self_left]
    exact Int.emod_eq_of_lt (by omega) (by omega)

set_option maxHeartbeats 1000000 in
theorem far_any (p b : Nat) (ps : List Pl) (key : Int) (w : World) (h : Ix w p b ps) (g : Good ps) :
    Calls Try.prog 23 #[.pointer (some ⟨p, 0, none⟩), .int .i64 key] w fun e w' => e = .returned (.int .i64 (farP ps key)) ∧ w = w' := by
  have A := Lib.hid (find_any p b ps key w h g.gap g.clean)
  have lt := findP_lt key g.gap
  have fo := found key g.gap
  have n256 := h.pow.le.2
  have hh := hm_lt g.pos key
  unfold farP hasP
  by_cases ht : (Go.Proofs.Ytajphhalneaihaa.at_ ps (findP ps key)).taken = true
  · rw [if_pos ht]
    have E1 := Lib.hid (empty_no p b _ _ w h lt ht)
    have B := Lib.hid (home_any p b ps key w h)
    have C := wrap_any p b ps ((findP ps key : Nat) - (hm ps.length key : Nat) : Int) w h
    have e : ((findP ps key : Nat) - (hm ps.length key : Nat) : Int) % (ps.length : Int) = (findK ps key : Nat) := far_place hh fo.lt
    rw [e] at C
    have C := Lib.hid C
    clear h g ht fo e
    generalize findP ps key = i at *
    generalize findK ps key = k at *
    generalize hm ps.length key = hom at *
    go_enter Try.func23, Try.ntmps23
    go_wp2_with fail
    (with_reducible refine (A.out).mono ?_)
    rintro e w' ⟨rfl, rfl⟩
    go_wp2_with fail
    (with_reducible refine (E1.out).mono ?_)
    rintro e w' ⟨rfl, rfl⟩
    go_wp2_with fail
    (with_reducible refine (B.out).mono ?_)
    rintro e w' ⟨rfl, rfl⟩
    go_wp2_with fail
    (with_reducible refine (C.out).mono ?_)
    rintro e w' ⟨rfl, rfl⟩
    go_wp2_with fail
    go_ret
    exact ⟨rfl, rfl⟩
  · rw [if_neg ht]
    have E1 := Lib.hid (empty_yes p b _ _ w h lt (g.clean _ lt (by simpa using ht)))
    clear h g ht fo
    generalize findP ps key = i at *
    go_enter Try.func23, Try.ntmps23
    go_wp2_with fail
    (with_reducible refine (A.out).mono ?_)
    rintro e w' ⟨rfl, rfl⟩
    go_wp2_with fail
    (with_reducible refine (E1.out).mono ?_)
    rintro e w' ⟨rfl, rfl⟩
    go_wp2_with fail
    go_ret
    exact ⟨rfl, rfl⟩

def Puts (p b : Nat) (T : List Pl) (w w' : World) : Prop := Ix w' p b T ∧ Only (two p b) w w'

set_option maxHeartbeats 2000000 in
theorem put_any (p b : Nat) (ps : List Pl) (key n : Int) (w : World) (h : Ix w p b ps) (g : Good ps) :
    Calls Try.prog 12 #[.pointer (some ⟨p, 0, none⟩), .int .i64 key, .int .i64 n] w fun e w' => e = .returned (.int .i64 (putP ps key n).2) ∧ Puts p b (putP ps key n).1 w w' := by
  by_cases h1 : key < 0 ∨ 1048576 < key
  · have e : putP ps key n = (ps, 1) := by unfold putP; rw [if_pos h1]
    rw [e]
    have H := Lib.hid h
    clear h g e
    rcases h1 with k | k
    · have k' : decide (key < 0) = true := by simpa using k
      go_enter Try.func12, Try.ntmps12
      go_wp2
      go_ret
      exact ⟨rfl, H.out, Only.refl _ _⟩
    · have k' : decide (key < 0) = false := by simp; omega
      go_enter Try.func12, Try.ntmps12
      go_wp2
      go_ret
      exact ⟨rfl, H.out, Only.refl _ _⟩
  · have A := Lib.hid (find_any p b ps key w h g.gap g.clean)
    have lt := findP_lt key g.gap
    have n256 := h.pow.le.2
    have k0 : 0 ≤ key := by omega
    have k1 : key ≤ 1048576 := by omega
    have cb := cnt_le ps
    by_cases ht : (Go.Proofs.Ytajphhalneaihaa.at_ ps (findP ps key)).taken = true
    · have e : putP ps key n = (ps.set (findP ps key) ⟨true, key, n⟩, 0) := by unfold putP; rw [if_neg h1, if_neg (by rw [ht]; simp)]
      rw [e]
      have E1 := Lib.hid (fun m => (empty_no p b _ _ (w.drewN m) (h.drewN m) lt ht).mono (fun e w'' h => And.intro h.1 h.2.symm))
      have L := Lib.hid (fun m => lay_over p b ps _ key n (w.drewN m) (h.drewN m) lt ht)
      clear h g e h1 ht
      generalize findP ps key = i at *
      go_enter Try.func12, Try.ntmps12
      go_wp2_with fail
      (with_reducible refine (A.out).mono ?_)
      rintro e w' ⟨rfl, rfl⟩
      go_wp2_with fail
      go_quiet ((go_at_call 27; exact Calls.quiet_of_same (E1.out _)))
      go_wp2_with fail
      (with_reducible refine ((L.out _)).mono ?_)
      rintro e w1 ⟨rfl, h1, o1⟩
      go_wp2_with fail
      go_ret
      exact ⟨rfl, h1, ((Only.refl _ w).drewN _).same o1⟩
    · have hn : Go.Proofs.Ytajphhalneaihaa.at_ ps (findP ps key) = Pl.none_ := g.clean _ lt (by simpa using ht)
      have E1 := Lib.hid (fun m => (empty_yes p b _ _ (w.drewN m) (h.drewN m) lt hn).mono (fun e w'' h => And.intro h.1 h.2.symm))
      have c := h.hd
      have ck := h.kd
      by_cases hf : cnt ps + 1 = ps.length
      · have e : putP ps key n = (ps, 2) := by unfold putP; rw [if_neg h1, if_pos ⟨by simpa using ht, hf⟩]
        rw [e]
        have H := Lib.hid h
        have q : (((cnt ps : Nat) : Int) == ((ps.length : Nat) : Int) - 1) = true := by simp; omega
        clear h g e h1 ht hn hf
        generalize findP ps key = i at *
        generalize cnt ps = m at *
        go_enter Try.func12, Try.ntmps12
        go_wp2_with fail
        (with_reducible refine (A.out).mono ?_)
        rintro e w' ⟨rfl, rfl⟩
        go_wp2_with fail
        go_quiet ((go_at_call 27; exact Calls.quiet_of_same (E1.out _)))
        go_wp2_with fail
        go_ret
        exact ⟨rfl, H.out.drewN _, (Only.refl _ w).drewN _⟩
      · have e : putP ps key n = (ps.set (findP ps key) ⟨true, key, n⟩, 0) := by unfold putP; rw [if_neg h1, if_neg (fun q => hf q.2)]
        rw [e]
        have q : (((cnt ps : Nat) : Int) == ((ps.length : Nat) : Int) - 1) = false := by simp; omega
        have L := Lib.hid (fun m => lay_new p b ps _ key n (w.drewN m) (h.drewN m) lt hn)
        clear h g e h1 ht hn hf
        generalize findP ps key = i at *
        generalize cnt ps = m at *
        go_enter Try.func12, Try.ntmps12
        go_wp2_with fail
        (with_reducible refine (A.out).mono ?_)
        rintro e w' ⟨rfl, rfl⟩
        go_wp2_with fail
        go_quiet ((go_at_call 27; exact Calls.quiet_of_same (E1.out _)))
        go_wp2_with fail
        (with_reducible refine ((L.out _)).mono ?_)
        rintro e w1 ⟨rfl, h1, o1⟩
        go_wp2_with fail
        go_ret
        exact ⟨rfl, h1, ((Only.refl _ w).drewN _).same o1⟩
end Go.Proofs.Ytajphhalneaihaa

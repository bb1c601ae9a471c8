/- What the document's own table answers: lay, Put, Get, Far. -/
import Derived.Test.YtajphhalneaihaaRxNew
import Derived.Test.YtajphhalneaihaaIxCalls
namespace Go.Proofs.Ytajphhalneaihaa
open Go.RowKit
set_option linter.unusedVariables false

def Ref (w : World) (p a b c : Nat) (ps : List Pl) : Prop := ∃ ks ns, Rx w p a b c ps ks ns
/-- what may turn in it -/
abbrev three (a b c : Nat) : Nat → Prop := fun k => k = a ∨ k = b ∨ k = c
def Lays (p a b c : Nat) (T : List Pl) (w w' : World) : Prop := Ref w' p a b c T ∧ Only (three a b c) w w'
theorem Ref.still {w w' : World} {p a b c : Nat} {ps : List Pl} (h : Ref w p a b c ps) (o : Only none_ w w') : Ref w' p a b c ps := by
  obtain ⟨ks, ns, h⟩ := h
  exact ⟨ks, ns, h.still o⟩
theorem Ref.keep {w w' : World} {p a b c : Nat} {ps : List Pl} (h : Ref w p a b c ps) {S : Nat → Prop} (o : Only S w w') (hp : ¬ S p) (ha : ¬ S a) (hb : ¬ S b) (hc : ¬ S c) : Ref w' p a b c ps := by
  obtain ⟨ks, ns, h⟩ := h
  exact ⟨ks, ns, h.keep o hp ha hb hc⟩
theorem sl_mod {N h k : Nat} (hh : h < N) (hk : k < N) : ((h : Int) + (k : Int)) % (N : Int) = ((sl N h k : Nat) : Int) := by
  rcases sl_or N h k with ⟨e, c⟩ | ⟨e, c⟩
  · rw [e, Int.emod_eq_of_lt (by omega) (by omega)]; omega
  · rw [e, show (h : Int) + (k : Int) = ((h + k - N : Nat) : Int) + (N : Int) * 1 by omega, Int.add_mul_emod_self_left, Int.emod_eq_of_lt (by omega) (by omega)]

set_option maxHeartbeats 4000000 in
theorem rlay_any (p a b c : Nat) (ps : List Pl) (key n : Int) (w : World) (h : Ref w p a b c ps) (hg : Gap ps) (ht : (Go.Proofs.Ytajphhalneaihaa.at_ ps (findP ps key)).taken = false) (hk : 0 ≤ key) :
    Calls Try.prog 31 #[.pointer (some ⟨p, 0, none⟩), .int .i64 key, .int .i64 n] w fun e w' => e = .returned (.tuple #[]) ∧ Lays p a b c (ps.set (findP ps key) ⟨true, key, n⟩) w w' := by
  obtain ⟨ks, ns, h⟩ := h
  have fo := found key hg
  have lt := findP_lt key hg
  have h0 := h.h0
  have h1 := h.h1
  have h2 := h.h2
  have pab := h.pa
  obtain ⟨n2, n256⟩ := h.few
  have hh := hm_lt (show 0 < ps.length by omega) key
  have e1 : key % (ps.length : Int) = ((hm ps.length key : Nat) : Int) := (hm_cast (by omega) key).symm
  have sp : ∀ k, k < findK ps key → (Go.Proofs.Ytajphhalneaihaa.at_ ps (sl ps.length (hm ps.length key) k)).taken = true := fun k hk => by
    have := fo.before k hk
    unfold stop at this
    simp only [Bool.or_eq_false_iff, Bool.not_eq_false'] at this
    exact this.1
  have SP := Lib.hid sp
  have FE := Lib.hid (show findP ps key = sl ps.length (hm ps.length key) (findK ps key) from rfl)
  have fk := fo.lt
  have HT := Lib.hid ht
  have H := Lib.hid h
  clear fo sp ht hg h
  generalize hm ps.length key = h5 at *
  generalize findK ps key = K at *
  generalize findP ps key = i at *
  go_enter Try.func31, Try.ntmps31
  go_wp2_with fail
  go_loop [7, 8] (fun i _ => ∃ k : Nat, k ≤ K ∧ i = .int .i64 k) (fun i _ => ps.length - (intOf i).toNat)
  case atStart => exact ⟨0, Nat.zero_le _, rfl⟩
  case round =>
    obtain ⟨k, hk2, rfl⟩ := hrel
    have e2 := sl_mod hh (show k < ps.length by omega)
    have ls : sl ps.length h5 k < ps.length := sl_lt hh (by omega)
    have t1 : (k : Int) < (ps.length : Int) := by omega
    by_cases hlt : k < K
    · have c0 := H.out.is_ ls
      rw [SP.out k hlt] at c0
      generalize sl ps.length h5 k = i' at *
      go_wp2_with fail
      go_round
      case rel => exact ⟨k + 1, by omega, by go_num⟩
      case measure => simp [intOf]; omega
    · obtain rfl : k = K := by omega
      have FE2 := FE.out
      have WR := Lib.hid (H.out.write ls key n)
      have c0 := H.out.is_ ls
      have c1 := H.out.k_ ls
      have c2 := H.out.n_ ls
      rw [← FE2, HT.out] at c0
      rw [← FE2] at c1 c2 e2 ls WR
      have za := H.out.ris.frozen
      have zb := H.out.rk.frozen
      have zc := H.out.rn.frozen
      have a1 := H.out.pa
      have a2 := H.out.pb
      have a3 := H.out.pc
      have a4 := H.out.ab
      have a5 := H.out.ac
      have a6 := H.out.bc
      have a1' : a ≠ p := fun e => a1 e.symm
      have a2' : b ≠ p := fun e => a2 e.symm
      have a3' : c ≠ p := fun e => a3 e.symm
      have a4' : b ≠ a := fun e => a4 e.symm
      have a5' : c ≠ a := fun e => a5 e.symm
      have a6' : c ≠ b := fun e => a6 e.symm
      clear FE2
      generalize ks.getD i 0 = x1 at *
      generalize ns.getD i 0 = x2 at *
      go_wp2_with fail
      refine bodyPost_ret (results_none rfl _ _ _) rfl ?_
      exact ⟨rfl, ⟨_, _, WR.out⟩, (((Only.refl (three a b c) w).into (.inl rfl) _ _).into (.inr (.inl rfl)) _ _).into (.inr (.inr rfl)) _ _⟩

set_option maxHeartbeats 2000000 in
theorem rget_any (p a b c : Nat) (ps : List Pl) (key : Int) (w : World) (h : Ref w p a b c ps) (g : Good ps) :
    Calls Try.prog 17 #[.pointer (some ⟨p, 0, none⟩), .int .i64 key] w fun e w' => e = .returned (.tuple #[.int .i64 (numP ps key), .bool (hasP ps key)]) ∧ w = w' := by
  obtain ⟨ks, ns, h⟩ := h
  have A := at_any p a b c ps ks ns key w h g
  have lt := findP_lt key g.gap
  have h2 := h.h2
  have n256 := h.few.2
  unfold atP at A
  by_cases hh : hasP ps key = true
  · rw [if_pos hh] at A
    rw [hh]
    have A := Lib.hid A
    have c2 := h.n_ lt
    rw [(h.same _ lt hh).2] at c2
    change _ = some (Value.int .i64 (numP ps key)) at c2
    clear h g hh
    generalize numP ps key = nu at *
    generalize findP ps key = i at *
    go_enter Try.func17, Try.ntmps17
    go_wp2_with fail
    (with_reducible refine (A.out).mono ?_)
    rintro e w' ⟨rfl, rfl⟩
    go_wp2_with fail
    go_ret2
    exact ⟨rfl, rfl⟩
  · rw [if_neg hh] at A
    have hf : hasP ps key = false := by simpa using hh
    have nz := (g.get key).2.1 hf
    rw [hf, nz]
    have A := Lib.hid A
    clear h g hh hf nz
    go_enter Try.func17, Try.ntmps17
    go_wp2_with fail
    (with_reducible refine (A.out).mono ?_)
    rintro e w' ⟨rfl, rfl⟩
    go_wp2_with fail
    go_ret2
    exact ⟨rfl, rfl⟩

theorem far_ref {N h k : Nat} (hh : h < N) (hk : k < N) : (((sl N h k : Nat) : Int) - (h : Nat) + (N : Int)) % (N : Int) = (k : Nat) := by
  rw [show ((sl N h k : Nat) : Int) - (h : Nat) + (N : Int) = ((sl N h k : Nat) : Int) - (h : Nat) + (N : Int) * 1 by omega, Int.add_mul_emod_self_left]
  exact far_place hh hk
set_option maxHeartbeats 2000000 in
theorem rfar_any (p a b c : Nat) (ps : List Pl) (key : Int) (w : World) (h : Ref w p a b c ps) (g : Good ps) :
    Calls Try.prog 24 #[.pointer (some ⟨p, 0, none⟩), .int .i64 key] w fun e w' => e = .returned (.int .i64 (farP ps key)) ∧ w = w' := by
  obtain ⟨ks, ns, h⟩ := h
  have A := at_any p a b c ps ks ns key w h g
  have lt := findP_lt key g.gap
  have fo := found key g.gap
  have h0 := h.h0
  obtain ⟨n2, n256⟩ := h.few
  unfold atP at A
  unfold farP
  by_cases hh : hasP ps key = true
  · rw [if_pos hh] at A ⊢
    have A := Lib.hid A
    have hl := hm_lt g.pos key
    have kr := g.right _ lt hh
    rw [findP_key g.gap hh] at kr
    obtain ⟨k0, k1⟩ := kr
    have e1 : key % (ps.length : Int) = ((hm ps.length key : Nat) : Int) := (hm_cast (by omega) key).symm
    have e2 : (((findP ps key : Nat) : Int) - (hm ps.length key : Nat) + (ps.length : Int)) % (ps.length : Int) = (findK ps key : Nat) := far_ref hl fo.lt
    clear h g hh fo
    generalize findP ps key = i at *
    generalize hm ps.length key = h5 at *
    generalize findK ps key = K at *
    go_enter Try.func24, Try.ntmps24
    go_wp2_with fail
    (with_reducible refine (A.out).mono ?_)
    rintro e w' ⟨rfl, rfl⟩
    go_wp2_with fail
    go_ret
    exact ⟨ret_int e2, rfl⟩
  · rw [if_neg hh] at A ⊢
    have A := Lib.hid A
    clear h g hh fo
    go_enter Try.func24, Try.ntmps24
    go_wp2_with fail
    (with_reducible refine (A.out).mono ?_)
    rintro e w' ⟨rfl, rfl⟩
    go_wp2_with fail
    go_ret
    exact ⟨rfl, rfl⟩
end Go.Proofs.Ytajphhalneaihaa

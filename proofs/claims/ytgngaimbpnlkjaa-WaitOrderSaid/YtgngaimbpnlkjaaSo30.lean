/- A row of waiters is sorted, from its first to its last. -/
import Derived.Test.YtgngaimbpnlkjaaSo35
import Derived.Test.YtgngaimbpnlkjaaShelf
namespace Go.Proofs.Ytgngaimbpnlkjaa
open Go.RowKit Go.Sort
set_option linter.unusedVariables false

theorem bit_le : ∀ (f x : Nat), Lib.bitLenAux f x ≤ f := by
  intro f
  induction f with
  | zero => intro x; exact Nat.le_refl _
  | succ f ih => intro x; unfold Lib.bitLenAux; have := ih (x / 2); split <;> omega
set_option maxHeartbeats 1000000 in
theorem sort30 {κ : Wt → Int} {w0 : World} {g p n cap : Nat} (LS : Less κ w0 g p) (hn : n ≤ 1000) (d : Array Wt) (w : World) (S : Sq w0 w g d) (hd : d.size = n) :
    Calls Try.prog 30 #[.slice (some ⟨g, 0, none⟩) n cap, cmpV p] w fun e w' => e = .returned (.tuple #[]) ∧ ∃ d', PermIn 0 n d d' ∧ SortedIn (klt κ) 0 n d' ∧ Sq w0 w' g d' := by
  have BL := Lib.hid (fun W => Try.bits_Len (n : Int) W (by omega) (by omega))
  have lb : Lib.bitLen (Int.toNat (n : Int)) ≤ 1000 := by
    exact Nat.le_trans (bit_le 64 _) (by omega)
  generalize Lib.bitLen (Int.toNat (n : Int)) = bl at BL lb
  have C35 := Lib.hid (fun W (s : Sq w0 W g d) => show Calls Try.prog 35 #[.slice (some ⟨g, 0, none⟩) n cap, .int .i64 0, .int .i64 n, .int .i64 bl, .func (.func 31) #[.pointer (some ⟨p, 0, none⟩)] #[]] W (fun e w' => e = .returned (.tuple #[]) ∧ ∃ d', PermIn 0 n d d' ∧ SortedIn (klt κ) 0 n d' ∧ Sq w0 w' g d') from
    pdq35 (cap := cap) LS hn (n + 1) 0 n bl d W (by omega) s hd (Nat.zero_le _) (Nat.le_refl _) lb (Or.inl rfl))
  have S0 := Lib.hid S
  have v1 : IntKind.u64.wrap (n : Int) = (n : Int) := by rw [IntKind.wrap_u64]; omega
  clear LS S hd lb
  unfold cmpV
  go_enter Try.func30, Try.ntmps30
  go_wp2_with fail
  (with_reducible refine (BL.out _).mono ?_)
  rintro e w' ⟨rfl, rfl⟩
  go_wp2_with fail
  (with_reducible refine (C35.out _ S0.out).mono ?_)
  rintro e W1 ⟨rfl, hr⟩
  have R := Lib.hid hr
  clear hr
  go_wp2_with fail
  go_end0
  exact ⟨rfl, R.out⟩
/-- nothing to sort -/
theorem ins48_none (p : Option Addr) (cap : Nat) (fv : Value) (w : World) :
    Calls Try.prog 48 #[.slice p 0 cap, .int .i64 0, .int .i64 0, fv] w fun e w' => e = .returned (.tuple #[]) ∧ w' = w := by
  go_enter Try.func48, Try.ntmps48
  go_wp2_with fail
  go_loopw [8] (fun x wr => x = .int .i64 1 ∧ wr = w) (fun _ _ => 0)
  case atStart => exact ⟨rfl, rfl⟩
  case round =>
    obtain ⟨rfl, rfl⟩ := hrel
    go_wp2_with fail
    go_end0
    exact ⟨rfl, rfl⟩
theorem pdq35_none (p : Option Addr) (cap : Nat) (lim : Int) (fv : Value) (w : World) :
    Calls Try.prog 35 #[.slice p 0 cap, .int .i64 0, .int .i64 0, .int .i64 lim, fv] w fun e w' => e = .returned (.tuple #[]) ∧ w' = w := by
  have C := Lib.hid (fun W => ins48_none p cap fv W)
  go_enter Try.func35, Try.ntmps35
  go_wp2_with fail
  go_loopw [1, 2] (fun x y wr => x = .int .i64 0 ∧ y = .int .i64 0 ∧ wr = w) (fun _ _ _ => 0)
  case atStart => exact ⟨rfl, rfl, rfl⟩
  case round =>
    obtain ⟨rfl, rfl, rfl⟩ := hrel
    go_wp2_with fail
    (with_reducible refine (C.out _).mono ?_)
    rintro e W1 ⟨rfl, rfl⟩
    go_wp2_with fail
    refine bodyPost_ret (results_none rfl _ _ _) rfl ?_
    exact ⟨rfl, rfl⟩
theorem sort30_none (p : Option Addr) (cap : Nat) (fv : Value) (w : World) :
    Calls Try.prog 30 #[.slice p 0 cap, fv] w fun e w' => e = .returned (.tuple #[]) ∧ w' = w := by
  have BL := Lib.hid (fun W => Try.bits_Len 0 W (by omega) (by omega))
  have C := Lib.hid (fun W => pdq35_none p cap 0 fv W)
  have z : Lib.bitLen (Int.toNat 0) = 0 := by decide
  rw [z] at BL
  clear z
  go_enter Try.func30, Try.ntmps30
  go_wp2_with fail
  (with_reducible refine (BL.out _).mono ?_)
  rintro e w' ⟨rfl, rfl⟩
  go_wp2_with fail
  (with_reducible refine (C.out _).mono ?_)
  rintro e w' ⟨rfl, rfl⟩
  go_wp2_with fail
  go_end0
  exact ⟨rfl, rfl⟩
end Go.Proofs.Ytgngaimbpnlkjaa

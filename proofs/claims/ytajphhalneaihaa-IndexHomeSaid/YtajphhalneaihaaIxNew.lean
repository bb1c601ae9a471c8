/- What package index's New answers. -/
import Derived.Test.YtajphhalneaihaaIx
namespace Go.Proofs.Ytajphhalneaihaa
open Go.RowKit
set_option linter.unusedVariables false

def q1 (x : Int) : Int := IntKind.u64.wrap (bits .and .u64 (x / 2) 6148914691236517205 + bits .and .u64 x 6148914691236517205)
def q2 (x : Int) : Int := IntKind.u64.wrap (bits .and .u64 (x / 4) 3689348814741910323 + bits .and .u64 x 3689348814741910323)
def q3 (x : Int) : Int := bits .and .u64 (IntKind.u64.wrap (x / 16 + x)) 1085102592571150095
def q4 (x : Int) : Int := IntKind.u64.wrap (x + x / 256)
def q5 (x : Int) : Int := IntKind.u64.wrap (x + x / 65536)
def q6 (x : Int) : Int := IntKind.u64.wrap (x + x / 4294967296)
/-- how many bits are one -/
def ones (x : Int) : Int := bits .and .i64 (wrap64 (q6 (q5 (q4 (q3 (q2 (q1 x))))))) 127
theorem ones_pow : ∀ x : Fin 257, 2 ≤ x.val → (ones (x.val : Int) == 1) = decide (x.val ∈ [2, 4, 8, 16, 32, 64, 128, 256]) := by decide +kernel

theorem ones64 (x : Int) (w : World) (h0 : 0 ≤ x) (h1 : x ≤ 256) :
    Calls Try.prog 39 #[.int .u64 x] w fun e w' => e = .returned (.int .i64 (ones x)) ∧ w = w' := by
  go_enter Try.func39, Try.ntmps39
  go_wp2
  go_ret
  exact ⟨rfl, rfl⟩
theorem onesCount (x : Int) (w : World) (h0 : 0 ≤ x) (h1 : x ≤ 256) :
    Calls Try.prog 25 #[.int .u64 x] w fun e w' => e = .returned (.int .i64 (ones x)) ∧ w = w' := by
  go_enter Try.func25, Try.ntmps25
  go_wp2_with fail
  (with_reducible refine (ones64 _ _ h0 h1).mono ?_)
  rintro e w' ⟨rfl, rfl⟩
  go_wp2_with fail
  go_ret
  exact ⟨rfl, rfl⟩

theorem pow_iff (n : Nat) : Pow n ↔ n ∈ [2, 4, 8, 16, 32, 64, 128, 256] := by
  constructor
  · rintro ⟨m, h1, h8, rfl⟩
    have : m = 1 ∨ m = 2 ∨ m = 3 ∨ m = 4 ∨ m = 5 ∨ m = 6 ∨ m = 7 ∨ m = 8 := by omega
    rcases this with rfl | rfl | rfl | rfl | rfl | rfl | rfl | rfl <;> decide
  · intro h
    simp only [List.mem_cons, List.not_mem_nil, or_false] at h
    rcases h with rfl | rfl | rfl | rfl | rfl | rfl | rfl | rfl
    · exact ⟨1, by decide, by decide, rfl⟩
    · exact ⟨2, by decide, by decide, rfl⟩
    · exact ⟨3, by decide, by decide, rfl⟩
    · exact ⟨4, by decide, by decide, rfl⟩
    · exact ⟨5, by decide, by decide, rfl⟩
    · exact ⟨6, by decide, by decide, rfl⟩
    · exact ⟨7, by decide, by decide, rfl⟩
    · exact ⟨8, by decide, by decide, rfl⟩

/-- a new table -/
def fresh (n : Nat) : List Pl := List.replicate n Pl.none_
theorem at_fresh (n i : Nat) : Go.Proofs.Ytajphhalneaihaa.at_ (fresh n) i = Pl.none_ := by
  unfold fresh
  rcases Nat.lt_or_ge i n with h | h
  · exact at_of_get (by simp [h])
  · exact at_beyond (by simpa using h)
theorem fresh_len (n : Nat) : (fresh n).length = n := by simp [fresh]
theorem cnt_fresh (n : Nat) : cnt (fresh n) = 0 := by
  unfold cnt fresh
  rw [List.countP_replicate]
  rfl
theorem good_fresh {n : Nat} (h : 0 < n) : Good (fresh n) := by
  have t : ∀ i, (Go.Proofs.Ytajphhalneaihaa.at_ (fresh n) i).taken = true → False := fun i hi => by rw [at_fresh] at hi; cases hi
  exact ⟨⟨0, by rw [fresh_len]; exact h, by rw [at_fresh]; rfl⟩, fun i _ _ => at_fresh n i, fun i _ hi => (t i hi).elim, fun i j _ _ hi _ _ => (t i hi).elim, fun i _ hi => (t i hi).elim⟩
theorem info_place_ : (Try.prog.info? 55).map (fun i => (i.zero, i.size, i.bytes)) = some (some (.agg #[.bool false, .int .i64 0, .int .i64 0]), 3, 24) := by kernel_rfl

def MakesIx (n : Nat) (w : World) (e : Ending) (w' : World) : Prop := ∃ p b, e = .returned (.tuple #[.pointer (some ⟨p, 0, none⟩), .int .i64 0]) ∧ Ix w' p b (fresh n) ∧ w.heap.size ≤ p ∧ w.heap.size ≤ b ∧ Only none_ w w'

set_option maxHeartbeats 1000000 in
theorem new_yes (n : Nat) (w : World) (h : Pow n) :
    Calls Try.prog 9 #[.int .i64 n] w (MakesIx n w) := by
  obtain ⟨h2, h256⟩ := h.le
  have O := ones_pow ⟨n, by omega⟩ h2
  simp only [(pow_iff n).1 h, decide_true] at O
  have A := Lib.hid (onesCount (n : Int) w (by omega) (by omega))
  obtain ⟨i0, hi0, hz0, hz1, hz2⟩ := info_parts info_place_
  have MK := run_make_flat (P := Try.prog) (c := Pl.cells) Pl.none_ pl3 (by decide) 47 55 i0 (.agg #[.bool false, .int .i64 0, .int .i64 0]) Try.underlying47 hi0 hz0 hz1 rfl .i64 .i64 n (by rw [hz2]; omega) (by omega)
  have d1 : decide ((n : Int) < 2) = false := by simp; omega
  have d2 : decide ((256 : Int) < (n : Int)) = false := by simp; omega
  have O1 : (ones (n : Int) != 1) = false := by simp only [bne, O]; rfl
  have HP := Lib.hid h
  clear O h hi0 hz0 hz1 hz2
  generalize ones (n : Int) = o at *
  go_enter Try.func9, Try.ntmps9
  go_wp2_with fail
  (with_reducible refine (A.out).mono ?_)
  rintro e w' ⟨rfl, rfl⟩
  go_wp2_with fail
  go_ret2
  have r0 := Row.fresh w 55 (flat Pl.cells (fresh n))
  have r1 := Row.fresh (w.alloc (.cells (flat Pl.cells (fresh n)) 55)) 49 #[.slice (some ⟨w.heap.size, 0, none⟩) n n, .int .i64 0]
  simp only [World.size_alloc] at r1
  refine ⟨w.heap.size + 1, w.heap.size, rfl, ⟨?_, r0.alloc _, by rw [fresh_len]; exact HP.out, by omega⟩, by omega, Nat.le_refl _, ((Only.refl _ _).alloc _).alloc _⟩
  rw [fresh_len, cnt_fresh]
  exact r1

set_option maxHeartbeats 1000000 in
theorem new_no (n : Int) (w : World) (h : ∀ m : Nat, n = m → ¬ Pow m) :
    Calls Try.prog 9 #[.int .i64 n] w fun e w' => e = .returned (.tuple #[.pointer none, .int .i64 1]) ∧ w = w' := by
  by_cases h2 : n < 2
  · have d1 : decide (n < 2) = true := by simpa using h2
    clear h h2
    go_enter Try.func9, Try.ntmps9
    go_wp2
    go_ret2
    exact ⟨rfl, rfl⟩
  · by_cases h3 : 256 < n
    · have d1 : decide (n < 2) = false := by simp; omega
      clear h h2
      go_enter Try.func9, Try.ntmps9
      go_wp2
      go_ret2
      exact ⟨rfl, rfl⟩
    · obtain ⟨m, rfl⟩ : ∃ m : Nat, n = m := ⟨n.toNat, by omega⟩
      have O := ones_pow ⟨m, by omega⟩ (by show 2 ≤ m; omega)
      have np : ¬ m ∈ [2, 4, 8, 16, 32, 64, 128, 256] := fun q => h m rfl ((pow_iff m).2 q)
      simp only [np, decide_false] at O
      have A := Lib.hid (onesCount (m : Int) w (by omega) (by omega))
      have d1 : decide ((m : Int) < 2) = false := by simp; omega
      have d2 : decide ((256 : Int) < (m : Int)) = false := by simp; omega
      have O1 : (ones (m : Int) != 1) = true := by simp only [bne, O]; rfl
      clear O h np
      generalize ones (m : Int) = o at *
      go_enter Try.func9, Try.ntmps9
      go_wp2_with fail
      (with_reducible refine (A.out).mono ?_)
      rintro e w' ⟨rfl, rfl⟩
      go_wp2_with fail
      go_ret2
      exact ⟨rfl, rfl⟩
end Go.Proofs.Ytajphhalneaihaa

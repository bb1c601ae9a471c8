/- What the small functions of package index answer, of any table that lies in memory. -/
import Derived.Test.YtajphhalneaihaaTabOps
import Derived.Test.YtajphhalneaihaaHeap
import Derived.Test.YtajphhalneaihaaChecked
import Derived.Laws.StructEq
import Derived.Laws.BitsLemmas
import Derived.IntWalk
namespace Go.Proofs.Ytajphhalneaihaa
open Go.RowKit
set_option linter.unusedVariables false

def Pl.cells (p : Pl) : List Value := [.bool p.taken, .int .i64 p.key, .int .i64 p.n]
def Pl.agg (p : Pl) : Value := .agg #[.bool p.taken, .int .i64 p.key, .int .i64 p.n]
theorem pl3 (p : Pl) : p.cells.length = 3 := rfl

/-- a count that may be -/
def Pow (n : Nat) : Prop := ∃ m, 1 ≤ m ∧ m ≤ 8 ∧ n = 2 ^ m
theorem Pow.le {n : Nat} (h : Pow n) : 2 ≤ n ∧ n ≤ 256 := by
  obtain ⟨m, h1, h8, rfl⟩ := h
  have : m = 1 ∨ m = 2 ∨ m = 3 ∨ m = 4 ∨ m = 5 ∨ m = 6 ∨ m = 7 ∨ m = 8 := by omega
  rcases this with rfl | rfl | rfl | rfl | rfl | rfl | rfl | rfl <;> decide
theorem and_pow (m : Nat) (h1 : 1 ≤ m) (h8 : m ≤ 8) (n : Int) : bits .and .i64 n (((2 ^ m : Nat) : Int) - 1) = n % ((2 ^ m : Nat) : Int) := by
  have hN : (BitVec.ofInt 64 (((2 ^ m : Nat) : Int) - 1)).toNat = 2 ^ m - 1 := by
    have : m = 1 ∨ m = 2 ∨ m = 3 ∨ m = 4 ∨ m = 5 ∨ m = 6 ∨ m = 7 ∨ m = 8 := by omega
    rcases this with rfl | rfl | rfl | rfl | rfl | rfl | rfl | rfl <;> decide
  have key : (BitVec.ofInt 64 n &&& BitVec.ofInt 64 (((2 ^ m : Nat) : Int) - 1)).toNat = (n % ((2 ^ 64 : Nat) : Int)).toNat % 2 ^ m := by
    rw [BitVec.toNat_and, BitVec.toNat_ofInt, hN, Nat.and_two_pow_sub_one_eq_mod]
  show IntKind.i64.wrap ((BitVec.ofInt 64 n &&& BitVec.ofInt 64 (((2 ^ m : Nat) : Int) - 1)).toNat : Nat) = _
  rw [key, IntKind.wrap_i64]
  have : m = 1 ∨ m = 2 ∨ m = 3 ∨ m = 4 ∨ m = 5 ∨ m = 6 ∨ m = 7 ∨ m = 8 := by omega
  rcases this with rfl | rfl | rfl | rfl | rfl | rfl | rfl | rfl <;> simp only [Nat.reducePow] <;> omega
theorem Pow.and {N : Nat} (h : Pow N) (n : Int) : bits .and .i64 n ((N : Int) - 1) = n % (N : Int) := by
  obtain ⟨m, h1, h8, rfl⟩ := h
  exact and_pow m h1 h8 n

/-- a table at block p, its places at block b -/
structure Ix (w : World) (p b : Nat) (ps : List Pl) : Prop where
  head : Row w p 49 #[.slice (some ⟨b, 0, none⟩) ps.length ps.length, .int .i64 (cnt ps)]
  row : Row w b 55 (flat Pl.cells ps)
  pow : Pow ps.length
  ne : p ≠ b

theorem Ix.hd {w : World} {p b : Nat} {ps : List Pl} (h : Ix w p b ps) : w.cell? ⟨p, 0, none⟩ = some (.slice (some ⟨b, 0, none⟩) ps.length ps.length) := by rw [h.head.cell]; rfl
theorem Ix.kd {w : World} {p b : Nat} {ps : List Pl} (h : Ix w p b ps) : w.cell? ⟨p, 1, none⟩ = some (.int .i64 (cnt ps)) := by rw [h.head.cell]; rfl
theorem Ix.at_ {w : World} {p b : Nat} {ps : List Pl} (h : Ix w p b ps) {i : Nat} {f : Pl} (hf : ps[i]? = some f) :
    w.cell? ⟨b, i * 3, none⟩ = some (.bool f.taken) ∧ w.cell? ⟨b, i * 3 + 1, none⟩ = some (.int .i64 f.key) ∧ w.cell? ⟨b, i * 3 + 2, none⟩ = some (.int .i64 f.n) := by
  refine ⟨?_, ?_, ?_⟩
  · rw [h.row.cell, show i * 3 = i * 3 + 0 from rfl, flat_get pl3 hf (by decide)]; rfl
  all_goals rw [h.row.cell, flat_get pl3 hf (by decide)]; rfl
theorem Ix.fz {w : World} {p b : Nat} {ps : List Pl} (h : Ix w p b ps) (i : Nat) : w.frozen? ⟨b, i, none⟩ = false := h.row.frozen i
theorem Ix.fp {w : World} {p b : Nat} {ps : List Pl} (h : Ix w p b ps) (i : Nat) : w.frozen? ⟨p, i, none⟩ = false := h.head.frozen i
theorem Ix.keep {w w' : World} {p b : Nat} {ps : List Pl} (h : Ix w p b ps) {S : Nat → Prop} (k : Only S w w') (hp : ¬ S p) (hb : ¬ S b) : Ix w' p b ps := ⟨k.row h.head hp, k.row h.row hb, h.pow, h.ne⟩
theorem Ix.still {w w' : World} {p b : Nat} {ps : List Pl} (h : Ix w p b ps) (k : Only none_ w w') : Ix w' p b ps := h.keep k (fun s => s) (fun s => s)
theorem Ix.far {w : World} {p b : Nat} {ps : List Pl} (h : Ix w p b ps) {a : Addr} (hp : p ≠ a.block) (hb : b ≠ a.block) (v : Value) : Ix (w.setCell a v) p b ps := ⟨h.head.far hp v, h.row.far hb v, h.pow, h.ne⟩
theorem Ix.drew {w : World} {p b : Nat} {ps : List Pl} (h : Ix w p b ps) : Ix w.drew p b ps := ⟨h.head, h.row, h.pow, h.ne⟩
/-- a place is written, the count ahead of it or behind -/
theorem Ix.row_set {w : World} {b : Nat} {t : TypeId} {ps : List Pl} (h : Row w b t (flat Pl.cells ps)) {i : Nat} {f : Pl} (hf : ps[i]? = some f) (q : Pl) :
    Row (((w.setCell ⟨b, i * 3, none⟩ (.bool q.taken)).setCell ⟨b, i * 3 + 1, none⟩ (.int .i64 q.key)).setCell ⟨b, i * 3 + 2, none⟩ (.int .i64 q.n)) b t (flat Pl.cells (ps.set i q)) := by
  have h1 := h.put (i * 3 + 0) (.bool q.taken)
  rw [flat_put pl3 (a' := ⟨q.taken, f.key, f.n⟩) hf (by decide) rfl] at h1
  have h2 := h1.put (i * 3 + 1) (.int .i64 q.key)
  rw [flat_put pl3 (a' := ⟨q.taken, q.key, f.n⟩) (get_set hf) (by decide) rfl] at h2
  have h3 := h2.put (i * 3 + 2) (.int .i64 q.n)
  rw [flat_put pl3 (a' := q) (get_set (get_set hf)) (by decide) rfl] at h3
  simpa only [List.set_set, Nat.add_zero] using h3


theorem wrap_any (p b : Nat) (ps : List Pl) (n : Int) (w : World) (h : Ix w p b ps) :
    Calls Try.prog 36 #[.pointer (some ⟨p, 0, none⟩), .int .i64 n] w fun e w' => e = .returned (.int .i64 (n % (ps.length : Int))) ∧ w = w' := by
  have c := h.hd
  obtain ⟨n2, n256⟩ := h.pow.le
  have r := h.pow.and n
  clear h
  go_enter Try.func36, Try.ntmps36
  go_wp2
  go_ret
  exact ⟨rfl, rfl⟩
theorem home_any (p b : Nat) (ps : List Pl) (n : Int) (w : World) (h : Ix w p b ps) :
    Calls Try.prog 37 #[.pointer (some ⟨p, 0, none⟩), .int .i64 n] w fun e w' => e = .returned (.int .i64 (hm ps.length n : Nat)) ∧ w = w' := by
  have A := wrap_any p b ps n w h
  rw [← hm_cast (by have := h.pow.le; omega)] at A
  have A := Lib.hid A
  clear h
  go_enter Try.func37, Try.ntmps37
  go_wp2_with fail
  (with_reducible refine (A.out).mono ?_)
  rintro e w' ⟨rfl, rfl⟩
  go_wp2_with fail
  go_ret
  exact ⟨rfl, rfl⟩
theorem after_any (p b : Nat) (ps : List Pl) (i : Nat) (w : World) (h : Ix w p b ps) (hi : i < ps.length) :
    Calls Try.prog 34 #[.pointer (some ⟨p, 0, none⟩), .int .i64 i] w fun e w' => e = .returned (.int .i64 (sl ps.length i 1 : Nat)) ∧ w = w' := by
  have A := wrap_any p b ps ((i : Int) + 1) w h
  have n256 := h.pow.le.2
  have e : ((i : Int) + 1) % (ps.length : Int) = ((sl ps.length i 1 : Nat) : Int) := by
    have := sl_or ps.length i 1
    by_cases c : i + 1 < ps.length
    · rw [Int.emod_eq_of_lt (by omega) (by omega)]; omega
    · have : (i : Int) + 1 = ps.length := by omega
      rw [this, Int.emod_self]; omega
  rw [e] at A
  have A := Lib.hid A
  clear h e
  go_enter Try.func34, Try.ntmps34
  go_wp2_with fail
  (with_reducible refine (A.out).mono ?_)
  rintro e w' ⟨rfl, rfl⟩
  go_wp2_with fail
  go_ret
  exact ⟨rfl, rfl⟩
theorem empty_yes (p b : Nat) (ps : List Pl) (i : Nat) (w : World) (h : Ix w p b ps) (hi : i < ps.length) (he : Go.Proofs.Ytajphhalneaihaa.at_ ps i = Pl.none_) :
    Calls Try.prog 27 #[.pointer (some ⟨p, 0, none⟩), .int .i64 i] w fun e w' => e = .returned (.bool true) ∧ w = w' := by
  have c := h.hd
  obtain ⟨c0, c1, c2⟩ := h.at_ (at_get hi)
  rw [he] at c0 c1 c2
  simp only [Pl.none_] at c0 c1 c2
  have n256 := h.pow.le.2
  clear h he
  go_enter Try.func27, Try.ntmps27
  go_wp2
  go_ret
  exact ⟨rfl, rfl⟩
theorem empty_no (p b : Nat) (ps : List Pl) (i : Nat) (w : World) (h : Ix w p b ps) (hi : i < ps.length) (he : (Go.Proofs.Ytajphhalneaihaa.at_ ps i).taken = true) :
    Calls Try.prog 27 #[.pointer (some ⟨p, 0, none⟩), .int .i64 i] w fun e w' => e = .returned (.bool false) ∧ w = w' := by
  have c := h.hd
  obtain ⟨c0, c1, c2⟩ := h.at_ (at_get hi)
  rw [he] at c0
  have n256 := h.pow.le.2
  clear h he
  generalize (Go.Proofs.Ytajphhalneaihaa.at_ ps i).key = k at *
  generalize (Go.Proofs.Ytajphhalneaihaa.at_ ps i).n = n at *
  go_enter Try.func27, Try.ntmps27
  go_wp2
  go_ret
  exact ⟨rfl, rfl⟩
end Go.Proofs.Ytajphhalneaihaa

/- What the small functions of package pool answer, of any frames that lie in memory. -/
import Derived.Test.YtllbdkjbcadeoaaCatch
namespace Go.Proofs.Ytllbdkjbcadeoaa
open Go.RowKit

/-- a frame, as it stands in memory -/
structure Fr where
  st : Int
  blk : Int
  gen : Int
  pins : Int
  val : Int
  deriving DecidableEq

def Fr.cells (f : Fr) : List Value := [.int .i64 f.st, .int .i64 f.blk, .int .i64 f.gen, .int .i64 f.pins, .int .u64 f.val]
def Fr.agg (f : Fr) : Value := .agg #[.int .i64 f.st, .int .i64 f.blk, .int .i64 f.gen, .int .i64 f.pins, .int .u64 f.val]
theorem fr5 (f : Fr) : f.cells.length = 5 := rfl

/-- a pool at block p (a struct of type t), its frames at block b -/
structure Lies (t : TypeId) (w : World) (p b : Nat) (fs : List Fr) : Prop where
  head : Row w p t #[.slice (some ⟨b, 0, none⟩) fs.length fs.length]
  row : Row w b 38 (flat Fr.cells fs)
  few : fs.length ≤ 64
  ne : p ≠ b

abbrev PoolIs := Lies 58
abbrev RefIs := Lies 43

theorem Lies.hd {t : TypeId} {w : World} {p b : Nat} {fs : List Fr} (h : Lies t w p b fs) : w.cell? ⟨p, 0, none⟩ = some (.slice (some ⟨b, 0, none⟩) fs.length fs.length) := by rw [h.head.cell]; rfl
theorem Lies.at_ {t : TypeId} {w : World} {p b : Nat} {fs : List Fr} (h : Lies t w p b fs) {i : Nat} {f : Fr} (hf : fs[i]? = some f) :
    w.cell? ⟨b, i * 5, none⟩ = some (.int .i64 f.st) ∧ w.cell? ⟨b, i * 5 + 1, none⟩ = some (.int .i64 f.blk) ∧ w.cell? ⟨b, i * 5 + 2, none⟩ = some (.int .i64 f.gen) ∧ w.cell? ⟨b, i * 5 + 3, none⟩ = some (.int .i64 f.pins) ∧ w.cell? ⟨b, i * 5 + 4, none⟩ = some (.int .u64 f.val) := by
  refine ⟨?_, ?_, ?_, ?_, ?_⟩
  · rw [h.row.cell, show i * 5 = i * 5 + 0 from rfl, flat_get fr5 hf (by decide)]; rfl
  all_goals rw [h.row.cell, flat_get fr5 hf (by decide)]; rfl
theorem Lies.fz {t : TypeId} {w : World} {p b : Nat} {fs : List Fr} (h : Lies t w p b fs) (i : Nat) : w.frozen? ⟨b, i, none⟩ = false := h.row.frozen i
theorem Lies.still {t : TypeId} {w w' : World} {p b : Nat} {fs : List Fr} (h : Lies t w p b fs) (k : Only none_ w w') : Lies t w' p b fs := ⟨k.still h.head, k.still h.row, h.few, h.ne⟩
theorem Lies.keep {t : TypeId} {w w' : World} {p b : Nat} {fs : List Fr} (h : Lies t w p b fs) {S : Nat → Prop} (k : Only S w w') (hp : ¬ S p) (hb : ¬ S b) : Lies t w' p b fs := ⟨k.row h.head hp, k.row h.row hb, h.few, h.ne⟩
theorem Lies.far {t : TypeId} {w : World} {p b : Nat} {fs : List Fr} (h : Lies t w p b fs) {a : Addr} (hp : p ≠ a.block) (hb : b ≠ a.block) (v : Value) : Lies t (w.setCell a v) p b fs := ⟨h.head.far hp v, h.row.far hb v, h.few, h.ne⟩

theorem Lies.drew {t : TypeId} {w : World} {p b : Nat} {fs : List Fr} (h : Lies t w p b fs) : Lies t w.drew p b fs := ⟨h.head, h.row, h.few, h.ne⟩
theorem Lies.set {t : TypeId} {w : World} {p b : Nat} {fs : List Fr} (h : Lies t w p b fs) {i : Nat} {f f' : Fr} (hf : fs[i]? = some f) {j : Nat} {v : Value} (hj : j < 5) (e : f'.cells = f.cells.set j v) :
    Lies t (w.setCell ⟨b, i * 5 + j, none⟩ v) p b (fs.set i f') := by
  refine ⟨?_, ?_, ?_, h.ne⟩
  · rw [List.length_set]; exact h.head.far h.ne v
  · rw [← flat_put fr5 hf hj e]; exact h.row.put _ _
  · rw [List.length_set]; exact h.few
theorem Lies.store {t : TypeId} {w : World} {p b : Nat} {fs : List Fr} (h : Lies t w p b fs) {i : Nat} {f : Fr} (hf : fs[i]? = some f) (f' : Fr) :
    Lies t (((((w.setCell ⟨b, i * 5, none⟩ (.int .i64 f'.st)).setCell ⟨b, i * 5 + 1, none⟩ (.int .i64 f'.blk)).setCell ⟨b, i * 5 + 2, none⟩ (.int .i64 f'.gen)).setCell ⟨b, i * 5 + 3, none⟩ (.int .i64 f'.pins)).setCell ⟨b, i * 5 + 4, none⟩ (.int .u64 f'.val)) p b (fs.set i f') := by
  have h1 := h.set (j := 0) (v := .int .i64 f'.st) (f' := ⟨f'.st, f.blk, f.gen, f.pins, f.val⟩) hf (by decide) rfl
  have h2 := h1.set (j := 1) (v := .int .i64 f'.blk) (f' := ⟨f'.st, f'.blk, f.gen, f.pins, f.val⟩) (get_set hf) (by decide) rfl
  have h3 := h2.set (j := 2) (v := .int .i64 f'.gen) (f' := ⟨f'.st, f'.blk, f'.gen, f.pins, f.val⟩) (get_set (get_set hf)) (by decide) rfl
  have h4 := h3.set (j := 3) (v := .int .i64 f'.pins) (f' := ⟨f'.st, f'.blk, f'.gen, f'.pins, f.val⟩) (get_set (get_set (get_set hf))) (by decide) rfl
  have h5 := h4.set (j := 4) (v := .int .u64 f'.val) (f' := f') (get_set (get_set (get_set (get_set hf)))) (by decide) rfl
  simpa only [List.set_set, Nat.add_zero] using h5

theorem has_yes (p b : Nat) (fs : List Fr) (i : Nat) (w : World) (h : PoolIs w p b fs) (hi : i < fs.length) :
    Calls Try.prog 30 #[.pointer (some ⟨p, 0, none⟩), .int .i64 i] w fun e w' => e = .returned (.bool true) ∧ w = w' := by
  have c := h.hd
  have few := h.few
  go_enter Try.func30, Try.ntmps30
  go_wp2
  go_ret
  exact ⟨rfl, rfl⟩
theorem has_no (p b : Nat) (fs : List Fr) (i : Int) (w : World) (h : PoolIs w p b fs) (hi : i < 0 ∨ (fs.length : Int) ≤ i) :
    Calls Try.prog 30 #[.pointer (some ⟨p, 0, none⟩), .int .i64 i] w fun e w' => e = .returned (.bool false) ∧ w = w' := by
  have c := h.hd
  have few := h.few
  by_cases k : i < 0
  · have k' : decide (i < 0) = true := by simpa using k
    clear hi
    go_enter Try.func30, Try.ntmps30
    go_wp2
    go_ret
    exact ⟨rfl, rfl⟩
  · have k1 : 0 ≤ i := by omega
    have k2 : (fs.length : Int) ≤ i := by omega
    clear hi k
    go_enter Try.func30, Try.ntmps30
    go_wp2
    go_ret
    exact ⟨by simp; omega, rfl⟩

theorem at_yes (p b : Nat) (fs : List Fr) (i : Nat) (w : World) (h : PoolIs w p b fs) (hi : i < fs.length) :
    Calls Try.prog 35 #[.pointer (some ⟨p, 0, none⟩), .int .i64 i] w fun e w' => e = .returned (.pointer (some ⟨b, i * 5, none⟩)) ∧ w = w' := by
  have c := h.hd
  have few := h.few
  have H := Lib.hid h
  clear h
  go_enter Try.func35, Try.ntmps35
  go_wp2_with (first | (go_at_call 30; (with_reducible refine (has_yes _ _ _ _ _ H.out hi).mono ?_); rintro e w' ⟨rfl, rfl⟩) | (go_at_call 24; (with_reducible refine (unless_yes _ _).mono ?_); rintro e w' ⟨rfl, rfl⟩))
  go_ret
  exact ⟨rfl, rfl⟩
theorem at_no (p b : Nat) (fs : List Fr) (i : Int) (w : World) (h : PoolIs w p b fs) (hi : i < 0 ∨ (fs.length : Int) ≤ i) :
    Calls Try.prog 35 #[.pointer (some ⟨p, 0, none⟩), .int .i64 i] w fun e w' => e = left 1 ∧ w = w' := by
  have H := Lib.hid h
  have I := Lib.hid hi
  clear h hi
  go_enter Try.func35, Try.ntmps35
  go_wp2_with (first | (go_at_call 30; (with_reducible refine (has_no _ _ _ _ _ H.out I.out).mono ?_); rintro e w' ⟨rfl, rfl⟩) | (go_at_call 24; (with_reducible refine (unless_no _ _).mono ?_); rintro e w' ⟨rfl, rfl⟩))
  exact ⟨rfl, rfl, rfl⟩
theorem free_any (f : Fr) (w : World) :
    Calls Try.prog 33 #[f.agg] w fun e w' => e = .returned (.bool (f.st == 0)) ∧ Only none_ w w' := by
  unfold Fr.agg
  go_enter Try.func33, Try.ntmps33
  go_wp2
  go_ret
  exact ⟨rfl, (Only.refl _ _).alloc _⟩
theorem inUse_any (f : Fr) (w : World) :
    Calls Try.prog 36 #[f.agg] w fun e w' => e = .returned (.bool (f.st == 1 || f.st == 2)) ∧ Only none_ w w' := by
  unfold Fr.agg
  go_enter Try.func36, Try.ntmps36
  go_wp2
  all_goals
    go_ret
    exact ⟨by simp_all, (Only.refl _ _).alloc _⟩

theorem letGo_not (p b : Nat) (fs : List Fr) (i : Nat) (f : Fr) (w : World) (h : PoolIs w p b fs) (hf : fs[i]? = some f) (hn : ¬ (f.st = 3 ∧ f.pins = 0)) :
    Calls Try.prog 37 #[.pointer (some ⟨b, i * 5, none⟩)] w fun e w' => e = .returned (.tuple #[]) ∧ w = w' := by
  obtain ⟨c0, c1, c2, c3, c4⟩ := h.at_ hf
  clear hf
  by_cases k : f.st = 3
  · have k2 : ¬ f.pins = 0 := fun e => hn ⟨k, e⟩
    clear hn
    have k' : (f.st == 3) = true := by simpa using k
    have k2' : (f.pins == 0) = false := by simpa using k2
    generalize f.st = st at *
    generalize f.pins = pins at *
    clear k
    go_enter Try.func37, Try.ntmps37
    go_wp2
    go_end0
    exact ⟨rfl, rfl⟩
  · clear hn
    have k' : (f.st == 3) = false := by simpa using k
    go_enter Try.func37, Try.ntmps37
    go_wp2
    go_end0
    exact ⟨rfl, rfl⟩
/-- a frame that is free, of a generation -/
def Fr.freed (f : Fr) : Fr := ⟨0, 0, f.gen, 0, 0⟩
theorem letGo_yes (p b : Nat) (fs : List Fr) (i : Nat) (f : Fr) (w : World) (h : PoolIs w p b fs) (hf : fs[i]? = some f) (h3 : f.st = 3) (h0 : f.pins = 0) :
    Calls Try.prog 37 #[.pointer (some ⟨b, i * 5, none⟩)] w fun e w' => e = .returned (.tuple #[]) ∧ PoolIs w' p b (fs.set i f.freed) ∧ Only (fun k => k = b) w w' := by
  obtain ⟨c0, c1, c2, c3, c4⟩ := h.at_ hf
  have z := h.fz
  have HF := Lib.hid hf
  have H := Lib.hid h
  clear hf h
  rw [h3] at c0
  rw [h0] at c3
  go_enter Try.func37, Try.ntmps37
  go_wp2
  go_end0
  exact ⟨rfl, H.out.store HF.out f.freed, (((((Only.refl (fun k => k = b) w).into rfl _ _).into rfl _ _).into rfl _ _).into rfl _ _).into rfl _ _⟩

theorem taken_yes (p b : Nat) (fs : List Fr) (i : Nat) (f : Fr) (g : Int) (w : World) (h : PoolIs w p b fs) (hf : fs[i]? = some f) (h0 : ¬ f.st = 0) (hg : f.gen = g) :
    Calls Try.prog 39 #[.pointer (some ⟨p, 0, none⟩), .int .i64 i, .int .i64 g] w fun e w' => e = .returned (.pointer (some ⟨b, i * 5, none⟩)) ∧ Only none_ w w' := by
  obtain ⟨c0, c1, c2, c3, c4⟩ := h.at_ hf
  have A := Lib.hid (at_yes p b fs i w h (lt_of_get hf))
  have B := Lib.hid (free_any f w)
  unfold Fr.agg at B
  have h0' : (f.st == 0) = false := by simpa using h0
  rw [h0'] at B
  subst hg
  have HF := Lib.hid hf
  have H := Lib.hid h
  clear hf h h0 h0'
  go_enter Try.func39, Try.ntmps39
  go_wp2_with fail
  (with_reducible refine A.out.mono ?_)
  rintro e w' ⟨rfl, rfl⟩
  go_wp2_with fail
  (with_reducible refine B.out.mono ?_)
  rintro e w1 ⟨rfl, o1⟩
  clear c0 c1 c2 c3 c4
  obtain ⟨c0, c1, c2, c3, c4⟩ := (H.out.still o1).at_ HF.out
  have O := Lib.hid o1
  clear o1
  go_wp2_with fail
  (with_reducible refine (unless_yes _ _).mono ?_)
  rintro e w' ⟨rfl, rfl⟩
  go_wp2_with fail
  go_ret
  exact ⟨rfl, O.out⟩
theorem taken_out (p b : Nat) (fs : List Fr) (i g : Int) (w : World) (h : PoolIs w p b fs) (hi : i < 0 ∨ (fs.length : Int) ≤ i) :
    Calls Try.prog 39 #[.pointer (some ⟨p, 0, none⟩), .int .i64 i, .int .i64 g] w fun e w' => e = left 1 ∧ w = w' := by
  have A := Lib.hid (at_no p b fs i w h hi)
  clear h hi
  go_enter Try.func39, Try.ntmps39
  go_wp2_with fail
  (with_reducible refine A.out.mono ?_)
  rintro e w' ⟨rfl, rfl⟩
  go_wp2_with fail
  exact ⟨rfl, rfl, rfl⟩
theorem taken_no (p b : Nat) (fs : List Fr) (i : Nat) (f : Fr) (g : Int) (w : World) (h : PoolIs w p b fs) (hf : fs[i]? = some f) (hn : f.st = 0 ∨ f.gen ≠ g) :
    Calls Try.prog 39 #[.pointer (some ⟨p, 0, none⟩), .int .i64 i, .int .i64 g] w fun e w' => e = left 3 ∧ Only none_ w w' := by
  obtain ⟨c0, c1, c2, c3, c4⟩ := h.at_ hf
  have A := Lib.hid (at_yes p b fs i w h (lt_of_get hf))
  have B := Lib.hid (free_any f w)
  unfold Fr.agg at B
  have HF := Lib.hid hf
  have H := Lib.hid h
  clear hf h
  by_cases h0 : f.st = 0
  · have h0' : (f.st == 0) = true := by simpa using h0
    rw [h0'] at B
    clear h0 h0' hn
    go_enter Try.func39, Try.ntmps39
    go_wp2_with fail
    (with_reducible refine A.out.mono ?_)
    rintro e w' ⟨rfl, rfl⟩
    go_wp2_with fail
    (with_reducible refine B.out.mono ?_)
    rintro e w1 ⟨rfl, o1⟩
    clear c0 c1 c2 c3 c4
    have O := Lib.hid o1
    clear o1
    go_wp2_with fail
    (with_reducible refine (unless_no _ _).mono ?_)
    rintro e w' ⟨rfl, rfl⟩
    go_wp2_with fail
    exact ⟨rfl, rfl, O.out⟩
  · have h0' : (f.st == 0) = false := by simpa using h0
    have hg : (f.gen == g) = false := by
      rcases hn with k | k
      · exact absurd k h0
      · simpa using k
    rw [h0'] at B
    clear h0 h0' hn
    go_enter Try.func39, Try.ntmps39
    go_wp2_with fail
    (with_reducible refine A.out.mono ?_)
    rintro e w' ⟨rfl, rfl⟩
    go_wp2_with fail
    (with_reducible refine B.out.mono ?_)
    rintro e w1 ⟨rfl, o1⟩
    clear c0 c1 c2 c3 c4
    obtain ⟨c0, c1, c2, c3, c4⟩ := (H.out.still o1).at_ HF.out
    have O := Lib.hid o1
    clear o1
    go_wp2_with fail
    (with_reducible refine (unless_no _ _).mono ?_)
    rintro e w' ⟨rfl, rfl⟩
    go_wp2_with fail
    exact ⟨rfl, rfl, O.out⟩
end Go.Proofs.Ytllbdkjbcadeoaa

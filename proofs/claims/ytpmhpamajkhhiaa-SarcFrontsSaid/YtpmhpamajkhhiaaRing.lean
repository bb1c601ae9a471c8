/- What the small functions of package ring answer, of any shelf that lies in memory. -/
import Derived.Test.YtpmhpamajkhhiaaRep
import Derived.Test.YtpmhpamajkhhiaaChecked
import Derived.Laws.StructEq
import Derived.BigRegion
namespace Go.Proofs.Ytpmhpamajkhhiaa
open Go.RowKit
set_option linter.unusedVariables false

def Nd.cells (x : Nd) : List Value := [.int .i64 x.lst, .bool x.held, .int .i64 x.ahead, .int .i64 x.behind]
theorem nd4 (x : Nd) : x.cells.length = 4 := rfl

/-- a shelf at block p, its nodes at block b -/
structure Rg (w : World) (p b n bot : Nat) (ns : List Nd) : Prop where
  head : Row w p 85 #[.slice (some ⟨b, 0, none⟩) (n + 2) (n + 2), .int .i64 bot, .int .i64 n, .int .i64 (n + 1 : Nat)]
  row : Row w b 87 (flat Nd.cells ns)
  len : ns.length = n + 2
  n64 : n ≤ 64
  bot64 : bot ≤ 64
  ne : p ≠ b

section
variable {w w' : World} {p b n bot : Nat} {ns : List Nd}
theorem Rg.hd (h : Rg w p b n bot ns) : w.cell? ⟨p, 0, none⟩ = some (.slice (some ⟨b, 0, none⟩) (n + 2) (n + 2)) := by rw [h.head.cell]; rfl
theorem Rg.bt (h : Rg w p b n bot ns) : w.cell? ⟨p, 1, none⟩ = some (.int .i64 bot) := by rw [h.head.cell]; rfl
theorem Rg.e0 (h : Rg w p b n bot ns) : w.cell? ⟨p, 2, none⟩ = some (.int .i64 n) := by rw [h.head.cell]; rfl
theorem Rg.e1 (h : Rg w p b n bot ns) : w.cell? ⟨p, 3, none⟩ = some (.int .i64 (n + 1 : Nat)) := by rw [h.head.cell]; rfl
theorem Rg.at_ (h : Rg w p b n bot ns) {i : Nat} (hi : i < ns.length) :
    w.cell? ⟨b, i * 4, none⟩ = some (.int .i64 (nd ns i).lst) ∧ w.cell? ⟨b, i * 4 + 1, none⟩ = some (.bool (nd ns i).held) ∧ w.cell? ⟨b, i * 4 + 2, none⟩ = some (.int .i64 (aF ns i)) ∧ w.cell? ⟨b, i * 4 + 3, none⟩ = some (.int .i64 (bF ns i)) := by
  have hf := nd_get hi
  refine ⟨?_, ?_, ?_, ?_⟩
  · rw [h.row.cell, show i * 4 = i * 4 + 0 from rfl, flat_get nd4 hf (by decide)]; rfl
  all_goals rw [h.row.cell, flat_get nd4 hf (by decide)]; rfl
theorem Rg.fz (h : Rg w p b n bot ns) (i : Nat) : w.frozen? ⟨b, i, none⟩ = false := h.row.frozen i
theorem Rg.keep (h : Rg w p b n bot ns) {S : Nat → Prop} (k : Only S w w') (hp : ¬ S p) (hb : ¬ S b) : Rg w' p b n bot ns := ⟨k.row h.head hp, k.row h.row hb, h.len, h.n64, h.bot64, h.ne⟩
theorem Rg.still (h : Rg w p b n bot ns) (k : Only none_ w w') : Rg w' p b n bot ns := h.keep k (fun s => s) (fun s => s)
theorem Rg.drew (h : Rg w p b n bot ns) : Rg w.drew p b n bot ns := ⟨h.head, h.row, h.len, h.n64, h.bot64, h.ne⟩
theorem Rg.setA (h : Rg w p b n bot ns) {i : Nat} (hi : i < ns.length) (x : Nat) : Rg (w.setCell ⟨b, i * 4 + 2, none⟩ (.int .i64 x)) p b n bot (upA ns i x) := by
  refine ⟨h.head.far h.ne _, ?_, by rw [len_upA]; exact h.len, h.n64, h.bot64, h.ne⟩
  have h1 := h.row.put (i * 4 + 2) (.int .i64 x)
  rw [flat_put nd4 (a' := { nd ns i with ahead := x }) (nd_get hi) (by decide) rfl] at h1
  exact h1
theorem Rg.setB (h : Rg w p b n bot ns) {i : Nat} (hi : i < ns.length) (x : Nat) : Rg (w.setCell ⟨b, i * 4 + 3, none⟩ (.int .i64 x)) p b n bot (upB ns i x) := by
  refine ⟨h.head.far h.ne _, ?_, by rw [len_upB]; exact h.len, h.n64, h.bot64, h.ne⟩
  have h1 := h.row.put (i * 4 + 3) (.int .i64 x)
  rw [flat_put nd4 (a' := { nd ns i with behind := x }) (nd_get hi) (by decide) rfl] at h1
  exact h1
theorem Rg.setL (h : Rg w p b n bot ns) {i : Nat} (hi : i < ns.length) (x : Int) : Rg (w.setCell ⟨b, i * 4, none⟩ (.int .i64 x)) p b n bot (upL ns i x) := by
  refine ⟨h.head.far h.ne _, ?_, by rw [len_upL]; exact h.len, h.n64, h.bot64, h.ne⟩
  have h1 := h.row.put (i * 4 + 0) (.int .i64 x)
  rw [flat_put nd4 (a' := { nd ns i with lst := x }) (nd_get hi) (by decide) rfl] at h1
  exact h1
theorem Rg.setH (h : Rg w p b n bot ns) {i : Nat} (hi : i < ns.length) (x : Bool) : Rg (w.setCell ⟨b, i * 4 + 1, none⟩ (.bool x)) p b n bot (upH ns i x) := by
  refine ⟨h.head.far h.ne _, ?_, by rw [len_upH]; exact h.len, h.n64, h.bot64, h.ne⟩
  have h1 := h.row.put (i * 4 + 1) (.bool x)
  rw [flat_put nd4 (a' := { nd ns i with held := x }) (nd_get hi) (by decide) rfl] at h1
  exact h1
end

def hasL (k : Int) : Bool := decide (0 ≤ k ∧ k < 2)
def hasN (n : Nat) (i : Int) : Bool := decide (0 ≤ i ∧ i < (n : Int))

theorem hasList_any (x : Value) (k : Int) (w : World) :
    Calls Try.prog 74 #[x, .int .i64 k] w fun e w' => e = .returned (.bool (hasL k)) ∧ w = w' := by
  unfold hasL
  go_enter Try.func74, Try.ntmps74
  by_cases h : 0 ≤ k
  · by_cases h2 : k < 2
    · have e : decide (0 ≤ k ∧ k < 2) = true := by simp [h, h2]
      rw [e]
      clear e
      go_wp2
      go_ret
      exact ⟨rfl, rfl⟩
    · have e : decide (0 ≤ k ∧ k < 2) = false := by simp [h2]
      rw [e]
      clear e
      go_wp2
      go_ret
      exact ⟨rfl, rfl⟩
  · have e : decide (0 ≤ k ∧ k < 2) = false := by simp [h]
    rw [e]
    clear e
    go_wp2
    go_ret
    exact ⟨rfl, rfl⟩
theorem has_any (p b n bot : Nat) (ns : List Nd) (i : Int) (w : World) (h : Rg w p b n bot ns) :
    Calls Try.prog 75 #[.pointer (some ⟨p, 0, none⟩), .int .i64 i] w fun e w' => e = .returned (.bool (hasN n i)) ∧ w = w' := by
  have c := h.hd
  have n64 := h.n64
  clear h
  unfold hasN
  go_enter Try.func75, Try.ntmps75
  have e3 : ((n + 2 : Nat) : Int) - 2 = (n : Int) := by omega
  by_cases h : 0 ≤ i
  · by_cases h2 : i < (n : Int)
    · have e : decide (0 ≤ i ∧ i < (n : Int)) = true := by simp [h, h2]
      rw [e]
      clear e
      go_wp2
      go_ret
      exact ⟨rfl, rfl⟩
    · have e : decide (0 ≤ i ∧ i < (n : Int)) = false := by simp [h2]
      rw [e]
      clear e
      go_wp2
      go_ret
      exact ⟨rfl, rfl⟩
  · have e : decide (0 ≤ i ∧ i < (n : Int)) = false := by simp [h]
    rw [e]
    clear e
    go_wp2
    go_ret
    exact ⟨rfl, rfl⟩
end Go.Proofs.Ytpmhpamajkhhiaa

/- A policy in memory; what the small functions of package sarc answer. -/
import Derived.Test.YtpmhpamajkhhiaaSc
import Derived.Test.YtpmhpamajkhhiaaCross7
import Derived.Test.YtpmhpamajkhhiaaRingNew
import Derived.Deep.RegionHeld3
import Derived.StillTailTactics
namespace Go.Proofs.Ytpmhpamajkhhiaa
open Go.RowKit
set_option linter.unusedVariables false

/-- n cells by a function -/
def tab (n : Nat) (f : Nat → Value) : Array Value := ((List.range n).map f).toArray
theorem tab_get {n j : Nat} (f : Nat → Value) (h : j < n) : (tab n f)[j]? = some (f j) := by
  unfold tab
  rw [List.getElem?_toArray, List.getElem?_map, List.getElem?_range h]
  rfl
theorem tab_put {n j : Nat} {f g : Nat → Value} {v : Value} (h : j < n) (hv : g j = v) (he : ∀ i, i < n → i ≠ j → g i = f i) : (tab n f).setIfInBounds j v = tab n g := by
  unfold tab
  rw [List.setIfInBounds_toArray]
  congr 1
  apply List.ext_getElem?
  intro i
  rw [List.getElem?_set]
  by_cases c : j = i
  · subst c
    rw [if_pos rfl, List.getElem?_map, List.getElem?_range h]
    simp [h, hv]
  · rw [if_neg c]
    by_cases d : i < n
    · rw [List.getElem?_map, List.getElem?_map, List.getElem?_range d]
      simp [he i d (fun e => c e.symm)]
    · rw [List.getElem?_map, List.getElem?_map, List.getElem?_eq_none (by simp; omega)]
      rfl

/-- the cells of a policy -/
def scell (p : Nat) (c : Sc) (j : Nat) : Value :=
  if j = 0 then .pointer (some ⟨p, 0, none⟩) else if j = 1 then .int .i64 c.s.n else if j = 2 then .int .i64 c.s.bot else if j = 3 then .int .i64 c.us.length
  else if j < 68 then .int .i64 (lastU c.us (j - 4)) else if j = 68 then .int .i64 c.want else if j = 69 then .int .u64 c.miss else .int .u64 c.hits
/-- a policy at block P, its shelf at block p, the nodes at block b -/
structure SRaw (w : World) (P p b : Nat) (c : Sc) : Prop where
  row : Row w P 63 (tab 71 (scell p c))
  shelf : Lies w p b c.s
  nep : P ≠ p
  neb : P ≠ b
structure SLies (w : World) (P p b : Nat) (c : Sc) : Prop where
  raw : SRaw w P p b c
  fine : c.Fine
section
variable {w w' : World} {P p b : Nat} {c : Sc}
theorem SRaw.at_ (h : SRaw w P p b c) {j : Nat} (hj : j < 71) : w.cell? ⟨P, j, none⟩ = some (scell p c j) := by
  rw [h.row.cell, tab_get _ hj]
theorem SRaw.c0 (h : SRaw w P p b c) : w.cell? ⟨P, 0, none⟩ = some (.pointer (some ⟨p, 0, none⟩)) := h.at_ (j := 0) (by decide)
theorem SRaw.c1 (h : SRaw w P p b c) : w.cell? ⟨P, 1, none⟩ = some (.int .i64 c.s.n) := h.at_ (j := 1) (by decide)
theorem SRaw.c2 (h : SRaw w P p b c) : w.cell? ⟨P, 2, none⟩ = some (.int .i64 c.s.bot) := h.at_ (j := 2) (by decide)
theorem SRaw.c3 (h : SRaw w P p b c) : w.cell? ⟨P, 3, none⟩ = some (.int .i64 c.us.length) := h.at_ (j := 3) (by decide)
theorem SRaw.cu (h : SRaw w P p b c) {f : Nat} (hf : f < 64) : w.cell? ⟨P, 4 + f, none⟩ = some (.int .i64 (lastU c.us f)) := by
  rw [h.at_ (j := 4 + f) (by omega)]
  unfold scell
  rw [if_neg (by omega), if_neg (by omega), if_neg (by omega), if_neg (by omega), if_pos (by omega), Nat.add_sub_cancel_left]
theorem SRaw.c68 (h : SRaw w P p b c) : w.cell? ⟨P, 68, none⟩ = some (.int .i64 c.want) := h.at_ (j := 68) (by decide)
theorem SRaw.c69 (h : SRaw w P p b c) : w.cell? ⟨P, 69, none⟩ = some (.int .u64 c.miss) := h.at_ (j := 69) (by decide)
theorem SRaw.c70 (h : SRaw w P p b c) : w.cell? ⟨P, 70, none⟩ = some (.int .u64 c.hits) := h.at_ (j := 70) (by decide)
theorem SRaw.keep (h : SRaw w P p b c) {S : Nat → Prop} (k : Only S w w') (hP : ¬ S P) (hp : ¬ S p) (hb : ¬ S b) : SRaw w' P p b c := ⟨k.row h.row hP, h.shelf.keep k hp hb, h.nep, h.neb⟩
theorem SRaw.still (h : SRaw w P p b c) (k : Only none_ w w') : SRaw w' P p b c := h.keep k (fun s => s) (fun s => s) (fun s => s)
theorem SRaw.drew (h : SRaw w P p b c) : SRaw w.drew P p b c := h.still (Only.refl none_ w).drew
theorem SLies.still (h : SLies w P p b c) (k : Only none_ w w') : SLies w' P p b c := ⟨h.raw.still k, h.fine⟩
theorem SLies.keep (h : SLies w P p b c) {S : Nat → Prop} (k : Only S w w') (hP : ¬ S P) (hp : ¬ S p) (hb : ¬ S b) : SLies w' P p b c := ⟨h.raw.keep k hP hp hb, h.fine⟩
theorem SRaw.lt (h : SRaw w P p b c) : P < w.heap.size ∧ p < w.heap.size ∧ b < w.heap.size := ⟨h.row.lt, h.shelf.lt.1, h.shelf.lt.2⟩
/-- the shelf turns -/
theorem SRaw.turn (h : SRaw w P p b c) {s' : Sh} (hl : Lies w' p b s') (hn : s'.n = c.s.n) (hb : s'.bot = c.s.bot) (k : Only (fun k => k = b) w w') : SRaw w' P p b ⟨s', c.us, c.want, c.miss, c.hits⟩ := by
  refine ⟨?_, hl, h.nep, h.neb⟩
  have := k.row h.row h.neb
  have e : scell p c = scell p ⟨s', c.us, c.want, c.miss, c.hits⟩ := by
    funext j
    unfold scell
    rw [hn, hb]
  rw [← e]
  exact this
/-- one more use -/
theorem SRaw.used (h : SRaw w P p b c) {i : Nat} (hi : i < 64) : SRaw ((w.setCell ⟨P, 3, none⟩ (.int .i64 (c.us.length + 1 : Nat))).setCell ⟨P, 4 + i, none⟩ (.int .i64 (c.us.length + 1 : Nat))) P p b ⟨c.s, c.us ++ [i], c.want, c.miss, c.hits⟩ := by
  have o : Only (fun k => k = P) w ((w.setCell ⟨P, 3, none⟩ (.int .i64 (c.us.length + 1 : Nat))).setCell ⟨P, 4 + i, none⟩ (.int .i64 (c.us.length + 1 : Nat))) := ((Only.refl (fun k => k = P) w).into rfl _ _).into rfl _ _
  refine ⟨?_, h.shelf.keep o (fun e => h.nep e.symm) (fun e => h.neb e.symm), h.nep, h.neb⟩
  have r1 := h.row.put 3 (.int .i64 (c.us.length + 1 : Nat))
  rw [tab_put (v := .int .i64 (c.us.length + 1 : Nat)) (g := fun j => if j = 3 then .int .i64 (c.us.length + 1 : Nat) else scell p c j) (by decide) (if_pos rfl) (fun k _ hk => if_neg hk)] at r1
  have r2 := r1.put (4 + i) (.int .i64 (c.us.length + 1 : Nat))
  rw [tab_put (g := scell p ⟨c.s, c.us ++ [i], c.want, c.miss, c.hits⟩) (by omega) ?_ ?_] at r2
  · exact r2
  · unfold scell
    rw [if_neg (by omega), if_neg (by omega), if_neg (by omega), if_neg (by omega), if_pos (by omega), Nat.add_sub_cancel_left, lastU_snoc, if_pos rfl]
  · intro k hk hne
    by_cases k3 : k = 3
    · subst k3
      unfold scell
      simp
    · rw [if_neg k3]
      unfold scell
      by_cases k68 : k < 68 ∧ 3 < k
      · rw [if_neg (by omega), if_neg (by omega), if_neg (by omega), if_neg (by omega), if_pos k68.1, if_neg (by omega), if_neg (by omega), if_neg (by omega), if_neg (by omega), if_pos k68.1, lastU_snoc, if_neg (by omega)]
      · by_cases k2 : k = 0 ∨ k = 1 ∨ k = 2
        · rcases k2 with rfl | rfl | rfl <;> rfl
        · have : k = 68 ∨ k = 69 ∨ k = 70 := by omega
          rcases this with rfl | rfl | rfl <;> rfl
end
/-- the blocks that a call may turn -/
def two (P b : Nat) : Nat → Prop := fun k => k = P ∨ k = b

theorem shasList_any (k : Int) (w : World) :
    Calls Try.prog 43 #[.int .i64 k] w fun e w' => e = .returned (.bool (hasL k)) ∧ w = w' := by
  by_cases h0 : k = 0
  · subst h0
    rw [show hasL 0 = true from by decide]
    go_enter Try.func43, Try.ntmps43
    go_wp2
    go_ret
    exact ⟨rfl, rfl⟩
  · by_cases h1 : k = 1
    · subst h1
      rw [show hasL 1 = true from by decide]
      go_enter Try.func43, Try.ntmps43
      go_wp2
      go_ret
      exact ⟨rfl, rfl⟩
    · have e : hasL k = false := by unfold hasL; simp; omega
      have d0 : (k == 0) = false := by simpa using h0
      have d1 : (k == 1) = false := by simpa using h1
      rw [e]
      clear e
      go_enter Try.func43, Try.ntmps43
      go_wp2
      go_ret
      exact ⟨rfl, rfl⟩
theorem shas_any (P p b : Nat) (c : Sc) (i : Int) (w : World) (h : SRaw w P p b c) :
    Calls Try.prog 45 #[.pointer (some ⟨P, 0, none⟩), .int .i64 i] w fun e w' => e = .returned (.bool (hasN c.s.n i)) ∧ w = w' := by
  have c1 := h.c1
  clear h
  unfold hasN
  by_cases h : 0 ≤ i
  · by_cases h2 : i < (c.s.n : Int)
    · have e : decide (0 ≤ i ∧ i < (c.s.n : Int)) = true := by simp [h, h2]
      rw [e]
      clear e
      go_enter Try.func45, Try.ntmps45
      go_wp2
      go_ret
      exact ⟨rfl, rfl⟩
    · have e : decide (0 ≤ i ∧ i < (c.s.n : Int)) = false := by simp [h2]
      rw [e]
      clear e
      go_enter Try.func45, Try.ntmps45
      go_wp2
      go_ret
      exact ⟨rfl, rfl⟩
  · have e : decide (0 ≤ i ∧ i < (c.s.n : Int)) = false := by simp [h]
    rw [e]
    clear e
    go_enter Try.func45, Try.ntmps45
    go_wp2
    go_ret
    exact ⟨rfl, rfl⟩

set_option maxHeartbeats 1000000 in
theorem use_any (P p b : Nat) (c : Sc) (k i : Nat) (w : World) (h : SRaw w P p b c) (hk : k < 2) (hi : i < c.s.n) (hu : c.us.length < 1000000) :
    Calls Try.prog 47 #[.pointer (some ⟨P, 0, none⟩), .int .i64 i, .int .i64 k] w fun e w' => e = .returned (.tuple #[]) ∧ SRaw w' P p b (c.use k i) ∧ Only (two P b) w w' := by
  have FR := front_any p b c.s k i w h.shelf
  have e1 : c.s.frontC k i = 0 ∧ c.s.frontS k i = c.s.front k i := by
    have h1 : hasL k = true := by unfold hasL; simp; omega
    have h2 : hasN c.s.n i = true := by unfold hasN; simp; omega
    unfold Sh.frontC Sh.frontS
    rw [h1, h2]
    exact ⟨rfl, rfl⟩
  rw [e1.1, e1.2] at FR
  have FR := Lib.hid FR
  have H := Lib.hid h
  have NB := Lib.hid (front_nb c.s k i)
  have c0 := h.c0
  have n64 := h.shelf.fine.n64
  clear h e1
  go_enter Try.func47, Try.ntmps47
  go_wp2_with fail
  (with_reducible refine (FR.out).mono ?_)
  rintro e w1 ⟨rfl, h1, o1⟩
  have R := Lib.hid (H.out.turn h1 NB.out.1 NB.out.2 o1)
  have O := Lib.hid (o1.more (S' := two P b) (fun _ _ e => .inr e))
  have U := Lib.hid (R.out.used (i := i) (by omega))
  have c3 := R.out.c3
  have cu := R.out.cu (f := i) (by omega)
  have z := R.out.row.frozen
  have lp := R.out.row.lt
  have bi : (i : Int) < 64 := by omega
  simp only at c3 cu
  clear h1 o1 FR c0 H
  go_wp2
  go_region
  go_wp2
  go_end0
  exact ⟨rfl, U.out.drew, ((O.out.into (.inl rfl) _ _).into (.inl rfl) _ _).drew⟩
end Go.Proofs.Ytpmhpamajkhhiaa

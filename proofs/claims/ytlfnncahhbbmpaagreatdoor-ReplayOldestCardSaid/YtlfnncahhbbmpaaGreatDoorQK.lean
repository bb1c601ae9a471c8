/- Texts of the layers below, one behind the other. -/
import Derived.Test.YtlfnncahhbbmpaaGreatDoorQB
import Derived.Test.YtlfnncahhbbmpaaGreatDoorQJ
import Derived.Deep.RegionHeld3
import Derived.StillTailTactics
import Derived.Test.YtlfnncahhbbmpaaGreatDoorQA
namespace Go.Proofs.YtlfnncahhbbmpaaGreatDoor
open Go.RowKit
set_option linter.unusedVariables false
set_option maxRecDepth 100000

/-- n cells by a function -/
def tab (n : Nat) (f : Nat → Value) : Array Value := ((List.range n).map f).toArray
theorem tab_get {n j : Nat} (f : Nat → Value) (h : j < n) : (tab n f)[j]? = some (f j) := by
  unfold tab
  rw [List.getElem?_toArray, List.getElem?_map, List.getElem?_range h]
  rfl
theorem tab_put {n j : Nat} {f g : Nat → Value} {v : Value} (h : j < n) (hv : g j = v) (he : ∀ i, i < n → i ≠ j → g i = f i) : (tab n f).setIfInBounds j v = tab n g := by
  unfold tab
  rw [List.setIfInBounds_toArray]
  congr 1
  apply List.ext_getElem?
  intro i
  rw [List.getElem?_set]
  by_cases c : j = i
  · subst c
    rw [if_pos rfl, List.getElem?_map, List.getElem?_range h]
    simp [h, hv]
  · rw [if_neg c]
    by_cases d : i < n
    · rw [List.getElem?_map, List.getElem?_map, List.getElem?_range d]
      simp [he i d (fun e => c e.symm)]
    · rw [List.getElem?_map, List.getElem?_map, List.getElem?_eq_none (by simp; omega)]
      rfl

/-- the cells of a policy -/
def scell (p : Nat) (c : Sc) (j : Nat) : Value :=
  if j = 0 then .pointer (some ⟨p, 0, none⟩) else if j = 1 then .int .i64 c.s.n else if j = 2 then .int .i64 c.s.bot else if j = 3 then .int .i64 c.us.length
  else if j < 68 then .int .i64 (lastU c.us (j - 4)) else if j = 68 then .int .i64 c.want else if j = 69 then .int .u64 c.miss else .int .u64 c.hits
/-- a policy at block P, its shelf at block p, the nodes at block b -/
structure SRaw (w : World) (P p b : Nat) (c : Sc) : Prop where
  row : Row w P 99 (tab 71 (scell p c))
  shelf : Lies w p b c.s
  nep : P ≠ p
  neb : P ≠ b
structure SLies (w : World) (P p b : Nat) (c : Sc) : Prop where
  raw : SRaw w P p b c
  fine : c.Fine
section
variable {w w' : World} {P p b : Nat} {c : Sc}
theorem SRaw.at_ (h : SRaw w P p b c) {j : Nat} (hj : j < 71) : w.cell? ⟨P, j, none⟩ = some (scell p c j) := by
  rw [h.row.cell, tab_get _ hj]
theorem SRaw.c0 (h : SRaw w P p b c) : w.cell? ⟨P, 0, none⟩ = some (.pointer (some ⟨p, 0, none⟩)) := h.at_ (j := 0) (by decide)
theorem SRaw.c1 (h : SRaw w P p b c) : w.cell? ⟨P, 1, none⟩ = some (.int .i64 c.s.n) := h.at_ (j := 1) (by decide)
theorem SRaw.c2 (h : SRaw w P p b c) : w.cell? ⟨P, 2, none⟩ = some (.int .i64 c.s.bot) := h.at_ (j := 2) (by decide)
theorem SRaw.c3 (h : SRaw w P p b c) : w.cell? ⟨P, 3, none⟩ = some (.int .i64 c.us.length) := h.at_ (j := 3) (by decide)
theorem SRaw.cu (h : SRaw w P p b c) {f : Nat} (hf : f < 64) : w.cell? ⟨P, 4 + f, none⟩ = some (.int .i64 (lastU c.us f)) := by
  rw [h.at_ (j := 4 + f) (by omega)]
  unfold scell
  rw [if_neg (by omega), if_neg (by omega), if_neg (by omega), if_neg (by omega), if_pos (by omega), Nat.add_sub_cancel_left]
theorem SRaw.c68 (h : SRaw w P p b c) : w.cell? ⟨P, 68, none⟩ = some (.int .i64 c.want) := h.at_ (j := 68) (by decide)
theorem SRaw.c69 (h : SRaw w P p b c) : w.cell? ⟨P, 69, none⟩ = some (.int .u64 c.miss) := h.at_ (j := 69) (by decide)
theorem SRaw.c70 (h : SRaw w P p b c) : w.cell? ⟨P, 70, none⟩ = some (.int .u64 c.hits) := h.at_ (j := 70) (by decide)
theorem SRaw.keep (h : SRaw w P p b c) {S : Nat → Prop} (k : Only S w w') (hP : ¬ S P) (hp : ¬ S p) (hb : ¬ S b) : SRaw w' P p b c := ⟨k.row h.row hP, h.shelf.keep k hp hb, h.nep, h.neb⟩
theorem SRaw.still (h : SRaw w P p b c) (k : Only none_ w w') : SRaw w' P p b c := h.keep k (fun s => s) (fun s => s) (fun s => s)
theorem SRaw.drew (h : SRaw w P p b c) : SRaw w.drew P p b c := h.still (Only.refl none_ w).drew
theorem SLies.still (h : SLies w P p b c) (k : Only none_ w w') : SLies w' P p b c := ⟨h.raw.still k, h.fine⟩
theorem SLies.keep (h : SLies w P p b c) {S : Nat → Prop} (k : Only S w w') (hP : ¬ S P) (hp : ¬ S p) (hb : ¬ S b) : SLies w' P p b c := ⟨h.raw.keep k hP hp hb, h.fine⟩
theorem SRaw.lt (h : SRaw w P p b c) : P < w.heap.size ∧ p < w.heap.size ∧ b < w.heap.size := ⟨h.row.lt, h.shelf.lt.1, h.shelf.lt.2⟩
/-- the shelf turns -/
theorem SRaw.turn (h : SRaw w P p b c) {s' : Sh} (hl : Lies w' p b s') (hn : s'.n = c.s.n) (hb : s'.bot = c.s.bot) (k : Only (fun k => k = b) w w') : SRaw w' P p b ⟨s', c.us, c.want, c.miss, c.hits⟩ := by
  refine ⟨?_, hl, h.nep, h.neb⟩
  have := k.row h.row h.neb
  have e : scell p c = scell p ⟨s', c.us, c.want, c.miss, c.hits⟩ := by
    funext j
    unfold scell
    rw [hn, hb]
  rw [← e]
  exact this
/-- one more use -/
theorem SRaw.used (h : SRaw w P p b c) {i : Nat} (hi : i < 64) : SRaw ((w.setCell ⟨P, 3, none⟩ (.int .i64 (c.us.length + 1 : Nat))).setCell ⟨P, 4 + i, none⟩ (.int .i64 (c.us.length + 1 : Nat))) P p b ⟨c.s, c.us ++ [i], c.want, c.miss, c.hits⟩ := by
  have o : Only (fun k => k = P) w ((w.setCell ⟨P, 3, none⟩ (.int .i64 (c.us.length + 1 : Nat))).setCell ⟨P, 4 + i, none⟩ (.int .i64 (c.us.length + 1 : Nat))) := ((Only.refl (fun k => k = P) w).into rfl _ _).into rfl _ _
  refine ⟨?_, h.shelf.keep o (fun e => h.nep e.symm) (fun e => h.neb e.symm), h.nep, h.neb⟩
  have r1 := h.row.put 3 (.int .i64 (c.us.length + 1 : Nat))
  rw [tab_put (v := .int .i64 (c.us.length + 1 : Nat)) (g := fun j => if j = 3 then .int .i64 (c.us.length + 1 : Nat) else scell p c j) (by decide) (if_pos rfl) (fun k _ hk => if_neg hk)] at r1
  have r2 := r1.put (4 + i) (.int .i64 (c.us.length + 1 : Nat))
  rw [tab_put (g := scell p ⟨c.s, c.us ++ [i], c.want, c.miss, c.hits⟩) (by omega) ?_ ?_] at r2
  · exact r2
  · unfold scell
    rw [if_neg (by omega), if_neg (by omega), if_neg (by omega), if_neg (by omega), if_pos (by omega), Nat.add_sub_cancel_left, lastU_snoc, if_pos rfl]
  · intro k hk hne
    by_cases k3 : k = 3
    · subst k3
      unfold scell
      simp
    · rw [if_neg k3]
      unfold scell
      by_cases k68 : k < 68 ∧ 3 < k
      · rw [if_neg (by omega), if_neg (by omega), if_neg (by omega), if_neg (by omega), if_pos k68.1, if_neg (by omega), if_neg (by omega), if_neg (by omega), if_neg (by omega), if_pos k68.1, lastU_snoc, if_neg (by omega)]
      · by_cases k2 : k = 0 ∨ k = 1 ∨ k = 2
        · rcases k2 with rfl | rfl | rfl <;> rfl
        · have : k = 68 ∨ k = 69 ∨ k = 70 := by omega
          rcases this with rfl | rfl | rfl <;> rfl
end
/-- the blocks that a call may turn -/
def two (P b : Nat) : Nat → Prop := fun k => k = P ∨ k = b

theorem shasList_any (k : Int) (w : World) :
    Calls Tryz.prog 115 #[.int .i64 k] w fun e w' => e = .returned (.bool (hasL k)) ∧ w = w' := by
  by_cases h0 : k = 0
  · subst h0
    rw [show hasL 0 = true from by decide]
    go_enter Tryz.func115, Tryz.ntmps115
    go_wp2
    go_ret
    exact ⟨rfl, rfl⟩
  · by_cases h1 : k = 1
    · subst h1
      rw [show hasL 1 = true from by decide]
      go_enter Tryz.func115, Tryz.ntmps115
      go_wp2
      go_ret
      exact ⟨rfl, rfl⟩
    · have e : hasL k = false := by unfold hasL; simp; omega
      have d0 : (k == 0) = false := by simpa using h0
      have d1 : (k == 1) = false := by simpa using h1
      rw [e]
      clear e
      go_enter Tryz.func115, Tryz.ntmps115
      go_wp2
      go_ret
      exact ⟨rfl, rfl⟩
theorem shas_any (P p b : Nat) (c : Sc) (i : Int) (w : World) (h : SRaw w P p b c) :
    Calls Tryz.prog 114 #[.pointer (some ⟨P, 0, none⟩), .int .i64 i] w fun e w' => e = .returned (.bool (hasN c.s.n i)) ∧ w = w' := by
  have c1 := h.c1
  clear h
  unfold hasN
  by_cases h : 0 ≤ i
  · by_cases h2 : i < (c.s.n : Int)
    · have e : decide (0 ≤ i ∧ i < (c.s.n : Int)) = true := by simp [h, h2]
      rw [e]
      clear e
      go_enter Tryz.func114, Tryz.ntmps114
      go_wp2
      go_ret
      exact ⟨rfl, rfl⟩
    · have e : decide (0 ≤ i ∧ i < (c.s.n : Int)) = false := by simp [h2]
      rw [e]
      clear e
      go_enter Tryz.func114, Tryz.ntmps114
      go_wp2
      go_ret
      exact ⟨rfl, rfl⟩
  · have e : decide (0 ≤ i ∧ i < (c.s.n : Int)) = false := by simp [h]
    rw [e]
    clear e
    go_enter Tryz.func114, Tryz.ntmps114
    go_wp2
    go_ret
    exact ⟨rfl, rfl⟩

set_option maxHeartbeats 1000000 in
theorem use_any (P p b : Nat) (c : Sc) (k i : Nat) (w : World) (h : SRaw w P p b c) (hk : k < 2) (hi : i < c.s.n) (hu : c.us.length < 1000000) :
    Calls Tryz.prog 118 #[.pointer (some ⟨P, 0, none⟩), .int .i64 i, .int .i64 k] w fun e w' => e = .returned (.tuple #[]) ∧ SRaw w' P p b (c.use k i) ∧ Only (two P b) w w' := by
  have FR := front_any p b c.s k i w h.shelf
  have e1 : c.s.frontC k i = 0 ∧ c.s.frontS k i = c.s.front k i := by
    have h1 : hasL k = true := by unfold hasL; simp; omega
    have h2 : hasN c.s.n i = true := by unfold hasN; simp; omega
    unfold Sh.frontC Sh.frontS
    rw [h1, h2]
    exact ⟨rfl, rfl⟩
  rw [e1.1, e1.2] at FR
  have FR := Lib.hid FR
  have H := Lib.hid h
  have NB := Lib.hid (front_nb c.s k i)
  have c0 := h.c0
  have n64 := h.shelf.fine.n64
  clear h e1
  go_enter Tryz.func118, Tryz.ntmps118
  go_wp2_with fail
  (with_reducible refine (FR.out).mono ?_)
  rintro e w1 ⟨rfl, h1, o1⟩
  have R := Lib.hid (H.out.turn h1 NB.out.1 NB.out.2 o1)
  have O := Lib.hid (o1.more (S' := two P b) (fun _ _ e => .inr e))
  have U := Lib.hid (R.out.used (i := i) (by omega))
  have c3 := R.out.c3
  have cu := R.out.cu (f := i) (by omega)
  have z := R.out.row.frozen
  have lp := R.out.row.lt
  have bi : (i : Int) < 64 := by omega
  simp only at c3 cu
  clear h1 o1 FR c0 H
  go_wp2
  go_region
  go_wp2
  go_end0
  exact ⟨rfl, U.out.drew, ((O.out.into (.inl rfl) _ _).into (.inl rfl) _ _).drew⟩
end Go.Proofs.YtlfnncahhbbmpaaGreatDoor

namespace Go.Proofs.YtlfnncahhbbmpaaGreatDoor
open Go.RowKit
set_option linter.unusedVariables false
set_option maxRecDepth 100000

section
variable {w w' : World} {P p b : Nat} {c : Sc}
theorem SRaw.put_ (h : SRaw w P p b c) {j : Nat} (hj : j < 71) (v : Value) (c' : Sc) (hs : c'.s = c.s) (hv : scell p c' j = v) (he : ∀ i, i < 71 → i ≠ j → scell p c' i = scell p c i) : SRaw (w.setCell ⟨P, j, none⟩ v) P p b c' := by
  have o : Only (fun k => k = P) w (w.setCell ⟨P, j, none⟩ v) := (Only.refl (fun k => k = P) w).into rfl _ _
  refine ⟨?_, ?_, h.nep, h.neb⟩
  · have r1 := h.row.put j v
    rw [tab_put hj hv he] at r1
    exact r1
  · rw [hs]
    exact h.shelf.keep o (fun e => h.nep e.symm) (fun e => h.neb e.symm)
theorem far68 {p : Nat} {c : Sc} {us : List Nat} {x y z : Nat} {i : Nat} (hi : i < 68) : scell p ⟨c.s, c.us, x, y, z⟩ i = scell p c i := by
  unfold scell
  by_cases k3 : i = 0 ∨ i = 1 ∨ i = 2 ∨ i = 3
  · rcases k3 with rfl | rfl | rfl | rfl <;> rfl
  · rw [if_neg (by omega), if_neg (by omega), if_neg (by omega), if_neg (by omega), if_pos hi, if_neg (by omega), if_neg (by omega), if_neg (by omega), if_neg (by omega), if_pos hi]
theorem SRaw.setW (h : SRaw w P p b c) (x : Nat) : SRaw (w.setCell ⟨P, 68, none⟩ (.int .i64 x)) P p b ⟨c.s, c.us, x, c.miss, c.hits⟩ := by
  refine h.put_ (by decide) _ _ rfl rfl (fun i hi hne => ?_)
  by_cases q : i < 68
  · exact far68 (us := c.us) q
  · have : i = 69 ∨ i = 70 := by omega
    rcases this with rfl | rfl <;> rfl
theorem SRaw.setM (h : SRaw w P p b c) (x : Nat) : SRaw (w.setCell ⟨P, 69, none⟩ (.int .u64 x)) P p b ⟨c.s, c.us, c.want, x, c.hits⟩ := by
  refine h.put_ (by decide) _ _ rfl rfl (fun i hi hne => ?_)
  by_cases q : i < 68
  · exact far68 (us := c.us) q
  · have : i = 68 ∨ i = 70 := by omega
    rcases this with rfl | rfl <;> rfl
theorem SRaw.setH (h : SRaw w P p b c) (x : Nat) : SRaw (w.setCell ⟨P, 70, none⟩ (.int .u64 x)) P p b ⟨c.s, c.us, c.want, c.miss, x⟩ := by
  refine h.put_ (by decide) _ _ rfl rfl (fun i hi hne => ?_)
  by_cases q : i < 68
  · exact far68 (us := c.us) q
  · have : i = 68 ∨ i = 69 := by omega
    rcases this with rfl | rfl <;> rfl
end

theorem side_cases (x y : Int) : (y < x ∧ side x y = 1) ∨ (x < y ∧ side x y = -1) ∨ (x = y ∧ side x y = 0) := by
  unfold side
  by_cases a : x < y
  · rw [if_pos a]; exact .inr (.inl ⟨a, rfl⟩)
  · by_cases b : y < x
    · rw [if_neg a, if_pos b]; exact .inl ⟨b, rfl⟩
    · rw [if_neg a, if_neg b]; exact .inr (.inr ⟨by omega, rfl⟩)
theorem newWant_clamp {c : Sc} (h : c.want ≤ c.s.n) : ((c.newWant : Nat) : Int) = clamp ((c.want : Int) + side ((c.miss * c.s.bot : Nat) : Int) ((c.hits * c.s.l0.length : Nat) : Int)) 0 (c.s.n : Int) := by
  unfold Sc.newWant clamp
  rcases side_cases ((c.miss * c.s.bot : Nat) : Int) ((c.hits * c.s.l0.length : Nat) : Int) with ⟨a, e⟩ | ⟨a, e⟩ | ⟨a, e⟩
  · have a2 : c.hits * c.s.l0.length < c.miss * c.s.bot := by omega
    rw [e, if_pos a2]
    omega
  · have a2 : c.miss * c.s.bot < c.hits * c.s.l0.length := by omega
    rw [e, if_neg (by omega), if_pos a2]
    omega
  · have a2 : c.miss * c.s.bot = c.hits * c.s.l0.length := by omega
    rw [e, if_neg (by omega), if_neg (by omega)]
    omega
theorem below_only {w w' : World} (h : Below w.heap.size w w') : Only none_ w w' := ⟨h.os, h.tape, h.output, h.size, fun k hk _ => h.block k hk⟩

set_option maxRecDepth 100000 in
set_option maxHeartbeats 4000000 in
theorem weigh_any (P p b : Nat) (c : Sc) (w : World) (h : SRaw w P p b c) (hw : c.want ≤ c.s.n) (hm : c.miss ≤ 64) (hh : c.hits ≤ 64) :
    Calls Tryz.prog 117 #[.pointer (some ⟨P, 0, none⟩)] w fun e w' => e = .returned (.tuple #[]) ∧ SRaw w' P p b c.weigh ∧ Only (two P b) w w' := by
  have H := Lib.hid h
  have le64 := revL_len h.shelf.fine 0
  have eL : (c.s.revL 0).length = c.s.l0.length := by
    rw [show c.s.revL 0 = c.s.l0.reverse from rfl, List.length_reverse]
  rw [eL] at le64
  have b64 := h.shelf.fine.botn
  have n64 := h.shelf.fine.n64
  have NW := Lib.hid (newWant_clamp hw)
  have CR := Lib.hid (fun w => cross_any c.miss c.s.bot c.hits c.s.l0.length (by omega) (by omega) (by omega) (by omega) w)
  have SD := side_cases ((c.miss * c.s.bot : Nat) : Int) ((c.hits * c.s.l0.length : Nat) : Int)
  have SD1 : side ((c.miss * c.s.bot : Nat) : Int) ((c.hits * c.s.l0.length : Nat) : Int) ≤ 1 := by omega
  have SD2 : -1 ≤ side ((c.miss * c.s.bot : Nat) : Int) ((c.hits * c.s.l0.length : Nat) : Int) := by omega
  clear SD
  generalize side ((c.miss * c.s.bot : Nat) : Int) ((c.hits * c.s.l0.length : Nat) : Int) = sd at *
  have L := Lib.hid (fun w' (o : Only none_ w w') => (callsIn_wide (n := 5)).1 (len_in p b c.s 0 w' (h.still o).shelf))
  rw [eL] at L
  have WG := Lib.hid (show c.weigh = if c.full = true then ⟨c.s, c.us, c.newWant, c.miss / 2, c.hits / 2⟩ else ⟨c.s, c.us, c.newWant, c.miss, c.hits⟩ from rfl)
  clear eL h
  go_enter Tryz.func117, Tryz.ntmps117
  go_wp2_with fail
  have HD := Lib.hid H.out.drew
  have c0 := HD.out.c0
  have c2 := HD.out.c2
  have c69 := HD.out.c69
  have c70 := HD.out.c70
  have OD := Lib.hid ((Only.refl none_ w).drew)
  have v1 : IntKind.u64.wrap (c.s.bot : Int) = (c.s.bot : Int) := by rw [IntKind.wrap_u64]; omega
  have v2 : IntKind.u64.wrap (c.s.l0.length : Int) = (c.s.l0.length : Int) := by rw [IntKind.wrap_u64]; omega
  go_region_held3 (fun w' => w'.cell? ⟨P, 0, none⟩ = some (.pointer (some ⟨p, 0, none⟩)) ∧ w'.cell? ⟨P, 2, none⟩ = some (.int .i64 c.s.bot) ∧ w'.cell? ⟨P, 69, none⟩ = some (.int .u64 c.miss) ∧ w'.cell? ⟨P, 70, none⟩ = some (.int .u64 c.hits))
    (first
      | (go_keep; done)
      | (go_split_ands; exact ⟨HS1.out.c0, HS1.out.c2, HS1.out.c69, HS1.out.c70⟩))
    (first
      | (go_at_call 150; refine (L.out _ OD.out).mono ?_; rintro e w1 ⟨rfl, o1⟩; have O1 := Lib.hid (OD.out.same (below_only o1)); have HS1 := Lib.hid (H.out.still O1.out))
      | (go_at_call 149; refine (CR.out _).mono ?_; rintro e w2 ⟨rfl, rfl⟩))
  have sz := O1.out.size
  rename_i hHeld
  clear hHeld
  clear c0 c2 c69 c70 v1 v2 L CR HD OD o1
  have c68 := HS1.out.c68
  have c1 := HS1.out.c1
  have z := HS1.out.row.frozen
  have lp := HS1.out.row.lt
  have CL := clamp_any ((c.want : Int) + sd) 0 (c.s.n : Int)
  rw [← NW.out] at CL
  replace CL := Lib.hid CL
  have v3 : IntKind.i64.wrap ((c.want : Int) + sd) = (c.want : Int) + sd := by rw [IntKind.wrap_i64]; omega
  have nl : c.newWant ≤ c.s.n := newWant_le hw
  go_wp2_with fail
  go_region_with (go_at_call 151; refine (CL.out _).mono ?_; rintro e w2 ⟨rfl, rfl⟩)
  all_goals go_wp2_with fail
  all_goals
    have R := Lib.hid (HS1.out.setW c.newWant).drew
    have O2 := Lib.hid ((((O1.out.up (S := two P b)).into (.inl rfl) 68 (.int .i64 c.newWant))).drew)
    have lp2 := R.out.row.lt
    clear c68 c1 z lp CL O1 HS1
    generalize (w1.setCell ⟨P, 68, none⟩ (.int .i64 c.newWant)).drew = w2 at *
    have c69 := R.out.c69
    have c70 := R.out.c70
    have z := R.out.row.frozen
    simp only at c69 c70
    go_region
    have R := Lib.hid R.out.drew
    have O2 := Lib.hid O2.out.drew
    have d : decide ((64 : Int) ≤ max (c.miss : Int) (c.hits : Int)) = c.full := by
      unfold Sc.full
      by_cases q : 64 ≤ c.miss ∨ 64 ≤ c.hits
      · rw [decide_eq_true q]; exact decide_eq_true (by omega)
      · rw [decide_eq_false q]; exact decide_eq_false (by omega)
    obtain ⟨t, ht⟩ : ∃ t, c.full = t := ⟨_, rfl⟩
    have W := WG.out
    rw [d, ht]
    rw [ht] at W
    clear d ht WG
    cases t with
    | true =>
      rw [if_pos rfl] at W
      replace W := Lib.hid W
      have u1 : IntKind.u64.wrap ((c.miss : Int) / 2) = ((c.miss / 2 : Nat) : Int) := by rw [IntKind.wrap_u64]; omega
      have u2 : IntKind.u64.wrap ((c.hits : Int) / 2) = ((c.hits / 2 : Nat) : Int) := by rw [IntKind.wrap_u64]; omega
      have R3 := Lib.hid ((R.out.setM (c.miss / 2)).setH (c.hits / 2))
      clear hm hh
      go_wp2
      go_end0
      rw [W.out]
      exact ⟨rfl, R3.out, (O2.out.into (.inl rfl) _ _).into (.inl rfl) _ _⟩
    | false =>
      rw [if_neg (by decide)] at W
      replace W := Lib.hid W
      clear hm hh
      go_wp2
      go_end0
      rw [W.out]
      exact ⟨rfl, R.out, O2.out⟩
end Go.Proofs.YtlfnncahhbbmpaaGreatDoor

namespace Go.Proofs.YtlfnncahhbbmpaaGreatDoor
open Go.RowKit
set_option linter.unusedVariables false
set_option maxRecDepth 100000

set_option maxHeartbeats 1000000 in
theorem index_any (v : Value) (xs : List Int) (x : Int) (w : World) (hr : Reads w v xs) (hm : xs.length ≤ 1000000) :
    Calls Tryz.prog 153 #[v, .int .i64 x] w fun e w' => e = .returned (.int .i64 (findI xs x)) ∧ w = w' := by
  obtain ⟨a, ca, rfl, ha⟩ := hr
  have HA := Lib.hid ha
  clear ha
  go_enter Tryz.func153, Tryz.ntmps153
  go_wp2_with fail
  go_loop [8] (fun i => ∃ k : Nat, k ≤ xs.length ∧ i = .int .i64 k ∧ x ∉ xs.take k) (fun i => xs.length - (intOf i).toNat)
  case atStart => exact ⟨0, Nat.zero_le _, rfl, by simp⟩
  case round =>
    obtain ⟨k, hk, rfl, hn⟩ := hrel
    have HN := Lib.hid hn
    clear hn
    by_cases hlt : k < xs.length
    · obtain ⟨y, hy⟩ : ∃ y, xs[k]? = some y := ⟨_, List.getElem?_eq_getElem hlt⟩
      obtain ⟨g1, o1, rfl, c1⟩ := HA.out k y hy
      have HY := Lib.hid hy
      clear hy
      by_cases e : x = y
      · have t : (x == y) = true := by simp [e]
        have FE := Lib.hid (findI_at (HY.out.trans (by rw [e])) HN.out)
        clear e
        go_wp2_with fail
        go_ret
        exact ⟨by rw [FE.out]; rfl, rfl⟩
      · have t : (x == y) = false := by simpa using e
        have NX := Lib.hid (not_take_more HN.out HY.out (fun q => e q.symm))
        clear e
        go_wp2_with fail
        go_round
        case rel => exact ⟨k + 1, by omega, by go_num, NX.out⟩
        case measure => simp [intOf]; omega
    · have hge : xs.length ≤ k := by omega
      have FE := Lib.hid (findI_no (xs := xs) (x := x) (by
        have := HN.out
        rw [List.take_of_length_le hge] at this
        exact this))
      go_wp2_with fail
      go_ret
      exact ⟨by rw [FE.out]; rfl, rfl⟩
theorem findI_sign (xs : List Int) (x : Int) : decide (0 ≤ findI xs x) = decide (x ∈ xs) := by
  unfold findI
  by_cases m : x ∈ xs
  · rw [if_pos m, decide_eq_true m]; exact decide_eq_true (by omega)
  · rw [if_neg m, decide_eq_false m]; rfl
theorem contains_any (v : Value) (xs : List Int) (x : Int) (w : World) (hr : Reads w v xs) (hm : xs.length ≤ 1000000) :
    Calls Tryz.prog 120 #[v, .int .i64 x] w fun e w' => e = .returned (.bool (decide (x ∈ xs))) ∧ w = w' := by
  have IX := Lib.hid (index_any v xs x w hr hm)
  have d := findI_sign xs x
  obtain ⟨a, ca, rfl, ha⟩ := hr
  clear ha
  generalize findI xs x = f at *
  generalize decide (x ∈ xs) = t at *
  go_enter Tryz.func120, Tryz.ntmps120
  go_wp2_with fail
  (with_reducible refine (IX.out).mono ?_)
  rintro e w' ⟨rfl, rfl⟩
  go_wp2_with fail
  go_ret
  exact ⟨rfl, rfl⟩

theorem where_no {s : Sh} {j : Nat} (h : s.lst j = -1) : s.whereV j = .tuple #[.int .i64 0, .bool false, .bool false] := by
  have : s.liesC j ≠ 0 := by
    unfold Sh.liesC
    split
    · rw [Int.toNat_natCast, if_pos h]; decide
    · decide
  unfold Sh.whereV
  rw [if_neg this]
theorem where_yes {s : Sh} {j : Nat} (hj : j < s.n) (h : s.lst j ≠ -1) : s.whereV j = .tuple #[.int .i64 (s.lst j), .bool (s.low j), .bool true] := by
  have : s.liesC j = 0 := by
    unfold Sh.liesC
    have h2 : hasN s.n j = true := by unfold hasN; simp; omega
    rw [h2, if_pos rfl, Int.toNat_natCast, if_neg h]
  unfold Sh.whereV Sh.low
  rw [if_pos this, Int.toNat_natCast]
theorem held_mem {s : Sh} {j : Nat} (hj : j < s.n) : decide ((j : Int) ∈ ints s.heldL) = s.h j := by
  have : (j : Int) ∈ ints s.heldL ↔ s.h j = true := by
    unfold ints Sh.heldL
    rw [List.mem_map]
    constructor
    · rintro ⟨x, hx, e⟩
      have : x = j := by omega
      subst this
      exact (List.mem_filter.1 hx).2
    · intro h
      exact ⟨j, List.mem_filter.2 ⟨List.mem_range.2 hj, h⟩, rfl⟩
  cases e : s.h j with
  | true => exact decide_eq_true (this.2 e)
  | false => exact decide_eq_false (fun q => by rw [this.1 q] at e; cases e)
theorem held_len7 {s : Sh} (f : s.Fine) : s.heldL.length ≤ 64 := by
  have := f.n64
  unfold Sh.heldL
  exact Nat.le_trans (List.length_filter_le _ _) (by simp; omega)

theorem two_b {P b : Nat} {w w' : World} (o : Only (fun k => k = b) w w') : Only (two P b) w w' := o.more (fun _ _ e => .inr e)

theorem enter_no {c : Sc} {i k : Int} (h : c.enterC i k ≠ 0) : c.enterS i k = c := by unfold Sc.enterS; rw [if_neg h]
theorem enter_yes {c : Sc} {i : Nat} {k : Nat} (h : c.enterC i k = 0) : c.enterS i k = ⟨(c.s.front k i).hold i true, c.us ++ [i], c.want, c.miss, c.hits⟩ := by
  unfold Sc.enterS
  rw [if_pos h, Int.toNat_natCast, Int.toNat_natCast]

set_option maxHeartbeats 2000000 in
theorem enter_any (P p b : Nat) (c : Sc) (i k : Int) (w : World) (h : SLies w P p b c) (hu : c.us.length < 1000000) :
    Calls Tryz.prog 79 #[.pointer (some ⟨P, 0, none⟩), .int .i64 i, .int .i64 k] w fun e w' => e = .returned (.int .i64 (c.enterC i k)) ∧ SLies w' P p b (c.enterS i k) ∧ Only (two P b) w w' := by
  have H := Lib.hid h
  have HN := Lib.hid (shas_any P p b c i w h.raw)
  have HL := Lib.hid (shasList_any k w)
  have c0 := h.raw.c0
  clear h
  cases eN : hasN c.s.n i with
  | false =>
    have e1 : c.enterC i k = 1 := by unfold Sc.enterC; rw [eN]; rfl
    rw [enter_no (by rw [e1]; decide), e1]
    rw [eN] at HN
    clear eN e1
    go_enter Tryz.func79, Tryz.ntmps79
    go_wp2_with fail
    (with_reducible refine (HN.out).mono ?_)
    rintro e w' ⟨rfl, rfl⟩
    go_wp2
    go_ret
    exact ⟨rfl, H.out, Only.refl _ _⟩
  | true =>
    rw [eN] at HN
    cases eL : hasL k with
    | false =>
      have e1 : c.enterC i k = 1 := by unfold Sc.enterC; rw [eN, eL]; rfl
      rw [enter_no (by rw [e1]; decide), e1]
      rw [eL] at HL
      clear eN eL e1
      go_enter Tryz.func79, Tryz.ntmps79
      go_wp2_with fail
      (with_reducible refine (HN.out).mono ?_)
      rintro e w' ⟨rfl, rfl⟩
      go_wp2_with fail
      (with_reducible refine (HL.out).mono ?_)
      rintro e w' ⟨rfl, rfl⟩
      go_wp2
      go_ret
      exact ⟨rfl, H.out, Only.refl _ _⟩
    | true =>
      rw [eL] at HL
      obtain ⟨j, rfl, hj⟩ := hasN_nat eN
      have WH := where_any p b c.s j w H.out.raw.shelf
      by_cases q : c.s.lst j = -1
      · have e1 : c.enterC j k = 0 := by unfold Sc.enterC; rw [eN, eL, Int.toNat_natCast, if_pos q]; rfl
        obtain ⟨kn, rfl, hk⟩ : ∃ kn : Nat, k = kn ∧ kn < 2 := by
          rcases hasL_cases eL with rfl | rfl
          · exact ⟨0, rfl, by decide⟩
          · exact ⟨1, rfl, by decide⟩
        rw [where_no q] at WH
        have FE := H.out.fine.enterS j kn
        have es := enter_yes e1
        rw [es] at FE
        rw [es, e1]
        have WH := Lib.hid WH
        have FE := Lib.hid FE
        have US := Lib.hid (fun w' (o : Only none_ w w') => use_any P p b c kn j w' (H.out.raw.still o) hk hj hu)
        have HO := Lib.hid (show (c.use kn j).s.liesC j = 0 ∧ (c.use kn j).s.holdS j true = (c.s.front kn j).hold j true from by
          have h1 : ((c.use kn j).s).liesC j = 0 := by
            unfold Sh.liesC
            have h2 : hasN (c.use kn j).s.n j = true := by
              show hasN (c.s.front kn j).n j = true
              rw [(front_nb _ _ _).1]; exact eN
            rw [h2, if_pos rfl, Int.toNat_natCast, if_neg]
            exact (front_mem H.out.fine.s kn j j).2 (.inl rfl)
          refine ⟨h1, ?_⟩
          unfold Sh.holdS
          rw [if_pos h1, Int.toNat_natCast]
          rfl)
        clear eN eL e1 es q
        go_enter Tryz.func79, Tryz.ntmps79
        go_wp2_with fail
        (with_reducible refine (HN.out).mono ?_)
        rintro e w' ⟨rfl, rfl⟩
        go_wp2_with fail
        (with_reducible refine (HL.out).mono ?_)
        rintro e w' ⟨rfl, rfl⟩
        go_wp2_with fail
        (with_reducible refine (WH.out).mono ?_)
        rintro e w1 ⟨rfl, o1⟩
        have O1 := Lib.hid (below_only o1)
        have US1 := Lib.hid (US.out _ O1.out)
        clear o1 US WH c0
        go_wp2_with fail
        (with_reducible refine (US1.out).mono ?_)
        rintro e w2 ⟨rfl, h2, o2⟩
        have H2 := Lib.hid h2
        have O2 := Lib.hid (O1.out.then_ o2)
        have c0 := h2.c0
        have HD := hold_any p b _ j true w2 h2.shelf
        rw [HO.out.1, HO.out.2] at HD
        have HD := Lib.hid HD
        clear h2 o2 US1
        go_wp2_with fail
        (with_reducible refine (HD.out).mono ?_)
        rintro e w3 ⟨rfl, h3, o3⟩
        have R := Lib.hid (H2.out.turn h3 (by rfl) (by rfl) o3)
        have O3 := Lib.hid (O2.out.same (two_b (P := P) o3))
        clear h3 o3 HD c0
        go_wp2
        go_ret
        exact ⟨rfl, ⟨R.out, FE.out⟩, O3.out⟩
      · have e1 : c.enterC j k = 4 := by unfold Sc.enterC; rw [eN, eL, Int.toNat_natCast, if_neg q]; rfl
        rw [enter_no (by rw [e1]; decide), e1]
        rw [where_yes hj q] at WH
        have WH := Lib.hid WH
        generalize c.s.lst j = x0 at *
        generalize c.s.low j = x1 at *
        clear eN eL e1 q
        go_enter Tryz.func79, Tryz.ntmps79
        go_wp2_with fail
        (with_reducible refine (HN.out).mono ?_)
        rintro e w' ⟨rfl, rfl⟩
        go_wp2_with fail
        (with_reducible refine (HL.out).mono ?_)
        rintro e w' ⟨rfl, rfl⟩
        go_wp2_with fail
        (with_reducible refine (WH.out).mono ?_)
        rintro e w1 ⟨rfl, o1⟩
        have O1 := Lib.hid (below_only o1)
        clear o1
        go_wp2
        go_ret
        exact ⟨rfl, H.out.still O1.out, O1.out.up⟩

set_option maxHeartbeats 2000000 in
theorem ready_any (P p b : Nat) (c : Sc) (i : Int) (w : World) (h : SLies w P p b c) :
    Calls Tryz.prog 80 #[.pointer (some ⟨P, 0, none⟩), .int .i64 i] w fun e w' => e = .returned (.int .i64 (c.readyC i)) ∧ SLies w' P p b (c.readyS i) ∧ Only (two P b) w w' := by
  have H := Lib.hid h
  have HN := Lib.hid (shas_any P p b c i w h.raw)
  have c0 := h.raw.c0
  clear h
  cases eN : hasN c.s.n i with
  | false =>
    have e1 : c.readyC i = 1 := by unfold Sc.readyC; rw [eN]; rfl
    have e2 : c.readyS i = c := by unfold Sc.readyS; rw [e1]; rfl
    rw [e1, e2]
    rw [eN] at HN
    clear eN e1 e2
    go_enter Tryz.func80, Tryz.ntmps80
    go_wp2_with fail
    (with_reducible refine (HN.out).mono ?_)
    rintro e w' ⟨rfl, rfl⟩
    go_wp2
    go_ret
    exact ⟨rfl, H.out, Only.refl _ _⟩
  | true =>
    rw [eN] at HN
    obtain ⟨j, rfl, hj⟩ := hasN_nat eN
    have WH := where_any p b c.s j w H.out.raw.shelf
    by_cases q : c.s.lst j = -1
    · have e1 : c.readyC j = 3 := by unfold Sc.readyC; rw [eN, Int.toNat_natCast, if_pos rfl, if_pos q]
      have e2 : c.readyS j = c := by unfold Sc.readyS; rw [e1]; rfl
      rw [e1, e2]
      rw [where_no q] at WH
      have WH := Lib.hid WH
      clear eN e1 e2 q
      go_enter Tryz.func80, Tryz.ntmps80
      go_wp2_with fail
      (with_reducible refine (HN.out).mono ?_)
      rintro e w' ⟨rfl, rfl⟩
      go_wp2_with fail
      (with_reducible refine (WH.out).mono ?_)
      rintro e w1 ⟨rfl, o1⟩
      have O1 := Lib.hid (below_only o1)
      clear o1
      go_wp2
      go_ret
      exact ⟨rfl, H.out.still O1.out, O1.out.up⟩
    · rw [where_yes hj q] at WH
      have WH := Lib.hid WH
      generalize c.s.low j = x1 at *
      have HE := Lib.hid (fun w' (o : Only none_ w w') => held_any p b c.s w' (H.out.raw.still o).shelf)
      have HM := Lib.hid (held_mem hj)
      have h64 := held_len7 H.out.fine.s
      cases eh : c.s.h j with
      | false =>
        have e1 : c.readyC j = 5 := by unfold Sc.readyC; rw [eN, Int.toNat_natCast, if_pos rfl, if_neg q, eh]; rfl
        have e2 : c.readyS j = c := by unfold Sc.readyS; rw [e1]; rfl
        rw [e1, e2]
        rw [eh] at HM
        generalize c.s.lst j = x0 at *
        clear eN e1 e2 q eh
        go_enter Tryz.func80, Tryz.ntmps80
        go_wp2_with fail
        (with_reducible refine (HN.out).mono ?_)
        rintro e w' ⟨rfl, rfl⟩
        go_wp2_with fail
        (with_reducible refine (WH.out).mono ?_)
        rintro e w1 ⟨rfl, o1⟩
        have O1 := Lib.hid (below_only o1)
        have HE1 := Lib.hid (HE.out _ O1.out)
        have c0 := O1.out.cell c0 (fun s => s)
        clear o1 WH HE
        go_wp2_with fail
        (with_reducible refine (HE1.out).mono ?_)
        rintro e w2 ⟨v, rfl, hv, o2⟩
        have O2 := Lib.hid (O1.out.same (below_only o2))
        have CN := contains_any v _ j w2 (Reads.of_owns hv) (by rw [ints_len]; omega)
        rw [HM.out] at CN
        have CN := Lib.hid CN
        clear hv o2 HE1
        go_wp2_with fail
        (with_reducible refine (CN.out).mono ?_)
        rintro e w' ⟨rfl, rfl⟩
        go_wp2
        go_ret
        exact ⟨rfl, H.out.still O2.out, O2.out.up⟩
      | true =>
        have e1 : c.readyC j = 0 := by unfold Sc.readyC; rw [eN, Int.toNat_natCast, if_pos rfl, if_neg q, eh]; rfl
        have e2 : c.readyS j = ⟨c.s.hold j false, c.us, c.want, c.miss, c.hits⟩ := by unfold Sc.readyS; rw [if_pos e1, Int.toNat_natCast]
        have FE := H.out.fine.readyS j
        rw [e2] at FE
        rw [e1, e2]
        have FE := Lib.hid FE
        rw [eh] at HM
        have LC := Lib.hid (show c.s.liesC j = 0 ∧ c.s.holdS j false = c.s.hold j false from by
          have h1 : c.s.liesC j = 0 := by
            unfold Sh.liesC
            rw [eN, if_pos rfl, Int.toNat_natCast, if_neg q]
          refine ⟨h1, ?_⟩
          unfold Sh.holdS
          rw [if_pos h1, Int.toNat_natCast])
        generalize c.s.lst j = x0 at *
        clear eN e1 e2 q eh
        go_enter Tryz.func80, Tryz.ntmps80
        go_wp2_with fail
        (with_reducible refine (HN.out).mono ?_)
        rintro e w' ⟨rfl, rfl⟩
        go_wp2_with fail
        (with_reducible refine (WH.out).mono ?_)
        rintro e w1 ⟨rfl, o1⟩
        have O1 := Lib.hid (below_only o1)
        have HE1 := Lib.hid (HE.out _ O1.out)
        have c0 := O1.out.cell c0 (fun s => s)
        clear o1 WH HE
        go_wp2_with fail
        (with_reducible refine (HE1.out).mono ?_)
        rintro e w2 ⟨v, rfl, hv, o2⟩
        have O2 := Lib.hid (O1.out.same (below_only o2))
        have CN := contains_any v _ j w2 (Reads.of_owns hv) (by rw [ints_len]; omega)
        rw [HM.out] at CN
        have CN := Lib.hid CN
        have c0 := (below_only o2).cell c0 (fun s => s)
        have R2 := Lib.hid (H.out.raw.still O2.out)
        have HD := hold_any p b _ j false w2 R2.out.shelf
        rw [LC.out.1, LC.out.2] at HD
        have HD := Lib.hid HD
        clear hv o2 HE1
        go_wp2_with fail
        (with_reducible refine (CN.out).mono ?_)
        rintro e w' ⟨rfl, rfl⟩
        go_wp2_with fail
        (with_reducible refine (HD.out).mono ?_)
        rintro e w3 ⟨rfl, h3, o3⟩
        have R := Lib.hid (R2.out.turn h3 (by rfl) (by rfl) o3)
        have O3 := Lib.hid (O2.out.then_ (two_b (P := P) o3))
        clear h3 o3 HD c0
        go_wp2
        go_ret
        exact ⟨rfl, ⟨R.out, FE.out⟩, O3.out⟩
end Go.Proofs.YtlfnncahhbbmpaaGreatDoor

namespace Go.Proofs.YtlfnncahhbbmpaaGreatDoor
open Go.RowKit
set_option linter.unusedVariables false
set_option maxRecDepth 100000

set_option maxHeartbeats 2000000 in
theorem gone_any (P p b : Nat) (c : Sc) (i : Int) (w : World) (h : SLies w P p b c) :
    Calls Tryz.prog 82 #[.pointer (some ⟨P, 0, none⟩), .int .i64 i] w fun e w' => e = .returned (.int .i64 (c.s.liesC i)) ∧ SLies w' P p b (c.goneS i) ∧ Only (two P b) w w' := by
  have H := Lib.hid h
  have c0 := h.raw.c0
  have FE := Lib.hid (h.fine.goneS i)
  have DR := Lib.hid (drop_any p b c.s i w h.raw.shelf)
  have NB := Lib.hid (show (c.s.dropS i).n = c.s.n ∧ (c.s.dropS i).bot = c.s.bot from by unfold Sh.dropS; split <;> exact ⟨rfl, rfl⟩)
  clear h
  go_enter Tryz.func82, Tryz.ntmps82
  go_wp2_with fail
  (with_reducible refine (DR.out).mono ?_)
  rintro e w3 ⟨rfl, h3, o3⟩
  have R := Lib.hid (H.out.raw.turn h3 NB.out.1 NB.out.2 o3)
  have O3 := Lib.hid (two_b (P := P) o3)
  clear h3 o3 DR c0
  go_wp2
  go_ret
  exact ⟨rfl, ⟨R.out, FE.out⟩, O3.out⟩

set_option maxHeartbeats 2000000 in
theorem miss_any (P p b : Nat) (c : Sc) (k : Int) (w : World) (h : SLies w P p b c) :
    Calls Tryz.prog 76 #[.pointer (some ⟨P, 0, none⟩), .int .i64 k] w fun e w' => e = .returned (.int .i64 (missC k)) ∧ SLies w' P p b (c.missS k) ∧ Only (two P b) w w' := by
  have H := Lib.hid h
  have HL := Lib.hid (shasList_any k w)
  have c69 := h.raw.c69
  have lp := h.raw.row.lt
  have z := h.raw.row.frozen
  have m64 := h.fine.miss
  clear h
  cases eL : hasL k with
  | false =>
    have e1 : missC k = 1 := by unfold missC; rw [eL]; rfl
    have e2 : c.missS k = c := by
      unfold Sc.missS
      rw [if_neg]
      rintro rfl
      exact absurd eL (by decide)
    rw [e1, e2]
    rw [eL] at HL
    clear eL e1 e2
    go_enter Tryz.func76, Tryz.ntmps76
    go_wp2_with fail
    (with_reducible refine (HL.out).mono ?_)
    rintro e w' ⟨rfl, rfl⟩
    go_wp2
    go_ret
    exact ⟨rfl, H.out, Only.refl _ _⟩
  | true =>
    rw [eL] at HL
    rcases hasL_cases eL with rfl | rfl
    · rw [show missC 0 = 0 from by decide, show c.missS 0 = (Sc.mk c.s c.us c.want (c.miss + 1) c.hits).weigh from rfl]
      have FE := Lib.hid (show (Sc.mk c.s c.us c.want (c.miss + 1) c.hits).weigh.Fine from H.out.fine.missS 0)
      have u1 : IntKind.u64.wrap ((c.miss : Int) + 1) = (c.miss : Int) + 1 := by rw [IntKind.wrap_u64]; omega
      have R1 := Lib.hid (show SRaw (w.setCell ⟨P, 69, none⟩ (.int .u64 ((c.miss : Int) + 1))) P p b ⟨c.s, c.us, c.want, c.miss + 1, c.hits⟩ from H.out.raw.setM (c.miss + 1))
      have WG := Lib.hid (weigh_any P p b _ _ R1.out H.out.fine.want (by show c.miss + 1 ≤ 64; omega) (Nat.le_of_lt H.out.fine.hits))
      have OP := Lib.hid ((Only.refl (two P b) w).into (.inl rfl) 69 (.int .u64 ((c.miss : Int) + 1)))
      clear eL
      go_enter Tryz.func76, Tryz.ntmps76
      go_wp2_with fail
      (with_reducible refine (HL.out).mono ?_)
      rintro e w' ⟨rfl, rfl⟩
      go_wp2_with fail
      (with_reducible refine (WG.out).mono ?_)
      rintro e w2 ⟨rfl, h2, o2⟩
      have R2 := Lib.hid h2
      have O2 := Lib.hid (OP.out.same o2)
      clear h2 o2 WG c69 z
      go_wp2
      go_ret
      exact ⟨rfl, ⟨R2.out, FE.out⟩, O2.out⟩
    · rw [show missC 1 = 0 from by decide, show c.missS 1 = c from rfl]
      clear eL
      go_enter Tryz.func76, Tryz.ntmps76
      go_wp2_with fail
      (with_reducible refine (HL.out).mono ?_)
      rintro e w' ⟨rfl, rfl⟩
      go_wp2
      go_ret
      exact ⟨rfl, H.out, Only.refl _ _⟩

theorem hit_yes {c : Sc} {i k : Nat} (h : c.hitC i k = 0) : c.hitS i k = (c.hitW i).use k i := by
  unfold Sc.hitS
  rw [if_pos h, Int.toNat_natCast, Int.toNat_natCast]

set_option maxHeartbeats 2000000 in
theorem hit_any (P p b : Nat) (c : Sc) (i k : Int) (w : World) (h : SLies w P p b c) (hu : c.us.length < 1000000) :
    Calls Tryz.prog 75 #[.pointer (some ⟨P, 0, none⟩), .int .i64 i, .int .i64 k] w fun e w' => e = .returned (.int .i64 (c.hitC i k)) ∧ SLies w' P p b (c.hitS i k) ∧ Only (two P b) w w' := by
  have H := Lib.hid h
  have HN := Lib.hid (shas_any P p b c i w h.raw)
  have HL := Lib.hid (shasList_any k w)
  have c0 := h.raw.c0
  clear h
  cases eN : hasN c.s.n i with
  | false =>
    have e1 : c.hitC i k = 1 := by unfold Sc.hitC; rw [eN]; rfl
    have e2 : c.hitS i k = c := by unfold Sc.hitS; rw [e1]; rfl
    rw [e1, e2]
    rw [eN] at HN
    clear eN e1 e2
    go_enter Tryz.func75, Tryz.ntmps75
    go_wp2_with fail
    (with_reducible refine (HN.out).mono ?_)
    rintro e w' ⟨rfl, rfl⟩
    go_wp2
    go_ret
    exact ⟨rfl, H.out, Only.refl _ _⟩
  | true =>
    rw [eN] at HN
    cases eL : hasL k with
    | false =>
      have e1 : c.hitC i k = 1 := by unfold Sc.hitC; rw [eN, eL]; rfl
      have e2 : c.hitS i k = c := by unfold Sc.hitS; rw [e1]; rfl
      rw [e1, e2]
      rw [eL] at HL
      clear eN eL e1 e2
      go_enter Tryz.func75, Tryz.ntmps75
      go_wp2_with fail
      (with_reducible refine (HN.out).mono ?_)
      rintro e w' ⟨rfl, rfl⟩
      go_wp2_with fail
      (with_reducible refine (HL.out).mono ?_)
      rintro e w' ⟨rfl, rfl⟩
      go_wp2
      go_ret
      exact ⟨rfl, H.out, Only.refl _ _⟩
    | true =>
      rw [eL] at HL
      obtain ⟨j, rfl, hj⟩ := hasN_nat eN
      have WH := where_any p b c.s j w H.out.raw.shelf
      by_cases q : c.s.lst j = -1
      · have e1 : c.hitC j k = 3 := by unfold Sc.hitC; rw [eN, eL, Int.toNat_natCast, if_pos q]; rfl
        have e2 : c.hitS j k = c := by unfold Sc.hitS; rw [e1]; rfl
        rw [e1, e2]
        rw [where_no q] at WH
        have WH := Lib.hid WH
        clear eN eL e1 e2 q
        go_enter Tryz.func75, Tryz.ntmps75
        go_wp2_with fail
        (with_reducible refine (HN.out).mono ?_)
        rintro e w' ⟨rfl, rfl⟩
        go_wp2_with fail
        (with_reducible refine (HL.out).mono ?_)
        rintro e w' ⟨rfl, rfl⟩
        go_wp2_with fail
        (with_reducible refine (WH.out).mono ?_)
        rintro e w1 ⟨rfl, o1⟩
        have O1 := Lib.hid (below_only o1)
        clear o1
        go_wp2
        go_ret
        exact ⟨rfl, H.out.still O1.out, O1.out.up⟩
      · have e1 : c.hitC j k = 0 := by unfold Sc.hitC; rw [eN, eL, Int.toNat_natCast, if_neg q]; rfl
        obtain ⟨kn, rfl, hk⟩ : ∃ kn : Nat, k = kn ∧ kn < 2 := by
          rcases hasL_cases eL with rfl | rfl
          · exact ⟨0, rfl, by decide⟩
          · exact ⟨1, rfl, by decide⟩
        rw [where_yes hj q] at WH
        have WH := Lib.hid WH
        have FE := H.out.fine.hitS j kn
        have es := hit_yes e1
        rw [es] at FE
        rw [es, e1]
        have FE := Lib.hid FE
        obtain ⟨f1, s1, u1⟩ := H.out.fine.hitW j
        have US := Lib.hid (fun w' (h' : SRaw w' P p b (c.hitW j)) => use_any P p b (c.hitW j) kn j w' h' hk (by rw [s1]; exact hj) (by rw [u1]; exact hu))
        have lc := lst_cases q
        clear eN eL e1 es f1 s1 u1
        by_cases r1 : c.s.lst j = 1
        · cases lw : c.s.low j with
          | false =>
            have ew : c.hitW j = c := by unfold Sc.hitW; rw [if_neg]; rintro ⟨_, h2⟩; rw [lw] at h2; cases h2
            rw [ew] at US FE ⊢
            rw [lw, r1] at WH
            clear lw r1 q lc ew
            go_enter Tryz.func75, Tryz.ntmps75
            go_wp2_with fail
            (with_reducible refine (HN.out).mono ?_)
            rintro e w' ⟨rfl, rfl⟩
            go_wp2_with fail
            (with_reducible refine (HL.out).mono ?_)
            rintro e w' ⟨rfl, rfl⟩
            go_wp2_with fail
            (with_reducible refine (WH.out).mono ?_)
            rintro e w1 ⟨rfl, o1⟩
            have O1 := Lib.hid (below_only o1)
            have US1 := Lib.hid (US.out _ (H.out.raw.still O1.out))
            clear o1 US WH c0
            go_wp2_with fail
            (with_reducible refine (US1.out).mono ?_)
            rintro e w2 ⟨rfl, h2, o2⟩
            have R := Lib.hid h2
            have O2 := Lib.hid (O1.out.then_ o2)
            clear h2 o2
            go_wp2
            go_ret
            exact ⟨rfl, ⟨R.out, FE.out⟩, O2.out⟩
          | true =>
            have ew : c.hitW j = (Sc.mk c.s c.us c.want c.miss (c.hits + 1)).weigh := by unfold Sc.hitW; rw [if_pos ⟨r1, lw⟩]
            rw [lw, r1] at WH
            clear lw r1 q lc
            have h64 := H.out.fine.hits
            have u1 : IntKind.u64.wrap ((c.hits : Int) + 1) = (c.hits : Int) + 1 := by rw [IntKind.wrap_u64]; omega
            go_enter Tryz.func75, Tryz.ntmps75
            go_wp2_with fail
            (with_reducible refine (HN.out).mono ?_)
            rintro e w' ⟨rfl, rfl⟩
            go_wp2_with fail
            (with_reducible refine (HL.out).mono ?_)
            rintro e w' ⟨rfl, rfl⟩
            go_wp2_with fail
            (with_reducible refine (WH.out).mono ?_)
            rintro e w1 ⟨rfl, o1⟩
            have O1 := Lib.hid (below_only o1)
            have R0 := Lib.hid (H.out.raw.still O1.out)
            have c70 := R0.out.c70
            have z := R0.out.row.frozen
            have lp := R0.out.row.lt
            have R1 := Lib.hid (show SRaw (w1.setCell ⟨P, 70, none⟩ (.int .u64 ((c.hits : Int) + 1))) P p b ⟨c.s, c.us, c.want, c.miss, c.hits + 1⟩ from R0.out.setH (c.hits + 1))
            have WG := Lib.hid (weigh_any P p b _ _ R1.out H.out.fine.want (Nat.le_of_lt H.out.fine.miss) (by show c.hits + 1 ≤ 64; omega))
            have OP := Lib.hid (O1.out.then_ ((Only.refl (two P b) w1).into (.inl rfl) 70 (.int .u64 ((c.hits : Int) + 1))))
            clear o1 WH c0
            go_wp2_with fail
            (with_reducible refine (WG.out).mono ?_)
            rintro e w2 ⟨rfl, h2, o2⟩
            rw [← ew] at h2
            have US1 := Lib.hid (US.out _ h2)
            have O2 := Lib.hid (OP.out.same o2)
            clear h2 o2 WG c70 z ew
            go_wp2_with fail
            (with_reducible refine (US1.out).mono ?_)
            rintro e w3 ⟨rfl, h3, o3⟩
            have R3 := Lib.hid h3
            have O3 := Lib.hid (O2.out.same o3)
            clear h3 o3
            go_wp2
            go_ret
            exact ⟨rfl, ⟨R3.out, FE.out⟩, O3.out⟩
        · have r0 : c.s.lst j = 0 := by
            rcases lc with ⟨e, _⟩ | ⟨e, _⟩
            · exact e
            · exact absurd e r1
          have ew : c.hitW j = c := by unfold Sc.hitW; rw [if_neg]; rintro ⟨h2, _⟩; exact r1 h2
          rw [ew] at US FE ⊢
          rw [r0] at WH
          generalize c.s.low j = lw at *
          clear r1 q lc ew r0
          go_enter Tryz.func75, Tryz.ntmps75
          go_wp2_with fail
          (with_reducible refine (HN.out).mono ?_)
          rintro e w' ⟨rfl, rfl⟩
          go_wp2_with fail
          (with_reducible refine (HL.out).mono ?_)
          rintro e w' ⟨rfl, rfl⟩
          go_wp2_with fail
          (with_reducible refine (WH.out).mono ?_)
          rintro e w1 ⟨rfl, o1⟩
          have O1 := Lib.hid (below_only o1)
          have US1 := Lib.hid (US.out _ (H.out.raw.still O1.out))
          clear o1 US WH c0
          go_wp2_with fail
          (with_reducible refine (US1.out).mono ?_)
          rintro e w2 ⟨rfl, h2, o2⟩
          have R := Lib.hid h2
          have O2 := Lib.hid (O1.out.then_ o2)
          clear h2 o2
          go_wp2
          go_ret
          exact ⟨rfl, ⟨R.out, FE.out⟩, O2.out⟩
end Go.Proofs.YtlfnncahhbbmpaaGreatDoor

namespace Go.Proofs.YtlfnncahhbbmpaaGreatDoor
open Go.RowKit
set_option linter.unusedVariables false
set_option maxRecDepth 100000

/-- which list's last one goes -/
def Sc.shr (c : Sc) (a b : Nat) : Nat :=
  if c.s.l0.length < c.s.bot ∨ c.s.l1.length < c.s.bot then if lastU c.us a < lastU c.us b then 0 else 1
  else if c.want < c.s.l0.length then 0 else 1
theorem shr_pick (c : Sc) (a b : Nat) : (c.shr a b = 0 ∧ c.pick a b = a) ∨ (c.shr a b = 1 ∧ c.pick a b = b) := by
  unfold Sc.shr Sc.pick
  split
  · split
    · exact .inl ⟨rfl, rfl⟩
    · exact .inr ⟨rfl, rfl⟩
  · split
    · exact .inl ⟨rfl, rfl⟩
    · exact .inr ⟨rfl, rfl⟩
theorem len0_any (p b : Nat) (s : Sh) (w : World) (h : Lies w p b s) :
    Calls Tryz.prog 150 #[.pointer (some ⟨p, 0, none⟩), .int .i64 0] w fun e w' => e = .returned (.int .i64 s.l0.length) ∧ Below w.heap.size w w' := by
  have := (callsIn_wide (n := 5)).1 (len_in p b s 0 w h)
  rwa [show s.revL 0 = s.l0.reverse from rfl, List.length_reverse] at this
theorem len1_any (p b : Nat) (s : Sh) (w : World) (h : Lies w p b s) :
    Calls Tryz.prog 150 #[.pointer (some ⟨p, 0, none⟩), .int .i64 1] w fun e w' => e = .returned (.int .i64 s.l1.length) ∧ Below w.heap.size w w' := by
  have := (callsIn_wide (n := 5)).1 (len_in p b s 1 w h)
  rwa [show s.revL 1 = s.l1.reverse from rfl, List.length_reverse] at this

set_option maxRecDepth 100000 in
set_option maxHeartbeats 4000000 in
theorem shrinks_any (P p b : Nat) (c : Sc) (x y : Nat) (w : World) (h : SLies w P p b c) (hx : x < c.s.n) (hy : y < c.s.n) (hu : c.us.length < 1000000) :
    Calls Tryz.prog 122 #[.pointer (some ⟨P, 0, none⟩), .agg #[.int .i64 x, .int .i64 y]] w fun e w' => e = .returned (.int .i64 (c.shr x y)) ∧ Only none_ w w' := by
  have H := Lib.hid h
  have n64 := h.fine.s.n64
  have bn := h.fine.s.botn
  have l0 := fine_len0 h.fine.s
  have l1 := fine_len1 h.fine.s
  have L0 := Lib.hid (fun w' (o : Only none_ w w') => len0_any p b c.s w' (h.raw.still o).shelf)
  have L1 := Lib.hid (fun w' (o : Only none_ w w') => len1_any p b c.s w' (h.raw.still o).shelf)
  have lp := h.raw.row.lt
  clear h
  go_enter Tryz.func122, Tryz.ntmps122
  go_wp2_with fail
  have oa := ((Only.refl none_ w).alloc (.cells #[.int .i64 x, .int .i64 y] 125))
  have ra := Row.fresh w 125 #[.int .i64 x, .int .i64 y]
  generalize (w.alloc (.cells #[.int .i64 x, .int .i64 y] 125)) = w0 at *
  have OD := Lib.hid oa.drew
  have RD := Lib.hid ra.drew
  have HD := Lib.hid (H.out.still OD.out)
  have c0 := HD.out.raw.c0
  have c2 := HD.out.raw.c2
  clear oa ra
  go_region_held3 (fun w' => w'.cell? ⟨P, 0, none⟩ = some (.pointer (some ⟨p, 0, none⟩)) ∧ w'.cell? ⟨P, 2, none⟩ = some (.int .i64 c.s.bot))
    (first
      | (go_keep; done)
      | (go_split_ands; exact ⟨HS2.out.raw.c0, HS2.out.raw.c2⟩)
      | (go_split_ands; exact ⟨HS1.out.raw.c0, HS1.out.raw.c2⟩))
    (first
      | (go_at_call 150; (with_reducible refine (L0.out _ OD.out).mono ?_); rintro e w1 ⟨rfl, o1⟩; have O1 := Lib.hid (OD.out.same (below_only o1)); have RD1 := Lib.hid ((below_only o1).still RD.out); have HS1 := Lib.hid (H.out.still O1.out))
      | (go_at_call 150; (with_reducible refine (L1.out _ O1.out).mono ?_); rintro e w2 ⟨rfl, o2⟩; have O2 := Lib.hid (O1.out.same (below_only o2)); have RD2 := Lib.hid ((below_only o2).still RD1.out); have HS2 := Lib.hid (H.out.still O2.out)))
  have d : decide (min (c.s.l0.length : Int) (c.s.l1.length : Int) < (c.s.bot : Int)) = decide (c.s.l0.length < c.s.bot ∨ c.s.l1.length < c.s.bot) := by
    by_cases q : c.s.l0.length < c.s.bot ∨ c.s.l1.length < c.s.bot
    · rw [decide_eq_true q]; exact decide_eq_true (by omega)
    · rw [decide_eq_false q]; exact decide_eq_false (by omega)
  rw [d]
  have SH := Lib.hid (show c.shr x y = if c.s.l0.length < c.s.bot ∨ c.s.l1.length < c.s.bot then if lastU c.us x < lastU c.us y then 0 else 1 else if c.want < c.s.l0.length then 0 else 1 from rfl)
  rename_i hHeld
  clear hHeld d
  clear o1 o2 c0 c2 HD OD RD O1 RD1 HS1 L1
  obtain ⟨t, ht⟩ : ∃ t, decide (c.s.l0.length < c.s.bot ∨ c.s.l1.length < c.s.bot) = t := ⟨_, rfl⟩
  rw [ht]
  cases t with
  | true =>
    have SH := SH.out
    rw [if_pos (of_decide_eq_true ht)] at SH
    have cl0 : w2.cell? ⟨w.heap.size, 0, none⟩ = some (.int .i64 x) := by rw [RD2.out.cell]; rfl
    have cl1 : w2.cell? ⟨w.heap.size, 1, none⟩ = some (.int .i64 y) := by rw [RD2.out.cell]; rfl
    have cx := HS2.out.raw.cu (f := x) (by omega)
    have cy := HS2.out.raw.cu (f := y) (by omega)
    have bx : (x : Int) < 64 := by omega
    have b_y : (y : Int) < 64 := by omega
    have ux : lastU c.us x < 1000000 + 1 := by have := lastU_le c.us x; omega
    have uy : lastU c.us y < 1000000 + 1 := by have := lastU_le c.us y; omega
    generalize lastU c.us x = ax at *
    generalize lastU c.us y = ay at *
    obtain ⟨t2, ht2⟩ : ∃ t2, decide (ax < ay) = t2 := ⟨_, rfl⟩
    have d2 : decide ((ax : Int) < (ay : Int)) = t2 := by
      rw [← ht2]
      by_cases q : ax < ay
      · rw [decide_eq_true q]; exact decide_eq_true (by omega)
      · rw [decide_eq_false q]; exact decide_eq_false (by omega)
    clear ht
    cases t2 with
    | true =>
      rw [if_pos (of_decide_eq_true ht2)] at SH
      replace SH := Lib.hid SH
      clear d2
      go_wp2_with fail
      go_quiet (fail)
      go_wp2_with fail
      go_ret
      rw [SH.out]
      exact ⟨rfl, O2.out.drewN _⟩
    | false =>
      rw [if_neg (of_decide_eq_false ht2)] at SH
      replace SH := Lib.hid SH
      clear d2
      go_wp2_with fail
      go_quiet (fail)
      go_wp2_with fail
      go_ret
      rw [SH.out]
      exact ⟨rfl, O2.out.drewN _⟩
  | false =>
    have SH := SH.out
    rw [if_neg (of_decide_eq_false ht)] at SH
    clear ht
    replace SH := Lib.hid SH
    go_wp2_with fail
    go_quiet (fail)
    go_wp2_with fail
    generalize hq : w2.drewN _ = w3 at *
    have O3 := Lib.hid (show Only none_ w w3 from hq ▸ O2.out.drewN _)
    clear hq
    have OD := Lib.hid O3.out.drew
    have HD := Lib.hid (H.out.still OD.out)
    have c0 := HD.out.raw.c0
    have c68 := HD.out.raw.c68
    go_region_held3 (fun w' => w'.cell? ⟨P, 0, none⟩ = some (.pointer (some ⟨p, 0, none⟩)) ∧ w'.cell? ⟨P, 68, none⟩ = some (.int .i64 c.want))
      (first
        | (go_keep; done)
        | (go_split_ands; exact ⟨HS4.out.raw.c0, HS4.out.raw.c68⟩))
      (first
        | (go_at_call 150; (with_reducible refine (L0.out _ OD.out).mono ?_); rintro e w4 ⟨rfl, o4⟩; have O4 := Lib.hid (OD.out.same (below_only o4)); have HS4 := Lib.hid (H.out.still O4.out)))
    rename_i hHeld
    clear hHeld o4 OD HD c0 c68
    obtain ⟨t2, ht2⟩ : ∃ t2, decide (c.want < c.s.l0.length) = t2 := ⟨_, rfl⟩
    simp only [ht2]
    replace SH := SH.out
    cases t2 with
    | true =>
      rw [if_pos (of_decide_eq_true ht2)] at SH
      replace SH := Lib.hid SH
      go_wp2_with fail
      go_ret
      rw [SH.out]
      exact ⟨rfl, O4.out⟩
    | false =>
      rw [if_neg (of_decide_eq_false ht2)] at SH
      replace SH := Lib.hid SH
      go_wp2_with fail
      go_ret
      rw [SH.out]
      exact ⟨rfl, O4.out⟩
end Go.Proofs.YtlfnncahhbbmpaaGreatDoor

namespace Go.Proofs.YtlfnncahhbbmpaaGreatDoor
open Go.RowKit
set_option linter.unusedVariables false
set_option maxRecDepth 100000

theorem last0_any (p b : Nat) (s : Sh) (w : World) (h : Lies w p b s) :
    Calls Tryz.prog 121 #[.pointer (some ⟨p, 0, none⟩), .int .i64 0] w fun e w' => e = .returned (lastV (s.lastOk 0)) ∧ Below w.heap.size w w' :=
  (callsIn_wide (n := 5)).1 (last_in p b s 0 w h)
theorem last1_any (p b : Nat) (s : Sh) (w : World) (h : Lies w p b s) :
    Calls Tryz.prog 121 #[.pointer (some ⟨p, 0, none⟩), .int .i64 1] w fun e w' => e = .returned (lastV (s.lastOk 1)) ∧ Below w.heap.size w w' :=
  (callsIn_wide (n := 5)).1 (last_in p b s 1 w h)

def victimC (c : Sc) (e : Ending) : Prop := e = .returned (lastV c.victim)

set_option maxRecDepth 100000 in
set_option maxHeartbeats 4000000 in
theorem victim_any (P p b : Nat) (c : Sc) (w : World) (h : SLies w P p b c) (hu : c.us.length < 1000000) :
    Calls Tryz.prog 81 #[.pointer (some ⟨P, 0, none⟩)] w fun e w' => e = .returned (lastV c.victim) ∧ SLies w' P p b c.victimS ∧ Only (two P b) w w' := by
  have H := Lib.hid h
  have L0 := Lib.hid (fun w' (o : Only none_ w w') => last0_any p b c.s w' (h.raw.still o).shelf)
  have L1 := Lib.hid (fun w' (o : Only none_ w w') => last1_any p b c.s w' (h.raw.still o).shelf)
  obtain ⟨x0, b0, e0⟩ : ∃ (x0 : Nat) (b0 : Bool), lastV (c.s.lastOk 0) = .tuple #[.int .i64 x0, .bool b0] := ⟨_, _, rfl⟩
  obtain ⟨x1, b1, e1⟩ : ∃ (x1 : Nat) (b1 : Bool), lastV (c.s.lastOk 1) = .tuple #[.int .i64 x1, .bool b1] := ⟨_, _, rfl⟩
  rw [e0] at L0
  rw [e1] at L1
  have E0 := Lib.hid e0
  have E1 := Lib.hid e1
  have lp := h.raw.row.lt
  clear h e0 e1
  go_enter Tryz.func81, Tryz.ntmps81
  go_wp2_with fail
  have ra := (Row.fresh w 125 #[.int .i64 0, .int .i64 0]).alloc (.cells #[.bool false, .bool false] 169)
  have rb := Row.fresh (w.alloc (.cells #[.int .i64 0, .int .i64 0] 125)) 169 #[.bool false, .bool false]
  have o0 := ((Only.refl none_ w).alloc (.cells #[.int .i64 0, .int .i64 0] 125)).alloc (.cells #[.bool false, .bool false] 169)
  simp only [World.size_alloc] at rb
  generalize ((w.alloc (.cells #[.int .i64 0, .int .i64 0] 125)).alloc (.cells #[.bool false, .bool false] 169)) = w0 at *
  refine wp_loop_rounds 3 ?_
  rw [rounds_succ]
  have OA := Lib.hid o0
  have RA := Lib.hid ra
  have RB := Lib.hid rb
  have c0 := (H.out.still OA.out).raw.c0
  clear o0 ra rb
  go_wp2_with fail
  (with_reducible refine ((L0.out _ OA.out)).mono ?_)
  rintro e w1 ⟨rfl, o1⟩
  have ra := (below_only o1).still RA.out
  have rb := (below_only o1).still RB.out
  have za := ra.frozen
  have zb := rb.frozen
  have la := ra.lt
  have lb := rb.lt
  have ca : w1.cell? ⟨w.heap.size, 0, none⟩ = some (.int .i64 0) := by rw [ra.cell]; rfl
  have cb : w1.cell? ⟨w.heap.size + 1, 0, none⟩ = some (.bool false) := by rw [rb.cell]; rfl
  have RA1 := Lib.hid ((ra.put 0 (.int .i64 x0)).far (p := ⟨w.heap.size + 1, 0, none⟩) (by simp) (.bool b0))
  have RB1 := Lib.hid ((rb.far (p := ⟨w.heap.size, 0, none⟩) (by simp) (.int .i64 x0)).put 0 (.bool b0))
  have O1 := Lib.hid (((OA.out.same (below_only o1)).new (Nat.le_refl _) 0 (.int .i64 x0)).new (Nat.le_succ _) 0 (.bool b0))
  clear o1 ra rb c0 OA RA RB L0
  go_wp2_with fail
  clear ca cb za zb la lb
  generalize (w1.setCell ⟨w.heap.size, 0, none⟩ (.int .i64 x0)).setCell ⟨w.heap.size + 1, 0, none⟩ (.bool b0) = w2 at *
  replace RA1 := Lib.hid (show Row w2 w.heap.size 125 #[.int .i64 x0, .int .i64 0] from RA1.out)
  replace RB1 := Lib.hid (show Row w2 (w.heap.size + 1) 169 #[.bool b0, .bool false] from RB1.out)
  have c0 := (H.out.still O1.out).raw.c0
  rw [rounds_succ]
  go_wp2_with fail
  (with_reducible refine ((L1.out _ O1.out)).mono ?_)
  rintro e w3 ⟨rfl, o1⟩
  have ra := (below_only o1).still RA1.out
  have rb := (below_only o1).still RB1.out
  have za := ra.frozen
  have zb := rb.frozen
  have la := ra.lt
  have lb := rb.lt
  have ca : w3.cell? ⟨w.heap.size, 1, none⟩ = some (.int .i64 0) := by rw [ra.cell]; rfl
  have cb : w3.cell? ⟨w.heap.size + 1, 1, none⟩ = some (.bool false) := by rw [rb.cell]; rfl
  have RA3 := Lib.hid ((ra.put 1 (.int .i64 x1)).far (p := ⟨w.heap.size + 1, 1, none⟩) (by simp) (.bool b1))
  have RB3 := Lib.hid ((rb.far (p := ⟨w.heap.size, 1, none⟩) (by simp) (.int .i64 x1)).put 1 (.bool b1))
  have O3 := Lib.hid (((O1.out.same (below_only o1)).new (Nat.le_refl _) 1 (.int .i64 x1)).new (Nat.le_succ _) 1 (.bool b1))
  clear o1 ra rb c0 RA1 RB1 L1 O1
  go_wp2_with fail
  clear ca cb za zb la lb
  generalize (w3.setCell ⟨w.heap.size, 1, none⟩ (.int .i64 x1)).setCell ⟨w.heap.size + 1, 1, none⟩ (.bool b1) = w4 at *
  replace RA3 := Lib.hid (show Row w4 w.heap.size 125 #[.int .i64 x0, .int .i64 x1] from RA3.out)
  replace RB3 := Lib.hid (show Row w4 (w.heap.size + 1) 169 #[.bool b0, .bool b1] from RB3.out)
  have HS := Lib.hid (H.out.still O3.out)
  have ca0 : w4.cell? ⟨w.heap.size, 0, none⟩ = some (.int .i64 x0) := by rw [RA3.out.cell]; rfl
  have ca1 : w4.cell? ⟨w.heap.size, 1, none⟩ = some (.int .i64 x1) := by rw [RA3.out.cell]; rfl
  have cb0 : w4.cell? ⟨w.heap.size + 1, 0, none⟩ = some (.bool b0) := by rw [RB3.out.cell]; rfl
  have cb1 : w4.cell? ⟨w.heap.size + 1, 1, none⟩ = some (.bool b1) := by rw [RB3.out.cell]; rfl
  rw [rounds_succ]
  have E0 := E0.out
  have E1 := E1.out
  have VS : c.victimS = match c.victim with | none => c | some x => ⟨c.s.drop x, c.us, c.want, c.miss, c.hits⟩ := rfl
  have VV : c.victim = match c.s.lastOk 0, c.s.lastOk 1 with | none, none => none | some a, none => some a | none, some b => some b | some a, some b => some (c.pick a b) := rfl
  have IN := Lib.hid (fun x e => victim_in H.out.fine (x := x) e)
  replace VV := Lib.hid VV
  replace VS := Lib.hid VS
  have bl := H.out.raw.lt.2.2
  have gb : ¬ w.heap.size = b := by omega
  cases q0 : c.s.lastOk 0 with
  | none =>
    rw [q0] at E0
    simp only [lastV, Option.getD_none, Option.isSome_none, Value.tuple.injEq, Array.mk.injEq, List.cons.injEq, Value.int.injEq, Value.bool.injEq, true_and, and_true] at E0
    obtain ⟨e0, rfl⟩ := E0
    cases q1 : c.s.lastOk 1 with
    | none =>
      rw [q1] at E1
      simp only [lastV, Option.getD_none, Option.isSome_none, Value.tuple.injEq, Array.mk.injEq, List.cons.injEq, Value.int.injEq, Value.bool.injEq, true_and, and_true] at E1
      obtain ⟨e1, rfl⟩ := E1
      have VV := VV.out
      have VS := VS.out
      rw [q0, q1] at VV
      rw [VV] at VS
      simp only at VV VS
      replace VV := Lib.hid VV
      replace VS := Lib.hid VS
      clear q0 q1 e0 e1
      go_wp2_with fail
      go_ret2
      rw [VV.out, VS.out]
      exact ⟨rfl, H.out.still O3.out, O3.out.up⟩
    | some y =>
      rw [q1] at E1
      simp only [lastV, Option.getD_some, Option.isSome_some, Value.tuple.injEq, Array.mk.injEq, List.cons.injEq, Value.int.injEq, Value.bool.injEq, true_and, and_true] at E1
      obtain ⟨e1, rfl⟩ := E1
      obtain rfl : y = x1 := by omega
      have VV := VV.out
      have VS := VS.out
      rw [q0, q1] at VV
      rw [VV] at VS
      simp only at VV VS
      replace VV := Lib.hid VV
      replace VS := Lib.hid VS
      have IX := IN.out y VV.out
      have DR := Lib.hid (fun w' (o : Only none_ w w') => drop_any p b c.s y w' (H.out.still o).raw.shelf)
      have LD := Lib.hid (show c.s.liesC (y : Nat) = 0 ∧ c.s.dropS (y : Nat) = c.s.drop y from by
        have h1 : c.s.liesC (y : Nat) = 0 := by
          unfold Sh.liesC
          have h2 : hasN c.s.n (y : Nat) = true := by unfold hasN; simp; omega
          rw [h2, if_pos rfl, Int.toNat_natCast, if_neg IX.2.1]
        refine ⟨h1, ?_⟩
        unfold Sh.dropS
        rw [if_pos h1, Int.toNat_natCast])
      have FE := Lib.hid (H.out.fine.dropped IX.1)
      clear q0 q1 e0 e1 IX
      have DR1 := DR.out _ O3.out.drew
      rw [LD.out.1, LD.out.2] at DR1
      replace DR1 := Lib.hid DR1
      have c0 := (H.out.still O3.out).raw.c0
      clear DR
      go_wp2_with fail
      go_region_with (go_at_call 123; (with_reducible refine (DR1.out).mono ?_); rintro e w6 ⟨rfl, h6, o6⟩)
      all_goals
        have R := Lib.hid ((H.out.still O3.out.drew).raw.turn h6 (by rfl) (by rfl) o6)
        have O6 := Lib.hid (O3.out.drew.then_ (two_b (P := P) o6))
        have ca6 : w6.cell? ⟨w.heap.size, 1, none⟩ = some (.int .i64 y) := o6.cell ca1 gb
        clear h6 o6 ca1 ca0 c0
        go_wp2_with fail
        go_ret2
        rw [VV.out, VS.out]
        exact ⟨rfl, ⟨R.out, FE.out⟩, O6.out⟩
  | some x =>
    rw [q0] at E0
    simp only [lastV, Option.getD_some, Option.isSome_some, Value.tuple.injEq, Array.mk.injEq, List.cons.injEq, Value.int.injEq, Value.bool.injEq, true_and, and_true] at E0
    obtain ⟨e0, rfl⟩ := E0
    obtain rfl : x = x0 := by omega
    cases q1 : c.s.lastOk 1 with
    | none =>
      rw [q1] at E1
      simp only [lastV, Option.getD_none, Option.isSome_none, Value.tuple.injEq, Array.mk.injEq, List.cons.injEq, Value.int.injEq, Value.bool.injEq, true_and, and_true] at E1
      obtain ⟨e1, rfl⟩ := E1
      have VV := VV.out
      have VS := VS.out
      rw [q0, q1] at VV
      rw [VV] at VS
      simp only at VV VS
      replace VV := Lib.hid VV
      replace VS := Lib.hid VS
      have IX := IN.out x VV.out
      have DR := Lib.hid (fun w' (o : Only none_ w w') => drop_any p b c.s x w' (H.out.still o).raw.shelf)
      have LD := Lib.hid (show c.s.liesC (x : Nat) = 0 ∧ c.s.dropS (x : Nat) = c.s.drop x from by
        have h1 : c.s.liesC (x : Nat) = 0 := by
          unfold Sh.liesC
          have h2 : hasN c.s.n (x : Nat) = true := by unfold hasN; simp; omega
          rw [h2, if_pos rfl, Int.toNat_natCast, if_neg IX.2.1]
        refine ⟨h1, ?_⟩
        unfold Sh.dropS
        rw [if_pos h1, Int.toNat_natCast])
      have FE := Lib.hid (H.out.fine.dropped IX.1)
      clear q0 q1 e0 e1 IX
      have DR1 := DR.out _ O3.out.drew
      rw [LD.out.1, LD.out.2] at DR1
      replace DR1 := Lib.hid DR1
      have c0 := (H.out.still O3.out).raw.c0
      clear DR
      go_wp2_with fail
      go_region_with (go_at_call 123; (with_reducible refine (DR1.out).mono ?_); rintro e w6 ⟨rfl, h6, o6⟩)
      all_goals
        have R := Lib.hid ((H.out.still O3.out.drew).raw.turn h6 (by rfl) (by rfl) o6)
        have O6 := Lib.hid (O3.out.drew.then_ (two_b (P := P) o6))
        have ca6 : w6.cell? ⟨w.heap.size, 0, none⟩ = some (.int .i64 x) := o6.cell ca0 gb
        clear h6 o6 ca1 ca0 c0
        go_wp2_with fail
        go_ret2
        rw [VV.out, VS.out]
        exact ⟨rfl, ⟨R.out, FE.out⟩, O6.out⟩
    | some y =>
      rw [q1] at E1
      simp only [lastV, Option.getD_some, Option.isSome_some, Value.tuple.injEq, Array.mk.injEq, List.cons.injEq, Value.int.injEq, Value.bool.injEq, true_and, and_true] at E1
      obtain ⟨e1, rfl⟩ := E1
      obtain rfl : y = x1 := by omega
      have lx := (lastOk_in H.out.fine.s (k := 0) (by decide) q0).2.1
      have ly := (lastOk_in H.out.fine.s (k := 1) (by decide) q1).2.1
      have SK := Lib.hid (fun w' (o : Only none_ w w') => shrinks_any P p b c x y w' (H.out.still o) lx ly hu)
      rcases shr_pick c x y with ⟨hs, hp⟩ | ⟨hs, hp⟩
      · rw [hs] at SK
        have VV := VV.out
        have VS := VS.out
        rw [q0, q1] at VV
        simp only [hp] at VV
        rw [VV] at VS
        simp only at VV VS
        replace VV := Lib.hid VV
        replace VS := Lib.hid VS
        have IX := IN.out x VV.out
        have DR := Lib.hid (fun w' (o : Only none_ w w') => drop_any p b c.s x w' (H.out.still o).raw.shelf)
        have LD := Lib.hid (show c.s.liesC (x : Nat) = 0 ∧ c.s.dropS (x : Nat) = c.s.drop x from by
          have h1 : c.s.liesC (x : Nat) = 0 := by
            unfold Sh.liesC
            have h2 : hasN c.s.n (x : Nat) = true := by unfold hasN; simp; omega
            rw [h2, if_pos rfl, Int.toNat_natCast, if_neg IX.2.1]
          refine ⟨h1, ?_⟩
          unfold Sh.dropS
          rw [if_pos h1, Int.toNat_natCast])
        have FE := Lib.hid (H.out.fine.dropped IX.1)
        clear q0 q1 e0 e1 IX hs hp lx ly
        go_wp2_with fail
        (with_reducible refine (SK.out _ O3.out).mono ?_)
        rintro e w5 ⟨rfl, o5⟩
        have O5 := Lib.hid (O3.out.same o5)
        have ca0 := o5.cell ca0 (fun s => s)
        have ca1 := o5.cell ca1 (fun s => s)
        clear o5 SK cb0 cb1
        have DR1 := DR.out _ O5.out.drew
        rw [LD.out.1, LD.out.2] at DR1
        replace DR1 := Lib.hid DR1
        have c0 := (H.out.still O5.out).raw.c0
        clear DR
        go_wp2_with fail
        go_region_with (go_at_call 123; (with_reducible refine (DR1.out).mono ?_); rintro e w6 ⟨rfl, h6, o6⟩)
        all_goals
          have R := Lib.hid ((H.out.still O5.out.drew).raw.turn h6 (by rfl) (by rfl) o6)
          have O6 := Lib.hid (O5.out.drew.then_ (two_b (P := P) o6))
          have ca6 : w6.cell? ⟨w.heap.size, 0, none⟩ = some (.int .i64 x) := o6.cell ca0 gb
          clear h6 o6 ca1 ca0 c0
          go_wp2_with fail
          go_ret2
          rw [VV.out, VS.out]
          exact ⟨rfl, ⟨R.out, FE.out⟩, O6.out⟩
      · rw [hs] at SK
        have VV := VV.out
        have VS := VS.out
        rw [q0, q1] at VV
        simp only [hp] at VV
        rw [VV] at VS
        simp only at VV VS
        replace VV := Lib.hid VV
        replace VS := Lib.hid VS
        have IX := IN.out y VV.out
        have DR := Lib.hid (fun w' (o : Only none_ w w') => drop_any p b c.s y w' (H.out.still o).raw.shelf)
        have LD := Lib.hid (show c.s.liesC (y : Nat) = 0 ∧ c.s.dropS (y : Nat) = c.s.drop y from by
          have h1 : c.s.liesC (y : Nat) = 0 := by
            unfold Sh.liesC
            have h2 : hasN c.s.n (y : Nat) = true := by unfold hasN; simp; omega
            rw [h2, if_pos rfl, Int.toNat_natCast, if_neg IX.2.1]
          refine ⟨h1, ?_⟩
          unfold Sh.dropS
          rw [if_pos h1, Int.toNat_natCast])
        have FE := Lib.hid (H.out.fine.dropped IX.1)
        clear q0 q1 e0 e1 IX hs hp lx ly
        go_wp2_with fail
        (with_reducible refine (SK.out _ O3.out).mono ?_)
        rintro e w5 ⟨rfl, o5⟩
        have O5 := Lib.hid (O3.out.same o5)
        have ca0 := o5.cell ca0 (fun s => s)
        have ca1 := o5.cell ca1 (fun s => s)
        clear o5 SK cb0 cb1
        have DR1 := DR.out _ O5.out.drew
        rw [LD.out.1, LD.out.2] at DR1
        replace DR1 := Lib.hid DR1
        have c0 := (H.out.still O5.out).raw.c0
        clear DR
        go_wp2_with fail
        go_region_with (go_at_call 123; (with_reducible refine (DR1.out).mono ?_); rintro e w6 ⟨rfl, h6, o6⟩)
        all_goals
          have R := Lib.hid ((H.out.still O5.out.drew).raw.turn h6 (by rfl) (by rfl) o6)
          have O6 := Lib.hid (O5.out.drew.then_ (two_b (P := P) o6))
          have ca6 : w6.cell? ⟨w.heap.size, 1, none⟩ = some (.int .i64 y) := o6.cell ca1 gb
          clear h6 o6 ca1 ca0 c0
          go_wp2_with fail
          go_ret2
          rw [VV.out, VS.out]
          exact ⟨rfl, ⟨R.out, FE.out⟩, O6.out⟩
end Go.Proofs.YtlfnncahhbbmpaaGreatDoor

namespace Go.Proofs.YtlfnncahhbbmpaaGreatDoor
open Go.RowKit
set_option linter.unusedVariables false
set_option maxRecDepth 100000

def MakesSc (n bot : Nat) (w : World) (e : Ending) (w' : World) : Prop := ∃ P p b, e = .returned (.tuple #[.pointer (some ⟨P, 0, none⟩), .int .i64 0]) ∧ SLies w' P p b (newSc n bot) ∧ w.heap.size ≤ P ∧ w.heap.size ≤ p ∧ w.heap.size ≤ b ∧ Only none_ w w'

theorem scells_new (p n bot : Nat) : tab 71 (scell p (newSc n bot)) = #[.pointer (some ⟨p, 0, none⟩), .int .i64 n, .int .i64 bot, .int .i64 0, .int .i64 0, .int .i64 0, .int .i64 0, .int .i64 0, .int .i64 0, .int .i64 0, .int .i64 0, .int .i64 0, .int .i64 0, .int .i64 0, .int .i64 0, .int .i64 0, .int .i64 0, .int .i64 0, .int .i64 0, .int .i64 0, .int .i64 0, .int .i64 0, .int .i64 0, .int .i64 0, .int .i64 0, .int .i64 0, .int .i64 0, .int .i64 0, .int .i64 0, .int .i64 0, .int .i64 0, .int .i64 0, .int .i64 0, .int .i64 0, .int .i64 0, .int .i64 0, .int .i64 0, .int .i64 0, .int .i64 0, .int .i64 0, .int .i64 0, .int .i64 0, .int .i64 0, .int .i64 0, .int .i64 0, .int .i64 0, .int .i64 0, .int .i64 0, .int .i64 0, .int .i64 0, .int .i64 0, .int .i64 0, .int .i64 0, .int .i64 0, .int .i64 0, .int .i64 0, .int .i64 0, .int .i64 0, .int .i64 0, .int .i64 0, .int .i64 0, .int .i64 0, .int .i64 0, .int .i64 0, .int .i64 0, .int .i64 0, .int .i64 0, .int .i64 0, .int .i64 0, .int .u64 0, .int .u64 0] := by kernel_rfl

set_option maxHeartbeats 1000000 in
theorem snew_yes (n bot : Nat) (w : World) (h1 : 1 ≤ bot) (h2 : bot ≤ n) (h3 : n ≤ 64) :
    Calls Tryz.prog 23 #[.int .i64 n, .int .i64 bot] w (MakesSc n bot w) := by
  have NW := Lib.hid (new_yes n bot w h1 h2 h3)
  have FN := Lib.hid (fine_newSc h1 h2 h3)
  go_enter Tryz.func23, Tryz.ntmps23
  go_wp2_with fail
  (with_reducible refine (NW.out).mono ?_)
  rintro e w1 ⟨p, b, rfl, hl, lp, lb, o1⟩
  have HL := Lib.hid hl
  have O1 := Lib.hid o1
  have l1 := hl.lt
  clear hl o1
  go_wp2_with fail
  go_ret2
  have r := Row.fresh w1 99 (tab 71 (scell p (newSc n bot)))
  have oa := (Only.refl none_ w1).alloc (.cells (tab 71 (scell p (newSc n bot))) 99)
  rw [scells_new] at r oa
  exact ⟨w1.heap.size, p, b, rfl, ⟨⟨by rw [scells_new]; exact r, HL.out.still oa, by omega, by omega⟩, FN.out⟩, O1.out.size, lp, lb, O1.out.same oa⟩
theorem snew_no (n bot : Int) (w : World) (h : ¬ (1 ≤ n ∧ n ≤ 64 ∧ 1 ≤ bot ∧ bot ≤ n)) :
    Calls Tryz.prog 23 #[.int .i64 n, .int .i64 bot] w fun e w' => e = .returned (.tuple #[.pointer none, .int .i64 1]) ∧ w = w' := by
  have NO := Lib.hid (new_no n bot w h)
  clear h
  go_enter Tryz.func23, Tryz.ntmps23
  go_wp2_with fail
  (with_reducible refine (NO.out).mono ?_)
  rintro e w' ⟨rfl, rfl⟩
  go_wp2
  go_ret2
  exact ⟨rfl, rfl⟩
end Go.Proofs.YtlfnncahhbbmpaaGreatDoor

namespace Go.Proofs.YtlfnncahhbbmpaaGreatDoor
open Go.RowKit
set_option linter.unusedVariables false
set_option maxRecDepth 100000

theorem held_room {c : Sc} (f : c.Fine) : c.s.heldL.length ≤ c.s.l0.length + c.s.l1.length := by
  rw [← List.length_append]
  refine sub_len (List.nodup_range.filter _) (fun x hx => ?_)
  have := f.held x (List.mem_filter.1 hx).2
  exact List.mem_append.2 (lst_ne.1 this)

/-- what a policy tells -/
def polV (v0 v1 v2 : Value) (c : Sc) : Value := .agg #[v0, v1, v2, .int .i64 c.want, .int .u64 c.miss, .int .u64 c.hits]
def Told7 (c : Sc) (w : World) (v : Value) (w' : World) : Prop := ∃ v0 v1 v2, v = polV v0 v1 v2 c ∧ OwnsInts w' w.heap.size v0 (ints c.s.l0) ∧ OwnsInts w' w.heap.size v1 (ints c.s.l1) ∧ OwnsInts w' w.heap.size v2 (ints c.s.heldL)

set_option maxRecDepth 100000 in
set_option maxHeartbeats 400000 in
theorem policy_any (P p b : Nat) (c : Sc) (w : World) (h : SLies w P p b c) :
    Calls Tryz.prog 33 #[.pointer (some ⟨P, 0, none⟩)] w fun e w' => ∃ v, e = .returned v ∧ Told7 c w v w' ∧ Below w.heap.size w w' := by
  have H := Lib.hid h
  have LI := Lib.hid (fun k w' (o : Only none_ w w') => list_any p b c.s k w' (h.raw.still o).shelf)
  have HE := Lib.hid (fun w' (o : Only none_ w w') => held_any p b c.s w' (h.raw.still o).shelf)
  clear h
  go_enter Tryz.func33, Tryz.ntmps33
  go_wp2_with fail
  have oa := ((Only.refl none_ w).alloc (.cells #[.slice none 0 0, .slice none 0 0, .slice none 0 0, .int .i64 0, .int .u64 0, .int .u64 0] 49))
  have ra := Row.fresh w 49 #[.slice none 0 0, .slice none 0 0, .slice none 0 0, .int .i64 0, .int .u64 0, .int .u64 0]
  generalize (w.alloc (.cells #[.slice none 0 0, .slice none 0 0, .slice none 0 0, .int .i64 0, .int .u64 0, .int .u64 0] 49)) = w0 at *
  have OD := Lib.hid oa.drew
  have RD := Lib.hid ra.drew
  have HD := Lib.hid (H.out.still OD.out)
  have c0 := HD.out.raw.c0
  have c68 := HD.out.raw.c68
  have c69 := HD.out.raw.c69
  have c70 := HD.out.raw.c70
  clear oa ra
  go_region_held3 (fun w' => w'.cell? ⟨P, 0, none⟩ = some (.pointer (some ⟨p, 0, none⟩)) ∧ w'.cell? ⟨P, 68, none⟩ = some (.int .i64 c.want) ∧ w'.cell? ⟨P, 69, none⟩ = some (.int .u64 c.miss) ∧ w'.cell? ⟨P, 70, none⟩ = some (.int .u64 c.hits))
    (first
      | (refine KP3.out _ ?_; refine Only.into (S := fun k => k = w.heap.size) ?_ rfl _ _; refine Only.into (S := fun k => k = w.heap.size) ?_ rfl _ _; refine Only.into (S := fun k => k = w.heap.size) ?_ rfl _ _; refine Only.into (S := fun k => k = w.heap.size) ?_ rfl _ _; refine Only.into (S := fun k => k = w.heap.size) ?_ rfl _ _; refine Only.into (S := fun k => k = w.heap.size) ?_ rfl _ _; exact Only.refl _ _)
      | (go_split_ands; with_reducible exact ⟨c0, c68, c69, c70⟩)
      | (go_split_ands; with_reducible exact ⟨HS1.out.raw.c0, HS1.out.raw.c68, HS1.out.raw.c69, HS1.out.raw.c70⟩)
      | (go_split_ands; with_reducible exact ⟨HS2.out.raw.c0, HS2.out.raw.c68, HS2.out.raw.c69, HS2.out.raw.c70⟩)
      | (go_split_ands; with_reducible exact ⟨HS3.out.raw.c0, HS3.out.raw.c68, HS3.out.raw.c69, HS3.out.raw.c70⟩))
    (first
      | (go_at_call 66; (with_reducible refine (LI.out 0 _ OD.out).mono ?_); rintro e w1 ⟨v1, rfl, hv1, o1⟩; have O1 := Lib.hid (OD.out.same (below_only o1)); have RD1 := Lib.hid ((below_only o1).still RD.out); have HS1 := Lib.hid (H.out.still O1.out); obtain ⟨a1, n1, k1, rfl⟩ := own_form hv1; have V1 := Lib.hid hv1; clear hv1)
      | (go_at_call 66; (with_reducible refine (LI.out 1 _ O1.out).mono ?_); rintro e w2 ⟨v2, rfl, hv2, o2⟩; have O2 := Lib.hid (O1.out.same (below_only o2)); have RD2 := Lib.hid ((below_only o2).still RD1.out); have HS2 := Lib.hid (H.out.still O2.out); obtain ⟨a2, n2, k2, rfl⟩ := own_form hv2; have V2 := Lib.hid hv2; clear hv2)
      | (go_at_call 67; (with_reducible refine (HE.out _ O2.out).mono ?_); rintro e w3 ⟨v3, rfl, hv3, o3⟩; have O3 := Lib.hid (O2.out.same (below_only o3)); have RD3 := Lib.hid ((below_only o3).still RD2.out); have HS3 := Lib.hid (H.out.still O3.out); have KP3 := Lib.hid (fun W (o : Only (fun k => k = w.heap.size) w3 W) => (fun (h : SLies W P p b c) => And.intro h.raw.c0 (And.intro h.raw.c68 (And.intro h.raw.c69 h.raw.c70))) (HS3.out.keep o (by have := H.out.raw.lt; omega) (by have := H.out.raw.lt; omega) (by have := H.out.raw.lt; omega))); have z3 := RD3.out.frozen; have lt3 := RD3.out.lt; have q0 : w3.cell? ⟨w.heap.size, 0, none⟩ = some (.slice none 0 0) := (RD3.out.cell 0).trans rfl; have q1 : w3.cell? ⟨w.heap.size, 1, none⟩ = some (.slice none 0 0) := (RD3.out.cell 1).trans rfl; have q2 : w3.cell? ⟨w.heap.size, 2, none⟩ = some (.slice none 0 0) := (RD3.out.cell 2).trans rfl; have q3 : w3.cell? ⟨w.heap.size, 3, none⟩ = some (.int .i64 0) := (RD3.out.cell 3).trans rfl; have q4 : w3.cell? ⟨w.heap.size, 4, none⟩ = some (.int .u64 0) := (RD3.out.cell 4).trans rfl; have q5 : w3.cell? ⟨w.heap.size, 5, none⟩ = some (.int .u64 0) := (RD3.out.cell 5).trans rfl; obtain ⟨a3, n3, k3, rfl⟩ := own_form hv3; have V3 := Lib.hid hv3; clear hv3))
  have R4 := Lib.hid ((((((RD3.out.put 0 (.slice a1 n1 k1)).put 1 (.slice a2 n2 k2)).put 2 (.slice a3 n3 k3)).put 3 (.int .i64 c.want)).put 4 (.int .u64 c.miss)).put 5 (.int .u64 c.hits))
  have O4 := Lib.hid (((((((O3.out.new (Nat.le_refl _) 0 (.slice a1 n1 k1)).new (Nat.le_refl _) 1 (.slice a2 n2 k2)).new (Nat.le_refl _) 2 (.slice a3 n3 k3)).new (Nat.le_refl _) 3 (.int .i64 c.want)).new (Nat.le_refl _) 4 (.int .u64 c.miss)).new (Nat.le_refl _) 5 (.int .u64 c.hits)))
  have o34 := (((((((Only.refl (fun k => k = w.heap.size) w3).into rfl 0 (.slice a1 n1 k1)).into rfl 1 (.slice a2 n2 k2)).into rfl 2 (.slice a3 n3 k3)).into rfl 3 (.int .i64 c.want)).into rfl 4 (.int .u64 c.miss)).into rfl 5 (.int .u64 c.hits))
  have o23 := below_only o3
  have o12 := below_only o2
  have g0 := OD.out.size
  have g1 := O1.out.size
  have g2 := O2.out.size
  have s0 : w.heap.size < w0.drew.heap.size := RD.out.lt
  have W1 := Lib.hid (((V1.out.still o12).still o23).keep o34 (fun g hg q => by have := (V1.out.base_le hg).1; omega))
  have W2 := Lib.hid ((V2.out.still o23).keep o34 (fun g hg q => by have := (V2.out.base_le hg).1; have := RD1.out.lt; omega))
  have W3 := Lib.hid (V3.out.keep o34 (fun g hg q => by have := (V3.out.base_le hg).1; have := RD2.out.lt; omega))
  have U1 := Lib.hid (Owns.lower W1.out g0)
  have U2 := Lib.hid (Owns.lower W2.out g1)
  have U3 := Lib.hid (Owns.lower W3.out g2)
  rename_i hHeld
  clear hHeld o34 o23 o12 o1 o2 o3 c0 c68 c69 c70 z3 lt3 q0 q1 q2 q3 q4 q5 KP3 W1 W2 W3 V1 V2 V3 HS1 HS2 HS3 LI HE HD RD RD1 RD2 RD3
  generalize (((((w3.setCell ⟨w.heap.size, 0, none⟩ (.slice a1 n1 k1)).setCell ⟨w.heap.size, 1, none⟩ (.slice a2 n2 k2)).setCell ⟨w.heap.size, 2, none⟩ (.slice a3 n3 k3)).setCell ⟨w.heap.size, 3, none⟩ (.int .i64 c.want)).setCell ⟨w.heap.size, 4, none⟩ (.int .u64 c.miss)).setCell ⟨w.heap.size, 5, none⟩ (.int .u64 c.hits) = w4 at *
  replace R4 := Lib.hid (show Row w4 w.heap.size 49 #[.slice a1 n1 k1, .slice a2 n2 k2, .slice a3 n3 k3, .int .i64 c.want, .int .u64 c.miss, .int .u64 c.hits] from R4.out)
  have q0 : w4.cell? ⟨w.heap.size, 0, none⟩ = some (.slice a1 n1 k1) := (R4.out.cell 0).trans rfl
  have q1 : w4.cell? ⟨w.heap.size, 1, none⟩ = some (.slice a2 n2 k2) := (R4.out.cell 1).trans rfl
  have q2 : w4.cell? ⟨w.heap.size, 2, none⟩ = some (.slice a3 n3 k3) := (R4.out.cell 2).trans rfl
  have q3 : w4.cell? ⟨w.heap.size, 3, none⟩ = some (.int .i64 c.want) := (R4.out.cell 3).trans rfl
  have q4 : w4.cell? ⟨w.heap.size, 4, none⟩ = some (.int .u64 c.miss) := (R4.out.cell 4).trans rfl
  have q5 : w4.cell? ⟨w.heap.size, 5, none⟩ = some (.int .u64 c.hits) := (R4.out.cell 5).trans rfl
  go_wp2_with fail
  exact bodyPost_ret (v := .agg #[.slice a1 n1 k1, .slice a2 n2 k2, .slice a3 n3 k3, .int .i64 c.want, .int .u64 c.miss, .int .u64 c.hits]) (by simp [results, Tryz.results33, go_sem, q0, q1, q2, q3, q4, q5]) rfl ⟨_, rfl, ⟨_, _, _, rfl, U1.out, U2.out, U3.out⟩, O4.out.to_below⟩
end Go.Proofs.YtlfnncahhbbmpaaGreatDoor

/- Plain facts of frames: what a step leaves of them. -/
import Derived.Test.YtllbdkjbcadeoaaStep
namespace Go.Proofs.Ytllbdkjbcadeoaa
open Go.RowKit
set_option linter.unusedVariables false

theorem fresh_len (n : Nat) : (fresh n).length = n := by simp [fresh]
theorem fresh_fine (n : Nat) : Fine 0 (fresh n) := by
  intro f hf
  obtain ⟨_, rfl⟩ := List.mem_replicate.1 hf
  exact ⟨by decide, by decide, by decide, by decide, by decide, by decide, fun _ => ⟨rfl, rfl, rfl⟩, fun h => by simp at h⟩
theorem Fine.mono {K K' : Int} {fs : List Fr} (h : Fine K fs) (k : K ≤ K') : Fine K' fs := fun f hf => by
  have ff := h f hf
  exact ⟨ff.s0, ff.s1, ff.p0, by have := ff.p1; omega, ff.g0, by have := ff.g1; omega, ff.clean, ff.held⟩
theorem Fine.put {K : Int} {fs : List Fr} (h : Fine K fs) (i : Nat) {f : Fr} (hf : f.Fine K) : Fine K (fs.set i f) := fun g hg => by
  rcases List.mem_or_eq_of_mem_set hg with k | k
  · exact h g k
  · rw [k]; exact hf

/-- what may become of a frame in one step -/
def Keeps (f g : Fr) : Prop := f.gen ≤ g.gen ∧ g.gen ≤ f.gen + 1 ∧ (f.gen < g.gen → f.st = 0) ∧ (1 < f.pins → ¬ g.st = 0) ∧ (0 < f.pins → ¬ g.st = 0 → g.blk = f.blk ∧ g.gen = f.gen)
theorem Keeps.same {f : Fr} {K : Int} (h : f.Fine K) : Keeps f f := ⟨by omega, by omega, by omega, fun k e => by have := (h.clean e).2.1; omega, fun _ _ => ⟨rfl, rfl⟩⟩

theorem taken_fine {K : Int} {f : Fr} (h : f.Fine K) (n : Int) : Fr.Fine (K + 1) ⟨1, n, f.gen + 1, 0, 0⟩ :=
  ⟨by show (0 : Int) ≤ 1; omega, by show (1 : Int) ≤ 3; omega, by show (0 : Int) ≤ 0; omega, by show (0 : Int) ≤ K + 1; have := h.p0; have := h.p1; omega, by show 0 ≤ f.gen + 1; have := h.g0; omega, by show f.gen + 1 ≤ K + 1; have := h.g1; omega, fun e => absurd e (by show ¬ (1 : Int) = 0; decide), fun e => absurd e (by show ¬ (1 : Int) = 3; decide)⟩
theorem freed_fine {K : Int} {f : Fr} (h : f.Fine K) : f.freed.Fine (K + 1) :=
  ⟨by show (0 : Int) ≤ 0; omega, by show (0 : Int) ≤ 3; omega, by show (0 : Int) ≤ 0; omega, by show (0 : Int) ≤ K + 1; have := h.p0; have := h.p1; omega, h.g0, by show f.gen ≤ K + 1; have := h.g1; omega, fun _ => ⟨rfl, rfl, rfl⟩, fun e => absurd e (by show ¬ (0 : Int) = 3; decide)⟩
theorem filled_fine {K : Int} {f : Fr} (h : f.Fine K) (v : Int) : Fr.Fine (K + 1) { f with st := 2, val := v } :=
  ⟨by show (0 : Int) ≤ 2; omega, by show (2 : Int) ≤ 3; omega, h.p0, by show f.pins ≤ K + 1; have := h.p1; omega, h.g0, by show f.gen ≤ K + 1; have := h.g1; omega, fun e => absurd e (by show ¬ (2 : Int) = 0; decide), fun e => absurd e (by show ¬ (2 : Int) = 3; decide)⟩
theorem pinned_fine {K : Int} {f : Fr} (h : f.Fine K) (h0 : ¬ f.st = 0) (h3 : ¬ f.st = 3) : Fr.Fine (K + 1) { f with pins := f.pins + 1 } :=
  ⟨h.s0, h.s1, by show 0 ≤ f.pins + 1; have := h.p0; omega, by show f.pins + 1 ≤ K + 1; have := h.p1; omega, h.g0, by show f.gen ≤ K + 1; have := h.g1; omega, fun e => absurd e h0, fun e => absurd e h3⟩
theorem doomed_fine {K : Int} {f : Fr} (h : f.Fine K) : f.doomed.Fine (K + 1) := by
  unfold Fr.doomed
  split
  · exact freed_fine h
  · exact ⟨by show (0 : Int) ≤ 3; omega, by show (3 : Int) ≤ 3; omega, h.p0, by show f.pins ≤ K + 1; have := h.p1; omega, h.g0, by show f.gen ≤ K + 1; have := h.g1; omega, fun e => absurd e (by show ¬ (3 : Int) = 0; decide), fun _ => by show 0 < f.pins; have := h.p0; omega⟩
theorem unpinned_fine {K : Int} {f : Fr} (h : f.Fine K) (h0 : ¬ f.st = 0) (hp : 0 < f.pins) : f.unpinned.Fine (K + 1) := by
  unfold Fr.unpinned
  split
  · exact freed_fine h
  · rename_i n
    exact ⟨h.s0, h.s1, by show 0 ≤ f.pins - 1; omega, by show f.pins - 1 ≤ K + 1; have := h.p1; omega, h.g0, by show f.gen ≤ K + 1; have := h.g1; omega, fun e => absurd e h0, fun e => by show 0 < f.pins - 1; have : f.st = 3 := e; omega⟩

theorem freed_keeps {K : Int} {f : Fr} (h : f.Fine K) (hp : f.pins ≤ 1) : Keeps f f.freed := ⟨by show f.gen ≤ f.gen; omega, by show f.gen ≤ f.gen + 1; omega, fun k => absurd k (by show ¬ f.gen < f.gen; omega), fun k => by omega, fun _ k => absurd (show f.freed.st = 0 from rfl) k⟩
theorem other_keeps {f g : Fr} (h1 : g.gen = f.gen) (h2 : g.blk = f.blk) (h3 : ¬ g.st = 0) : Keeps f g := ⟨by omega, by omega, by omega, fun _ => h3, fun _ _ => ⟨h2, h1⟩⟩

theorem step_set {fs : List Fr} (a : Act1) {K : Int} (h : Fine K fs) : stepS fs a = fs ∨ ∃ i f g, fs[i]? = some f ∧ stepS fs a = fs.set i g ∧ g.Fine (K + 1) ∧ Keeps f g := by
  unfold stepS
  split
  · unfold takeS
    split
    · exact .inl rfl
    · split
      · exact .inl rfl
      · rename_i f hf
        have ff := h f (List.mem_of_getElem? hf)
        have z := least_free fs f hf
        exact .inr ⟨_, f, _, hf, rfl, taken_fine ff _, ⟨by show f.gen ≤ f.gen + 1; omega, by show f.gen + 1 ≤ f.gen + 1; omega, fun _ => z, fun k => by have := (ff.clean z).2.1; omega, fun k => by have := (ff.clean z).2.1; omega⟩⟩
  split
  · unfold fillS
    split
    · exact .inl rfl
    · rename_i f hf
      obtain ⟨k, e, hk⟩ := at_some hf
      have ff := h f (List.mem_of_getElem? hk)
      split
      · rw [e]
        exact .inr ⟨k, f, _, hk, rfl, filled_fine ff _, other_keeps rfl rfl (by show ¬ (2 : Int) = 0; decide)⟩
      · exact .inl rfl
  split
  · unfold pinS
    split
    · exact .inl rfl
    · rename_i f hf
      obtain ⟨k, e, hk⟩ := at_some hf
      have ff := h f (List.mem_of_getElem? hk)
      split
      · exact .inl rfl
      · split
        · rename_i n m
          have h0 : ¬ f.st = 0 := fun e => n (.inl e)
          rw [e]
          exact .inr ⟨k, f, _, hk, rfl, pinned_fine ff h0 (fun e => by rw [e] at m; exact absurd m (by decide)), other_keeps rfl rfl h0⟩
        · exact .inl rfl
  split
  · unfold unpinS
    split
    · exact .inl rfl
    · rename_i f hf
      obtain ⟨k, e, hk⟩ := at_some hf
      have ff := h f (List.mem_of_getElem? hk)
      split
      · exact .inl rfl
      · split
        · rename_i n m
          have h0 : ¬ f.st = 0 := fun e => n (.inl e)
          rw [e]
          refine .inr ⟨k, f, _, hk, rfl, unpinned_fine ff h0 m, ?_⟩
          unfold Fr.unpinned
          split
          · rename_i u; exact freed_keeps ff (by omega)
          · exact other_keeps rfl rfl h0
        · exact .inl rfl
  split
  · unfold doomS
    split
    · exact .inl rfl
    · rename_i f hf
      obtain ⟨k, e, hk⟩ := at_some hf
      have ff := h f (List.mem_of_getElem? hk)
      split
      · rw [e]
        refine .inr ⟨k, f, _, hk, rfl, doomed_fine ff, ?_⟩
        unfold Fr.doomed
        split
        · rename_i u; exact freed_keeps ff (by omega)
        · exact other_keeps rfl rfl (by show ¬ (3 : Int) = 0; decide)
      · exact .inl rfl
  · exact .inl rfl

theorem step_len {fs : List Fr} (a : Act1) {K : Int} (h : Fine K fs) : (stepS fs a).length = fs.length := by
  rcases step_set a h with e | ⟨i, f, g, _, e, _⟩
  · rw [e]
  · rw [e, List.length_set]
theorem step_fine {fs : List Fr} (a : Act1) {K : Int} (h : Fine K fs) : Fine (K + 1) (stepS fs a) := by
  rcases step_set a h with e | ⟨i, f, g, _, e, hg, _⟩
  · rw [e]; exact h.mono (by omega)
  · rw [e]; exact (h.mono (by omega)).put i hg
theorem step_keeps {fs : List Fr} (a : Act1) {K : Int} (h : Fine K fs) {j : Nat} {f g : Fr} (hf : fs[j]? = some f) (hg : (stepS fs a)[j]? = some g) : Keeps f g := by
  rcases step_set a h with e | ⟨i, f', g', hi, e, _, k⟩
  · rw [e, hf] at hg
    cases hg
    exact Keeps.same (h f (List.mem_of_getElem? hf))
  · rw [e, List.getElem?_set] at hg
    split at hg
    · rename_i ij
      subst ij
      rw [hf] at hi
      cases hi
      split at hg
      · cases hg; exact k
      · cases hg
    · rw [hf] at hg
      cases hg
      exact Keeps.same (h f (List.mem_of_getElem? hf))

theorem cnt_all {K : Int} {fs : List Fr} (h : Fine K fs) : cnt fs 0 + cnt fs 1 + cnt fs 2 + cnt fs 3 = fs.length := by
  induction fs with
  | nil => rfl
  | cons f fs ih =>
    have i := ih (fun g hg => h g (List.mem_cons_of_mem _ hg))
    have ff := h f List.mem_cons_self
    have s0 := ff.s0
    have s1 := ff.s1
    unfold cnt at i ⊢
    simp only [List.countP_cons, List.length_cons, beq_iff_eq]
    have : f.st = 0 ∨ f.st = 1 ∨ f.st = 2 ∨ f.st = 3 := by omega
    rcases this with e | e | e | e <;> simp [e] <;> omega

theorem least_eq {fs : List Fr} : ∀ {i : Nat} {f : Fr}, fs[i]? = some f → f.st = 0 → (∀ j g, j < i → fs[j]? = some g → ¬ g.st = 0) → least fs = i := by
  induction fs with
  | nil => intro i f h; simp at h
  | cons x fs ih =>
    intro i f h hz hn
    unfold least
    cases i with
    | zero => simp at h; subst h; rw [if_pos hz]
    | succ i =>
      have h0 := hn 0 x (by omega) (by simp)
      rw [if_neg h0, ih (by simpa using h) hz (fun j g hj hg => hn (j + 1) g (by omega) (by simpa using hg))]
theorem least_none {fs : List Fr} (h : ∀ (j : Nat) (g : Fr), fs[j]? = some g → ¬ g.st = 0) : least fs = fs.length := by
  have le := least_le fs
  rcases Nat.lt_or_ge (least fs) fs.length with k | k
  · have e : fs[least fs]? = some fs[least fs] := List.getElem?_eq_getElem k
    exact absurd (least_free fs _ e) (h _ _ e)
  · omega
theorem at_nat {fs : List Fr} {i : Nat} {f : Fr} (h : fs[i]? = some f) : at? fs i = some f := by
  unfold at?
  rw [if_pos (by omega)]
  simpa using h
theorem takeS_at {fs : List Fr} {n : Int} {i : Nat} {f : Fr} (hn : 0 ≤ n) (h : fs[i]? = some f) (hz : f.st = 0) (hl : ∀ (j : Nat) (g : Fr), j < i → fs[j]? = some g → ¬ g.st = 0) : takeS fs n = ((i : Int), 0, fs.set i ⟨1, n, f.gen + 1, 0, 0⟩) := by
  unfold takeS
  rw [if_neg (by omega), least_eq h hz hl, h]
theorem takeS_full {fs : List Fr} {n : Int} (hn : 0 ≤ n) (h : ∀ (j : Nat) (g : Fr), fs[j]? = some g → ¬ g.st = 0) : takeS fs n = (0, 2, fs) := by
  unfold takeS
  rw [if_neg (by omega), least_none h, List.getElem?_eq_none (Nat.le_refl _)]

/-- of k frames the first i taken, for blocks from 100 on -/
def full (k i : Nat) : List Fr := (List.range k).map fun j => if j < i then ⟨1, 100 + j, 1, 0, 0⟩ else ⟨0, 0, 0, 0, 0⟩
theorem full_len (k i : Nat) : (full k i).length = k := by simp [full]
theorem full_get {k i j : Nat} (h : j < k) : (full k i)[j]? = some (if j < i then ⟨1, 100 + j, 1, 0, 0⟩ else ⟨0, 0, 0, 0, 0⟩) := by simp [full, h]
theorem full_zero (k : Nat) : full k 0 = fresh k := by
  apply List.ext_getElem?
  intro j
  rcases Nat.lt_or_ge j k with h | h
  · rw [full_get h]; simp [fresh, h]
  · rw [List.getElem?_eq_none (by rw [full_len]; exact h), List.getElem?_eq_none (by simp [fresh]; exact h)]
theorem full_fine (k i : Nat) : Fine 1 (full k i) := by
  intro f hf
  obtain ⟨j, _, rfl⟩ := List.mem_map.1 hf
  split
  · exact ⟨by simp, by simp, by simp, by simp, by simp, by simp, fun h => by simp at h, fun h => by simp at h⟩
  · exact ⟨by decide, by decide, by decide, by decide, by decide, by decide, fun _ => ⟨rfl, rfl, rfl⟩, fun h => by simp at h⟩
theorem full_more {k i : Nat} (h : i < k) : takeS (full k i) (100 + (i : Int)) = ((i : Int), 0, full k (i + 1)) := by
  rw [takeS_at (i := i) (f := ⟨0, 0, 0, 0, 0⟩) (by omega) (by rw [full_get h, if_neg (by omega)]) rfl (fun j g hj hg => by
    rw [full_get (by omega), if_pos hj] at hg
    cases hg
    simp)]
  congr 2
  apply List.ext_getElem?
  intro j
  rw [List.getElem?_set]
  rcases Nat.lt_or_ge j k with hk | hk
  · rw [full_get hk, full_get hk]
    by_cases e : i = j
    · subst e
      rw [if_pos rfl, if_pos (by rw [full_len]; exact h), if_pos (by omega)]
      rfl
    · rw [if_neg e]
      by_cases l : j < i
      · rw [if_pos l, if_pos (by omega)]
      · rw [if_neg l, if_neg (by omega)]
  · have e1 : (full k i)[j]? = none := List.getElem?_eq_none (by rw [full_len]; exact hk)
    have e2 : (full k (i + 1))[j]? = none := List.getElem?_eq_none (by rw [full_len]; exact hk)
    rw [if_neg (by omega), e1, e2]
theorem full_taken {k j : Nat} {g : Fr} (h : (full k k)[j]? = some g) : ¬ g.st = 0 := by
  have hl := lt_of_get h
  rw [full_len] at hl
  rw [full_get hl, if_pos hl] at h
  cases h
  simp
/-- one of them doomed; and taken again -/
theorem full_doom {k i : Nat} (h : i < k) : doomS (full k k) i = (0, (full k k).set i ⟨0, 0, 1, 0, 0⟩) := by
  unfold doomS
  rw [at_nat (f := ⟨1, 100 + i, 1, 0, 0⟩) (by rw [full_get h, if_pos h])]
  simp [Fr.doomed, Fr.freed]
theorem full_again {k i : Nat} (h : i < k) : takeS ((full k k).set i ⟨0, 0, 1, 0, 0⟩) 7 = ((i : Int), 0, (full k k).set i ⟨1, 7, 2, 0, 0⟩) := by
  rw [takeS_at (i := i) (f := ⟨0, 0, 1, 0, 0⟩) (by decide) (by rw [List.getElem?_set_self (by rw [full_len]; exact h)]) rfl (fun j g hj hg => by
    rw [List.getElem?_set_ne (by omega)] at hg
    exact full_taken hg)]
  rw [List.set_set]
  rfl
theorem again_taken {k i : Nat} {j : Nat} {g : Fr} (h : ((full k k).set i ⟨1, 7, 2, 0, 0⟩)[j]? = some g) : ¬ g.st = 0 ∧ g.st = 1 := by
  rw [List.getElem?_set] at h
  split at h
  · split at h
    · cases h; simp
    · cases h
  · have hl := lt_of_get h
    rw [full_len] at hl
    rw [full_get hl, if_pos hl] at h
    cases h
    simp
theorem cnt_ones {fs : List Fr} (h : ∀ (j : Nat) (g : Fr), fs[j]? = some g → g.st = 1) : counts fs = #[.int .i64 0, .int .i64 fs.length, .int .i64 0, .int .i64 0] := by
  have m : ∀ g ∈ fs, g.st = 1 := fun g hg => by
    obtain ⟨j, hj⟩ := List.getElem?_of_mem hg
    exact h j g hj
  have c : ∀ s, ¬ s = 1 → cnt fs s = 0 := fun s hs => List.countP_eq_zero.2 fun g hg => by rw [m g hg]; simp; omega
  have c1 : cnt fs 1 = fs.length := List.countP_eq_length.2 fun g hg => by rw [m g hg]; decide
  unfold counts
  rw [c 0 (by decide), c 2 (by decide), c 3 (by decide), c1]
  rfl
theorem fine_z1 : Fr.Fine 1000000 ⟨0, 0, 1, 0, 0⟩ := ⟨by decide, by decide, by decide, by decide, by decide, by decide, fun _ => ⟨rfl, rfl, rfl⟩, fun h => by simp at h⟩

theorem take_eq {p b : Nat} {fs gs : List Fr} {n i c : Int} (hF : Fine 1000000 fs) (h : takeS fs n = (i, c, gs)) (w : World) (hP : PoolIs w p b fs) :
    Calls Try.prog 17 #[.pointer (some ⟨p, 0, none⟩), .int .i64 n] w fun e w' => e = .returned (.tuple #[.int .i64 i, .int .i64 c]) ∧ PoolIs w' p b gs ∧ Only (fun k => k = b) w w' := by
  have H := take_any p b fs n w hP hF
  rw [h] at H
  exact H
theorem doom_eq {p b : Nat} {fs gs : List Fr} {i c : Int} (h : doomS fs i = (c, gs)) (w : World) (hP : PoolIs w p b fs) :
    Calls Try.prog 18 #[.pointer (some ⟨p, 0, none⟩), .int .i64 i] w fun e w' => e = .returned (.int .i64 c) ∧ PoolIs w' p b gs ∧ Only (fun k => k = b) w w' := by
  have H := doom_any p b fs i w hP
  rw [h] at H
  exact H
theorem fill_eq {p b : Nat} {fs gs : List Fr} {i v c : Int} (h : fillS fs i v = (c, gs)) (w : World) (hP : PoolIs w p b fs) :
    Calls Try.prog 20 #[.pointer (some ⟨p, 0, none⟩), .int .i64 i, .int .u64 v] w fun e w' => e = .returned (.int .i64 c) ∧ PoolIs w' p b gs ∧ Only (fun k => k = b) w w' := by
  have H := fill_any p b fs i v w hP
  rw [h] at H
  exact H
theorem pin_eq {p b : Nat} {fs gs : List Fr} {i g c : Int} (hF : Fine 1000000 fs) (h : pinS fs i g = (c, gs)) (w : World) (hP : PoolIs w p b fs) :
    Calls Try.prog 19 #[.pointer (some ⟨p, 0, none⟩), .int .i64 i, .int .i64 g] w fun e w' => e = .returned (.int .i64 c) ∧ PoolIs w' p b gs ∧ Only (fun k => k = b) w w' := by
  have H := pin_any p b fs i g w hP hF
  rw [h] at H
  exact H
theorem unpin_eq {p b : Nat} {fs gs : List Fr} {i g c : Int} (hF : Fine 1000000 fs) (h : unpinS fs i g = (c, gs)) (w : World) (hP : PoolIs w p b fs) :
    Calls Try.prog 21 #[.pointer (some ⟨p, 0, none⟩), .int .i64 i, .int .i64 g] w fun e w' => e = .returned (.int .i64 c) ∧ PoolIs w' p b gs ∧ Only (fun k => k = b) w w' := by
  have H := unpin_any p b fs i g w hP hF
  rw [h] at H
  exact H
theorem pins_eq {p b : Nat} {fs : List Fr} {n : Int} (hF : Fine 1000000 fs) (h : pinned fs = n) (w : World) (hP : PoolIs w p b fs) :
    Calls Try.prog 14 #[.pointer (some ⟨p, 0, none⟩)] w fun e w' => e = .returned (.int .i64 n) ∧ Only none_ w w' := by
  have H := pins_any p b fs w hP hF
  rw [h] at H
  exact H
theorem frame_eq {p b : Nat} {fs : List Fr} {i : Nat} {s k g n v : Int} (h : fs[i]? = some ⟨s, k, g, n, v⟩) (w : World) (hP : PoolIs w p b fs) :
    Calls Try.prog 16 #[.pointer (some ⟨p, 0, none⟩), .int .i64 i] w fun e w' => e = .returned (.tuple #[.agg #[.int .i64 s, .int .i64 k, .int .i64 g, .int .i64 n, .int .u64 v], .bool true]) ∧ Only none_ w w' :=
  frame_yes p b fs i _ w hP h
theorem frame_head {p b : Nat} {fs : List Fr} {s k g n v : Int} (h : fs[0]? = some ⟨s, k, g, n, v⟩) (w : World) (hP : PoolIs w p b fs) :
    Calls Try.prog 16 #[.pointer (some ⟨p, 0, none⟩), .int .i64 0] w fun e w' => e = .returned (.tuple #[.agg #[.int .i64 s, .int .i64 k, .int .i64 g, .int .i64 n, .int .u64 v], .bool true]) ∧ Only none_ w w' :=
  frame_yes p b fs 0 _ w hP h
theorem count_eq {p b : Nat} {fs : List Fr} {n : Nat} (hF : Fine 1000000 fs) (hn : fs.length = n) (h : ∀ (j : Nat) (g : Fr), fs[j]? = some g → g.st = 1) (w : World) (hP : PoolIs w p b fs) :
    Calls Try.prog 12 #[.pointer (some ⟨p, 0, none⟩)] w fun e w' => e = .returned (.agg #[.int .i64 0, .int .i64 n, .int .i64 0, .int .i64 0]) ∧ Only none_ w w' := by
  have H := count_any p b fs w hP hF
  rw [cnt_ones h, hn] at H
  exact H

/-- a pool whose first frame is f, and all others free -/
def one (k : Nat) (f : Fr) : List Fr := f :: fresh k
theorem one_fine {K : Int} (k : Nat) {f : Fr} (h : f.Fine K) (h0 : 0 ≤ K) : Fine K (one k f) := fun g hg => by
  rcases List.mem_cons.1 hg with e | e
  · rw [e]; exact h
  · exact (fresh_fine k).mono h0 g e
theorem one_pinned (k : Nat) (f : Fr) : pinned (one k f) = f.pins := by
  unfold pinned one fresh
  simp
theorem one_take (k : Nat) : takeS (fresh (k + 1)) 5 = (0, 0, one k ⟨1, 5, 1, 0, 0⟩) := rfl
theorem one_pin (k : Nat) (j : Int) : pinS (one k ⟨1, 5, 1, j, 0⟩) 0 1 = (0, one k ⟨1, 5, 1, j + 1, 0⟩) := rfl
theorem one_fill (k : Nat) (j v : Int) : fillS (one k ⟨1, 5, 1, j, 0⟩) 0 v = (0, one k ⟨2, 5, 1, j, v⟩) := rfl
/-- the first frame, doomed, with so many pins -/
def dying (j v : Int) : Fr := if j = 0 then ⟨0, 0, 1, 0, 0⟩ else ⟨3, 5, 1, j, v⟩
theorem one_doom (k : Nat) (j v : Int) : doomS (one k ⟨2, 5, 1, j, v⟩) 0 = (0, one k (dying j v)) := by
  show (0, (one k _).set 0 (Fr.doomed ⟨2, 5, 1, j, v⟩)) = _
  unfold Fr.doomed dying
  by_cases h : j = 0
  · rw [if_pos h, if_pos h]; rfl
  · rw [if_neg h, if_neg h]; rfl
theorem dying_fine (j v : Int) (h0 : 0 ≤ j) (h1 : j ≤ 100) : (dying j v).Fine 1000000 := by
  unfold dying
  split
  · exact fine_z1
  · exact ⟨by simp, by simp, h0, by show j ≤ 1000000; omega, by simp, by simp, fun h => by simp at h, fun h => by show 0 < j; omega⟩
theorem dying_not (k : Nat) (j v : Int) (h : 0 < j) : pinS (one k (dying j v)) 0 1 = (5, one k (dying j v)) ∧ doomS (one k (dying j v)) 0 = (5, one k (dying j v)) ∧ fillS (one k (dying j v)) 0 1 = (5, one k (dying j v)) ∧ unpinS (one k (dying j v)) 0 2 = (3, one k (dying j v)) := by
  unfold dying
  rw [if_neg (by omega)]
  exact ⟨rfl, rfl, rfl, rfl⟩
theorem dying_less (k : Nat) (j v : Int) (h : 0 < j) : unpinS (one k (dying j v)) 0 1 = (0, one k (dying (j - 1) v)) := by
  have e : dying j v = ⟨3, 5, 1, j, v⟩ := by unfold dying; rw [if_neg (by omega)]
  rw [e]
  unfold unpinS
  rw [show at? (one k ⟨3, 5, 1, j, v⟩) 0 = some ⟨3, 5, 1, j, v⟩ from rfl]
  simp only
  rw [if_neg (by simp), if_pos h]
  unfold Fr.unpinned dying
  by_cases u : j = 1
  · rw [if_pos ⟨rfl, u⟩, if_pos (by omega)]; rfl
  · rw [if_neg (by simp; omega), if_neg (by omega)]; rfl
theorem dying_gone (k : Nat) (v : Int) : unpinS (one k (dying 0 v)) 0 1 = (3, one k (dying 0 v)) := rfl
end Go.Proofs.Ytllbdkjbcadeoaa

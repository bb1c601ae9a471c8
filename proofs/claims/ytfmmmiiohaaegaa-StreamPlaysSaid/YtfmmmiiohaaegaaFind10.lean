/- Of some streams the one of the greatest rank of those that fit: package stream's find, whatever closure it is handed; the closures. -/
import Derived.Test.YtfmmmiiohaaegaaRs
namespace Go.Proofs.Ytfmmmiiohaaegaa
open Go.RowKit
set_option linter.unusedVariables false

/-- of the first k of some the one that is best so far, and its rank -/
def Best (rank : Sm → Int) (fit : Sm → Bool) (ss : List Sm) (k : Nat) (a g : Int) : Prop :=
  (a = -1 ∧ ∀ (j : Nat) t, j < k → ss[j]? = some t → fit t = false) ∨
  ∃ (j : Nat) (s : Sm), a = j ∧ j < k ∧ ss[j]? = some s ∧ g = rank s ∧ fit s = true ∧ (∀ (i : Nat) t, i < k → ss[i]? = some t → fit t = true → rank t ≤ rank s) ∧ ∀ (i : Nat) t, i < j → ss[i]? = some t → fit t = true → rank t < rank s
theorem Best.start (rank : Sm → Int) (fit : Sm → Bool) (ss : List Sm) : Best rank fit ss 0 (-1) 0 := .inl ⟨rfl, fun j t hj => by omega⟩
theorem Best.no {rank : Sm → Int} {fit : Sm → Bool} {ss : List Sm} {k : Nat} {a g : Int} (h : Best rank fit ss k a g) {s : Sm} (hs : ss[k]? = some s) (hf : fit s = false) : Best rank fit ss (k + 1) a g := by
  rcases h with ⟨h1, h2⟩ | ⟨j, s0, h1, h2, h3, h4, h5, h6, h7⟩
  · refine .inl ⟨h1, fun j t hj ht => ?_⟩
    by_cases q : j = k
    · subst q; rw [hs] at ht; injection ht with ht; rw [← ht]; exact hf
    · exact h2 j t (by omega) ht
  · refine .inr ⟨j, s0, h1, by omega, h3, h4, h5, fun i t hi ht q => ?_, h7⟩
    by_cases e : i = k
    · subst e; rw [hs] at ht; injection ht with ht; rw [← ht, hf] at q; cases q
    · exact h6 i t (by omega) ht q
theorem Best.less {rank : Sm → Int} {fit : Sm → Bool} {ss : List Sm} {k : Nat} {a g : Int} (h : Best rank fit ss k a g) {s : Sm} (hs : ss[k]? = some s) (ha : a ≠ -1) (hr : rank s ≤ g) : Best rank fit ss (k + 1) a g := by
  rcases h with ⟨h1, h2⟩ | ⟨j, s0, h1, h2, h3, h4, h5, h6, h7⟩
  · exact absurd h1 ha
  · refine .inr ⟨j, s0, h1, by omega, h3, h4, h5, fun i t hi ht q => ?_, h7⟩
    by_cases e : i = k
    · subst e; rw [hs] at ht; injection ht with ht; rw [← ht]; omega
    · exact h6 i t (by omega) ht q
theorem Best.more {rank : Sm → Int} {fit : Sm → Bool} {ss : List Sm} {k : Nat} {a g : Int} (h : Best rank fit ss k a g) {s : Sm} (hs : ss[k]? = some s) (hf : fit s = true) (hr : a = -1 ∨ g < rank s) : Best rank fit ss (k + 1) k (rank s) := by
  refine .inr ⟨k, s, rfl, by omega, hs, rfl, hf, fun i t hi ht q => ?_, fun i t hi ht q => ?_⟩
  · by_cases e : i = k
    · subst e; rw [hs] at ht; injection ht with ht; rw [← ht]; exact Int.le_refl _
    · rcases h with ⟨h1, h2⟩ | ⟨j, s0, h1, h2, h3, h4, h5, h6, h7⟩
      · rw [h2 i t (by omega) ht] at q; cases q
      · have := h6 i t (by omega) ht q; omega
  · rcases h with ⟨h1, h2⟩ | ⟨j, s0, h1, h2, h3, h4, h5, h6, h7⟩
    · rw [h2 i t (by omega) ht] at q; cases q
    · have := h6 i t (by omega) ht q; omega
/-- a place among some, or -1 -/
def placeI : Option Nat → Int
  | some k => k
  | none => -1
theorem best_top {ss : List Sm} {x a g : Int} (hu : ss.Pairwise (fun a b => a.used ≠ b.used)) (h : Best (fun s => s.used) (fits x) ss ss.length a g) : a = placeI (topOf ss x) := by
  rcases h with ⟨h1, h2⟩ | ⟨j, s0, h1, h2, h3, h4, h5, h6, h7⟩
  · rw [top_none (fun j t ht e => by have := h2 j t (lt_of_get ht) ht; simp [fits, e] at this)]
    exact h1
  · rw [top_is hu h3 (by simpa [fits] using h5) (fun j t ht e => by have : (t.used : Int) ≤ s0.used := h6 j t (lt_of_get ht) ht (by simp [fits, e]); omega)]
    exact h1
theorem best_low {ss : List Sm} {a g : Int} (hu : ss.Pairwise (fun a b => a.used ≠ b.used)) (hne : ss ≠ []) (h : Best (fun s => -(s.used : Int)) (fun _ => true) ss ss.length a g) : a = ((lowOf ss).getD 0 : Nat) ∧ (lowOf ss).getD 0 < ss.length := by
  rcases h with ⟨h1, h2⟩ | ⟨j, s0, h1, h2, h3, h4, h5, h6, h7⟩
  · have hl := List.length_pos_iff.2 hne
    have := h2 0 ss[0] hl (List.getElem?_eq_getElem hl)
    cases this
  · rw [low_is hu h3 (fun j t ht => by have : -(t.used : Int) ≤ -(s0.used : Int) := h6 j t (lt_of_get ht) ht rfl; omega)]
    exact ⟨h1, h2⟩
theorem best_id {ss : List Sm} {x a g : Int} (h : Best (fun _ => 0) (fun s => (s.id : Int) == x) ss ss.length a g) : a = placeI (idOf ss x) := by
  rcases h with ⟨h1, h2⟩ | ⟨j, s0, h1, h2, h3, h4, h5, h6, h7⟩
  · rw [id_none (fun j t ht e => by have := h2 j t (lt_of_get ht) ht; simp [e] at this)]
    exact h1
  · rw [id_is h3 (by simpa using h5) (fun j t hj ht e => by have : (0 : Int) < 0 := h7 j t hj ht (by simp [e]); omega)]
    exact h1

set_option maxHeartbeats 1000000 in
theorem find_any (A : Option Addr) (cap : Nat) (ss : List Sm) (w : World) (G : FuncId) (caps : Array Value) (rank : Sm → Int) (fit : Sm → Bool) (hh : Holds w A 6 Sm.cells ss) (hl : ss.length ≤ 1000)
    (hr : ∀ s ∈ ss, -1000000 ≤ rank s ∧ rank s ≤ 1000000)
    (hG : ∀ (a : Value) (w : World), (callFunc G (#[a] ++ caps)).run Try.prog w = .ok (.enter G (#[a] ++ caps)) w)
    (hL : ∀ s ∈ ss, ∀ w', Only none_ w w' → Calls Try.prog G (#[.agg #[.int .i64 s.id, .int .i64 s.f.n, .int .i64 s.f.a, .int .i64 s.f.p, .int .i64 s.f.g, .int .i64 s.used]] ++ caps) w' fun e w'' => e = .returned (.tuple #[.int .i64 (rank s), .bool (fit s)]) ∧ Only none_ w' w'') :
    Calls Try.prog 43 #[.slice A ss.length cap, .func (.func G) #[] caps] w fun e w' => (∃ a g, e = .returned (.int .i64 a) ∧ Best rank fit ss ss.length a g) ∧ Only none_ w w' := by
  have HH := Lib.hid hh
  have HL := Lib.hid hL
  have HR := Lib.hid hr
  clear hh hL hr
  go_enter Try.func43, Try.ntmps43
  go_wp2_with fail
  go_loopw [5, 6, 7, 8, 9, 10, 13] (fun a g _ _ _ _ i wr => ∃ (k : Nat) (av gv : Int), k ≤ ss.length ∧ i = .int .i64 k ∧ a = .int .i64 av ∧ g = .int .i64 gv ∧ Best rank fit ss k av gv ∧ Only none_ w wr) (fun _ _ _ _ _ _ i _ => ss.length - (intOf i).toNat)
  case atStart => exact ⟨0, -1, 0, Nat.zero_le _, rfl, rfl, rfl, Best.start _ _ _, Only.refl _ _⟩
  case round =>
    obtain ⟨k, av, gv, hk, rfl, rfl, rfl, hb, ho⟩ := hrel
    have HB := Lib.hid hb
    have OO := Lib.hid ho
    clear hb ho
    by_cases hlt : k < ss.length
    · obtain ⟨y, hy⟩ : ∃ y, ss[k]? = some y := ⟨_, List.getElem?_eq_getElem hlt⟩
      obtain ⟨ag, ao, rfl, lg, c1⟩ := HH.out k y hy
      have a0 : wr.cell? ⟨ag, ao + k * 6, none⟩ = some (.int .i64 y.id) := OO.out.cell (c1 0 _ rfl) (fun s => s)
      have a1 : wr.cell? ⟨ag, ao + k * 6 + 1, none⟩ = some (.int .i64 y.f.n) := OO.out.cell (c1 1 _ rfl) (fun s => s)
      have a2 : wr.cell? ⟨ag, ao + k * 6 + 2, none⟩ = some (.int .i64 y.f.a) := OO.out.cell (c1 2 _ rfl) (fun s => s)
      have a3 : wr.cell? ⟨ag, ao + k * 6 + 3, none⟩ = some (.int .i64 y.f.p) := OO.out.cell (c1 3 _ rfl) (fun s => s)
      have a4 : wr.cell? ⟨ag, ao + k * 6 + 4, none⟩ = some (.int .i64 y.f.g) := OO.out.cell (c1 4 _ rfl) (fun s => s)
      have a5 : wr.cell? ⟨ag, ao + k * 6 + 5, none⟩ = some (.int .i64 y.used) := OO.out.cell (c1 5 _ rfl) (fun s => s)
      have hm := List.mem_of_getElem? hy
      have HY := Lib.hid hy
      have ly := Lib.hid (HR.out y hm)
      have LY := Lib.hid (HL.out y hm)
      clear hy c1 hm
      go_wp2_with fail
      have OA := Lib.hid (OO.out.alloc (.cells #[.int .i64 y.id, .int .i64 y.f.n, .int .i64 y.f.a, .int .i64 y.f.p, .int .i64 y.f.g, .int .i64 y.used] 59))
      (with_reducible refine (LY.out _ OA.out).mono ?_)
      rintro e w2 ⟨rfl, o2⟩
      have O2 := Lib.hid (OA.out.same o2)
      clear o2 OA LY a0 a1 a2 a3 a4 a5
      have ly1 := ly.out.1
      have ly2 := ly.out.2
      clear ly
      by_cases hf : fit y = true
      · by_cases ha : av = -1
        · have NX := Lib.hid (HB.out.more HY.out hf (.inl ha))
          have d1 : (av == (-1)) = true := by simp [ha]
          simp only [hf]
          clear ha HB
          generalize rank y = ry at *
          go_wp2_with fail
          go_roundw
          case rel => exact ⟨k + 1, k, ry, by omega, by go_num, rfl, rfl, NX.out, O2.out⟩
          case measure => simp [intOf]; omega
        · have d1 : (av == (-1)) = false := by simp [ha]
          by_cases hg : gv < rank y
          · have NX := Lib.hid (HB.out.more HY.out hf (.inr hg))
            have d2 : decide (gv < rank y) = true := by simp [hg]
            simp only [hf]
            clear ha HB hg
            generalize rank y = ry at *
            go_wp2_with fail
            go_roundw
            case rel => exact ⟨k + 1, k, ry, by omega, by go_num, rfl, rfl, NX.out, O2.out⟩
            case measure => simp [intOf]; omega
          · have NX := Lib.hid (HB.out.less HY.out ha (by omega))
            have d2 : decide (gv < rank y) = false := by simp [hg]
            simp only [hf]
            clear ha HB hg
            generalize rank y = ry at *
            go_wp2_with fail
            go_roundw
            case rel => exact ⟨k + 1, av, gv, by omega, by go_num, rfl, rfl, NX.out, O2.out⟩
            case measure => simp [intOf]; omega
      · have hf : fit y = false := by simpa using hf
        have NX := Lib.hid (HB.out.no HY.out hf)
        simp only [hf]
        clear HB
        generalize rank y = ry at *
        go_wp2_with fail
        go_roundw
        case rel => exact ⟨k + 1, av, gv, by omega, by go_num, rfl, rfl, NX.out, O2.out⟩
        case measure => simp [intOf]; omega
    · have e : k = ss.length := by omega
      subst e
      go_wp2_with fail
      go_ret
      exact ⟨⟨av, gv, rfl, HB.out⟩, OO.out⟩
end Go.Proofs.Ytfmmmiiohaaegaa

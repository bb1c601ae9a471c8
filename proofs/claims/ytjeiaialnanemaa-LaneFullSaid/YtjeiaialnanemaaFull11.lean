/- Lanes that are filled one ticket after the other: plain facts. -/
import Derived.Test.YtjeiaialnanemaaLnAwake
namespace Go.Proofs.Ytjeiaialnanemaa
open Go.RowKit
set_option linter.unusedVariables false

/-- one cell of a block known whole is written -/
theorem Sg.put {w0 w : World} {b : Nat} {t : TypeId} {cs : Array Value} {B : Asr} (h : Sg w0 w ((Asr.row b t cs).and B)) (i : Nat) (v : Value) : Sg w0 (w.setCell ⟨b, i, none⟩ v) ((Asr.row b t (cs.setIfInBounds i v)).and B) := by
  obtain ⟨⟨M, ⟨MA, MB, ⟨r, e1⟩, hb, d, e⟩, l⟩, k⟩ := h
  exact Asr.frame (A' := Asr.row b t (cs.setIfInBounds i v)) hb d e l k ⟨⟨MA, ⟨r.put i v, e1⟩, fun g hg => .inl hg⟩, (Only.refl MA w).into ((e1 b).2 rfl) i v⟩
/-- where ticket i + 1 goes -/
def whI (xs : List Int) (i : Nat) : Int := if xs = [] then 0 else (xs[i % xs.length]?).getD 0
theorem wh_in {xs : List Int} (h : ∀ a ∈ xs, 0 ≤ a ∧ a ≤ 255) (i : Nat) : 0 ≤ whI xs i ∧ whI xs i < (256 : Nat) := by
  unfold whI
  split
  · omega
  · rename_i hx
    have hl : 0 < xs.length := List.length_pos_iff.2 hx
    have hi : i % xs.length < xs.length := Nat.mod_lt _ hl
    rw [List.getElem?_eq_getElem hi]
    have := h _ (List.getElem_mem hi)
    simp only [Option.getD_some]
    omega
def fillS (xs : List Int) (k : Nat) : List Sd := (List.range k).map (fun i => ⟨whI xs i, (i : Int) + 1⟩)
theorem fill_len (xs : List Int) (k : Nat) : (fillS xs k).length = k := by simp [fillS]
theorem fill_more (xs : List Int) (k : Nat) : fillS xs (k + 1) = fillS xs k ++ [⟨whI xs k, (k : Int) + 1⟩] := by
  unfold fillS
  rw [List.range_succ, List.map_append]
  rfl
theorem fill_has (xs : List Int) (k : Nat) (y : Int) : hasK (fillS xs k) y = decide (1 ≤ y ∧ y ≤ k) := by
  rw [Bool.eq_iff_iff, hasK_iff, decide_eq_true_eq]
  constructor
  · rintro ⟨s, hs, rfl⟩
    obtain ⟨i, hi, rfl⟩ := List.mem_map.1 hs
    have := List.mem_range.1 hi
    show 1 ≤ (i : Int) + 1 ∧ (i : Int) + 1 ≤ k
    omega
  · rintro ⟨h1, h2⟩
    exact ⟨⟨whI xs (y - 1).toNat, y⟩, List.mem_map.2 ⟨(y - 1).toNat, List.mem_range.2 (by omega), by simp; omega⟩, rfl⟩
theorem pushC_has (n room : Nat) (ss : List Sd) (b x : Int) : pushC n room ss b x = if 0 ≤ b ∧ b < n ∧ 1 ≤ x then (if hasK ss x then 4 else if room ≤ ss.length then 2 else 0) else 1 := by
  unfold pushC
  rw [tk_has]
theorem fill_push {xs : List Int} (h : ∀ a ∈ xs, 0 ≤ a ∧ a ≤ 255) {N i : Nat} (hi : i < N) : pushC 256 N (fillS xs i) (whI xs i) ((i : Int) + 1) = 0 ∧ pushS 256 N (fillS xs i) (whI xs i) ((i : Int) + 1) = fillS xs (i + 1) := by
  have hw := wh_in h i
  have e : pushC 256 N (fillS xs i) (whI xs i) ((i : Int) + 1) = 0 := by
    rw [pushC_has, if_pos (by omega), fill_has, decide_eq_false (by omega), if_neg (by decide), if_neg (by rw [fill_len]; omega)]
  exact ⟨e, by unfold pushS; rw [if_pos e, fill_more]⟩
theorem full_push (xs : List Int) (N : Nat) : pushC 256 N (fillS xs N) 3 ((N : Int) + 1) = 2 ∧ pushS 256 N (fillS xs N) 3 ((N : Int) + 1) = fillS xs N := by
  have e : pushC 256 N (fillS xs N) 3 ((N : Int) + 1) = 2 := by
    rw [pushC_has, if_pos (by omega), fill_has, decide_eq_false (by omega), if_neg (by decide), if_pos (by rw [fill_len]; omega)]
  exact ⟨e, by unfold pushS; rw [e]; rfl⟩
theorem pull_len {ss : List Sd} {x : Int} (h : hasK ss x = true) : (pullS ss x).length + 1 = ss.length := by
  rw [← tk_has] at h
  unfold pullS
  cases hk : tkAt ss x with
  | none => rw [hk] at h; cases h
  | some k =>
    obtain ⟨s, hs, _⟩ := tk_of hk
    have := lt_of_get hs
    simp
    omega
/-- one ticket is taken out -/
def fullA (xs : List Int) (N K : Nat) : List Sd := pullS (fillS xs N) ((K : Int) + 1)
theorem fullA_len (xs : List Int) {N K : Nat} (hK : K < N) : (fullA xs N K).length + 1 = N := by
  unfold fullA
  rw [pull_len (by rw [fill_has, decide_eq_true (by omega)]), fill_len]
theorem fullA_has (xs : List Int) {N K : Nat} (h : Once (fillS xs N)) (y : Int) : hasK (fullA xs N K) y = (decide (1 ≤ y ∧ y ≤ N) && !(y == (K : Int) + 1)) := by
  unfold fullA
  rw [pull_cut h, hasK_cut, fill_has]
theorem full_pull (xs : List Int) {N K : Nat} (h : Once (fillS xs N)) (hK : K < N) : blockI (fillS xs N) ((K : Int) + 1) = whI xs K ∧ pullC (fillS xs N) ((K : Int) + 1) = 0 := by
  refine ⟨?_, ?_⟩
  · have := blockI_of h (s := ⟨whI xs K, (K : Int) + 1⟩) (List.mem_map.2 ⟨K, List.mem_range.2 hK, rfl⟩)
    exact this
  · unfold pullC
    rw [tk_has, fill_has, decide_eq_true (by omega), if_pos rfl]
theorem full_gone (xs : List Int) {N K : Nat} (h : Once (fillS xs N)) : (tkAt (fullA xs N K) ((K : Int) + 1)).isSome = false := by
  rw [tk_has, fullA_has xs h]
  simp
/-- another one is pushed -/
def fullB (xs : List Int) (N K : Nat) : List Sd := fullA xs N K ++ [⟨3, (N : Int) + 1⟩]
theorem full_again (xs : List Int) {N K : Nat} (h : Once (fillS xs N)) (hK : K < N) : pushC 256 N (fullA xs N K) 3 ((N : Int) + 1) = 0 ∧ pushS 256 N (fullA xs N K) 3 ((N : Int) + 1) = fullB xs N K := by
  have e : pushC 256 N (fullA xs N K) 3 ((N : Int) + 1) = 0 := by
    have := fullA_len xs hK
    rw [pushC_has, if_pos (by omega), fullA_has xs h, decide_eq_false (by omega), Bool.false_and, if_neg (by decide), if_neg (by omega)]
  exact ⟨e, by unfold pushS; rw [if_pos e]; rfl⟩
theorem fullB_len (xs : List Int) {N K : Nat} (hK : K < N) : (fullB xs N K).length = N := by
  have := fullA_len xs hK
  unfold fullB
  simp
  omega
theorem full_at (xs : List Int) {N K : Nat} (h : Once (fullB xs N K)) : blockI (fullB xs N K) ((N : Int) + 1) = 3 ∧ (tkAt (fullB xs N K) ((N : Int) + 1)).isSome = true := by
  have hm : (⟨3, (N : Int) + 1⟩ : Sd) ∈ fullB xs N K := by unfold fullB; simp
  refine ⟨blockI_of h hm, ?_⟩
  rw [tk_has, hasK_iff]
  exact ⟨_, hm, rfl⟩
theorem full_last (xs : List Int) {N K : Nat} (h : Once (fillS xs N)) (hK : K < N) : pushC 256 N (fullB xs N K) 3 ((N : Int) + 2) = 2 := by
  have hh : hasK (fullB xs N K) ((N : Int) + 2) = false := by
    unfold fullB hasK
    rw [List.any_append]
    have := fullA_has (K := K) xs h ((N : Int) + 2)
    unfold hasK at this
    rw [this, decide_eq_false (by omega)]
    simp
  rw [pushC_has, if_pos (by omega), hh, if_neg (by decide), if_pos (by rw [fullB_len xs hK]; omega)]
/-- the blocks, as far as they have been noted -/
def whC (xs : List Int) (N i : Nat) : Array Value := ((List.range N).map (fun j => Value.int .i64 (if j < i then whI xs j else 0))).toArray
theorem whC_at {xs : List Int} {N i j : Nat} (hj : j < N) : (whC xs N i)[j]? = some (.int .i64 (if j < i then whI xs j else 0)) := by
  unfold whC
  rw [List.getElem?_toArray, List.getElem?_map, List.getElem?_range hj]
  rfl
theorem whC_size (xs : List Int) (N i : Nat) : (whC xs N i).size = N := by simp [whC]
theorem whC_ext {xs : List Int} {N i : Nat} {a : Array Value} (h : a.size = N) (k : ∀ j, j < N → a[j]? = some (.int .i64 (if j < i then whI xs j else 0))) : a = whC xs N i := by
  apply Array.ext_getElem?
  intro j
  rcases Nat.lt_or_ge j N with c | c
  · rw [k j c, whC_at c]
  · rw [Array.getElem?_eq_none (by omega), Array.getElem?_eq_none (by rw [whC_size]; exact c)]
theorem whC_put {xs : List Int} {N i : Nat} (hi : i < N) : (whC xs N i).setIfInBounds i (.int .i64 (whI xs i)) = whC xs N (i + 1) := by
  apply whC_ext (by rw [Array.size_setIfInBounds, whC_size])
  intro j hj
  rw [Array.getElem?_setIfInBounds]
  by_cases e : i = j
  · subst e
    rw [if_pos rfl, if_pos (by rw [whC_size]; exact hi), if_pos (by omega)]
  · rw [if_neg e, whC_at hj]
    by_cases q : j < i
    · rw [if_pos q, if_pos (by omega)]
    · rw [if_neg q, if_neg (by omega)]
theorem whC_skip {N i : Nat} : whC [] N i = whC [] N (i + 1) := by
  apply whC_ext (whC_size _ _ _)
  intro j hj
  rw [whC_at hj]
  have : whI [] j = 0 := rfl
  rw [this]
  simp
theorem whC_made (xs : List Int) (N : Nat) : flat one (List.replicate N 0) = whC xs N 0 := by
  apply whC_ext (by rw [flat_size one1, List.length_replicate, Nat.mul_one])
  intro j hj
  have := flat_get one1 (l := List.replicate N 0) (i := j) (a := 0) (by simp [hj]) (j := 0) (by decide)
  rw [Nat.mul_one, Nat.add_zero] at this
  rw [this]
  simp [one]
end Go.Proofs.Ytjeiaialnanemaa

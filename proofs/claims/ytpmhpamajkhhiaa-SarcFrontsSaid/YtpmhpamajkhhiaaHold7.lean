/- What holds of every shelf: plain. -/
import Derived.Test.YtpmhpamajkhhiaaRfQ
namespace Go.Proofs.Ytpmhpamajkhhiaa
open Go.RowKit
set_option linter.unusedVariables false

theorem sub_len : ∀ {l m : List Nat}, l.Nodup → (∀ x ∈ l, x ∈ m) → l.length ≤ m.length
  | [], _, _, _ => Nat.zero_le _
  | x :: l, m, hl, h => by
    rw [List.nodup_cons] at hl
    have hx := h x (by simp)
    have := sub_len (l := l) (m := m.erase x) hl.2 (fun y hy => by
      have hne : y ≠ x := fun e => hl.1 (e ▸ hy)
      exact (List.mem_erase_of_ne hne).2 (h y (by simp [hy])))
    have e := List.length_erase_of_mem hx
    have : 0 < m.length := List.length_pos_of_mem hx
    simp only [List.length_cons]
    omega
theorem same_len {l m : List Nat} (hl : l.Nodup) (hm : m.Nodup) (h : ∀ x, x ∈ l ↔ x ∈ m) : l.length = m.length :=
  Nat.le_antisymm (sub_len hl (fun x hx => (h x).1 hx)) (sub_len hm (fun x hx => (h x).2 hx))

/-- a list by its number -/
def Sh.lk (s : Sh) (k : Nat) : List Nat := s.listOf (k : Int)
theorem lk_cases {s : Sh} {k : Nat} (h : k < 2) : (k = 0 ∧ s.lk k = s.l0) ∨ (k = 1 ∧ s.lk k = s.l1) := by
  have : k = 0 ∨ k = 1 := by omega
  rcases this with rfl | rfl
  · exact .inl ⟨rfl, rfl⟩
  · exact .inr ⟨rfl, rfl⟩
theorem lk_nodup {s : Sh} (f : s.Fine) {k : Nat} (h : k < 2) : (s.lk k).Nodup := by
  rcases lk_cases (s := s) h with ⟨_, e⟩ | ⟨_, e⟩ <;> rw [e]
  · exact f.nd0
  · exact f.nd1
theorem lk_lt {s : Sh} (f : s.Fine) {k : Nat} (h : k < 2) {x : Nat} (hx : x ∈ s.lk k) : x < s.n ∧ s.lst x = k := by
  rcases lk_cases (s := s) h with ⟨rfl, e⟩ | ⟨rfl, e⟩ <;> rw [e] at hx
  · refine ⟨f.lt0 x hx, ?_⟩
    unfold Sh.lst
    rw [if_pos hx]
    rfl
  · refine ⟨f.lt1 x hx, ?_⟩
    unfold Sh.lst
    rw [if_neg (fun q => f.apart x q hx), if_pos hx]
    rfl
theorem lk_rev (s : Sh) {k : Nat} (h : k < 2) : s.revL (k : Int) = (s.lk k).reverse := by
  have : k = 0 ∨ k = 1 := by omega
  rcases this with rfl | rfl <;> rfl
theorem where_in {s : Sh} (f : s.Fine) {k j x : Nat} (h : k < 2) (hj : (s.lk k)[j]? = some x) :
    s.whereV (x : Int) = .tuple #[.int .i64 (k : Int), .bool (decide (((s.lk k).length : Int) - (s.bot : Int) ≤ (j : Int))), .bool true] := by
  have hm := List.mem_of_getElem? hj
  obtain ⟨hn, hl⟩ := lk_lt f h hm
  have hc : s.liesC (x : Int) = 0 := by
    unfold Sh.liesC
    have h2 : hasN s.n x = true := by unfold hasN; simp; omega
    rw [h2, if_pos rfl, Int.toNat_natCast, hl, if_neg (by omega)]
  unfold Sh.whereV
  rw [if_pos hc, Int.toNat_natCast, hl, lk_rev s h]
  have nd := lk_nodup f h
  have r := idx_rev nd hm
  have e : (s.lk k).idxOf x = j := by
    have hlt := lt_of_get hj
    rw [List.getElem?_eq_getElem hlt] at hj
    injection hj with hj
    rw [← hj]
    exact nd.idxOf_getElem j hlt
  have hb : decide ((s.lk k).reverse.idxOf x < s.bot) = decide (((s.lk k).length : Int) - (s.bot : Int) ≤ (j : Int)) := by
    by_cases q : (s.lk k).reverse.idxOf x < s.bot
    · have : ((s.lk k).length : Int) - (s.bot : Int) ≤ (j : Int) := by omega
      simp [q, this]
    · have : ¬ ((s.lk k).length : Int) - (s.bot : Int) ≤ (j : Int) := by omega
      simp [q, this]
  rw [hb]
theorem not_before {l : List Nat} (nd : l.Nodup) {j x : Nat} (hj : l[j]? = some x) : (x : Int) ∉ (ints l).take j := by
  unfold ints
  rw [← List.map_take]
  intro h
  have : x ∈ l.take j := by
    obtain ⟨y, hy, e⟩ := List.mem_map.1 h
    have : y = x := by omega
    rw [← this]; exact hy
  have hlt := lt_of_get hj
  have e : l = l.take j ++ x :: l.drop (j + 1) := by
    have h1 := List.take_append_drop j l
    rw [List.drop_eq_getElem_cons hlt] at h1
    rw [List.getElem?_eq_getElem hlt] at hj
    injection hj with hj
    rw [hj] at h1
    exact h1.symm
  rw [e] at nd
  exact (List.nodup_append.1 nd).2.2 x this x (by simp) rfl
theorem last_in_list {s : Sh} {k x : Nat} (h : k < 2) (e : s.lastOk (k : Int) = some x) : x ∈ s.lk k ∧ x ∉ s.heldL := by
  unfold Sh.lastOk at e
  have h1 := List.find?_some e
  have h2 := List.mem_of_find?_eq_some e
  rw [lk_rev s h, List.mem_reverse] at h2
  refine ⟨h2, fun q => ?_⟩
  unfold Sh.heldL at q
  have := (List.mem_filter.1 q).2
  simp only [Bool.not_eq_true'] at h1
  rw [h1] at this
  cases this
/-- it lies in a list -/
def Sh.liesB (s : Sh) (j : Nat) : Bool := decide (s.lst j ≠ -1)
theorem where_ok (s : Sh) {j : Nat} (h : j < s.n) : ∃ (x : Int) (b : Bool), s.whereV (j : Int) = .tuple #[.int .i64 x, .bool b, .bool (s.liesB j)] := by
  unfold Sh.whereV Sh.liesC Sh.liesB
  have h2 : hasN s.n j = true := by unfold hasN; simp; omega
  rw [h2, if_pos rfl, Int.toNat_natCast]
  by_cases q : s.lst j = -1
  · rw [if_pos q, if_neg (by decide)]
    exact ⟨0, false, by simp [q]⟩
  · rw [if_neg q, if_pos rfl]
    exact ⟨s.lst j, decide ((s.revL (s.lst j)).idxOf j < s.bot), by simp [q]⟩
def Sh.cnt (s : Sh) (j : Nat) : Nat := ((List.range j).filter s.liesB).length
theorem cnt_more (s : Sh) (j : Nat) : s.cnt (j + 1) = if s.liesB j = true then s.cnt j + 1 else s.cnt j := by
  unfold Sh.cnt
  rw [List.range_succ, List.filter_append]
  cases e : s.liesB j <;> simp [e]
theorem lies_iff (s : Sh) (x : Nat) : s.liesB x = true ↔ x ∈ s.l0 ∨ x ∈ s.l1 := by
  unfold Sh.liesB Sh.lst
  by_cases a : x ∈ s.l0
  · simp [a]
  · by_cases b : x ∈ s.l1 <;> simp [a, b]
theorem cnt_all {s : Sh} (f : s.Fine) : s.cnt s.n = s.l0.length + s.l1.length := by
  unfold Sh.cnt
  rw [← List.length_append]
  refine same_len (List.nodup_range.filter _) (List.nodup_append.2 ⟨f.nd0, f.nd1, fun a ha b hb e => f.apart a ha (e ▸ hb)⟩) (fun x => ?_)
  rw [List.mem_filter, List.mem_append, List.mem_range, lies_iff]
  constructor
  · exact fun h => h.2
  · rintro (h | h)
    · exact ⟨f.lt0 x h, .inl h⟩
    · exact ⟨f.lt1 x h, .inr h⟩
theorem all_le {s : Sh} (f : s.Fine) : s.l0.length + s.l1.length ≤ s.n := by
  rw [← List.length_append]
  refine nodup_len s.n _ (List.nodup_append.2 ⟨f.nd0, f.nd1, fun a ha b hb e => f.apart a ha (e ▸ hb)⟩) (fun x hx => ?_)
  rcases List.mem_append.1 hx with h | h
  · exact f.lt0 x h
  · exact f.lt1 x h
/-- so many lie in the lists before k -/
def Sh.sumL (s : Sh) (k : Nat) : Nat := if k = 0 then 0 else if k = 1 then s.l0.length else s.l0.length + s.l1.length
theorem sum_more (s : Sh) {k : Nat} (h : k < 2) : s.sumL (k + 1) = s.sumL k + (s.lk k).length := by
  have : k = 0 ∨ k = 1 := by omega
  rcases this with rfl | rfl
  · show s.l0.length = 0 + s.l0.length
    omega
  · rfl
theorem sum_le {s : Sh} (f : s.Fine) (k : Nat) : s.sumL k ≤ 64 := by
  have := all_le f
  have := f.n64
  unfold Sh.sumL
  split
  · omega
  · split <;> omega
theorem cell_own {w : World} {base g n c : Nat} {xs : List Int} (h : OwnsInts w base (.slice (some ⟨g, 0, none⟩) n c) xs) {i : Nat} {x : Int} (hi : xs[i]? = some x) : w.cell? ⟨g, i, none⟩ = some (.int .i64 x) := by
  obtain ⟨a, c', ev, hc⟩ := Reads.of_owns h
  injection ev with e1 _ _
  obtain ⟨g', o, e2, hcell⟩ := hc i x hi
  rw [← e1] at e2
  injection e2 with e2
  injection e2 with e3 e4
  subst e3 e4
  rw [Nat.zero_add] at hcell
  exact hcell
end Go.Proofs.Ytpmhpamajkhhiaa

/- Plain facts: tickets, sorted and with no neighbours alike: are those that quit tells. -/
import Derived.Test.YtgngaimbpnlkjaaEn14
import Derived.Lib.SlicesCompact
namespace Go.Proofs.Ytgngaimbpnlkjaa
open Go.Lib
set_option linter.unusedVariables false

/-- the tickets that a request's waiters wait for -/
def tkL (ss : List Sx) (r : Int) : List Int := (ss.filter (fun s => decide (s.w.r = r))).map Sx.t
theorem rise_uni : ∀ {l l' : List Int}, l.Pairwise (· < ·) → l'.Pairwise (· < ·) → (∀ x, x ∈ l ↔ x ∈ l') → l = l' := by
  intro l
  induction l with
  | nil =>
    intro l' _ _ h
    cases l' with
    | nil => rfl
    | cons b r' => have := (h b).2 (by simp); cases this
  | cons a r ih =>
    intro l' hl hl' h
    cases l' with
    | nil => have := (h a).1 (by simp); cases this
    | cons b r' =>
      obtain ⟨h1, h2⟩ := List.pairwise_cons.1 hl
      obtain ⟨h3, h4⟩ := List.pairwise_cons.1 hl'
      have e : a = b := by
        rcases List.mem_cons.1 ((h a).1 (by simp)) with q | q
        · exact q
        · rcases List.mem_cons.1 ((h b).2 (by simp)) with k | k
          · exact k.symm
          · have := h3 a q
            have := h1 b k
            omega
      subst e
      congr 1
      refine ih h2 h4 (fun x => ⟨fun hx => ?_, fun hx => ?_⟩)
      · rcases List.mem_cons.1 ((h x).1 (by simp [hx])) with q | q
        · have := h1 x hx; rw [q] at this; omega
        · exact q
      · rcases List.mem_cons.1 ((h x).2 (by simp [hx])) with q | q
        · have := h3 x hx; rw [q] at this; omega
        · exact q
theorem mem_putI (l : List Int) (n x : Int) : x ∈ putI l n ↔ x = n ∨ x ∈ l := by
  induction l with
  | nil => simp [putI]
  | cons a l ih =>
    unfold putI
    split
    · rw [List.mem_cons, ih, List.mem_cons]
      constructor
      · rintro (h | h | h)
        · exact .inr (.inl h)
        · exact .inl h
        · exact .inr (.inr h)
      · rintro (h | h | h)
        · exact .inr (.inl h)
        · exact .inl h
        · exact .inr (.inr h)
    · split
      · rename_i h; subst h; simp
      · simp
theorem rise_put {l : List Int} (h : l.Pairwise (· < ·)) (n : Int) : (putI l n).Pairwise (· < ·) := by
  induction l with
  | nil => simp [putI]
  | cons a l ih =>
    obtain ⟨h1, h2⟩ := List.pairwise_cons.1 h
    unfold putI
    split
    · rename_i k
      refine List.pairwise_cons.2 ⟨fun x hx => ?_, ih h2⟩
      rcases (mem_putI l n x).1 hx with rfl | q
      · exact k
      · exact h1 x q
    · split
      · exact h
      · rename_i k1 k2
        refine List.pairwise_cons.2 ⟨fun x hx => ?_, h⟩
        rcases List.mem_cons.1 hx with rfl | q
        · omega
        · have := h1 x q; omega
theorem rise_quit (ss : List Sx) (r : Int) : (quitI ss r).Pairwise (· < ·) := by
  unfold quitI
  have : ∀ (l : List Sx) (m : List Int), m.Pairwise (· < ·) → (l.foldl (fun l s => putI l s.t) m).Pairwise (· < ·) := by
    intro l
    induction l with
    | nil => intro m h; exact h
    | cons s l ih => intro m h; exact ih _ (rise_put h _)
  exact this _ _ List.Pairwise.nil
theorem compact_up {d : Array Int} (hs : ∀ i j, i < j → j < d.size → d[i]! ≤ d[j]!) : ∀ m, m ≤ d.size → (compactUpTo d m).Pairwise (· < ·) ∧ ∀ x, x ∈ compactUpTo d m ↔ ∃ j, j < m ∧ d[j]! = x := by
  intro m
  induction m with
  | zero => intro _; exact ⟨by simp [compactUpTo], fun x => by simp [compactUpTo]⟩
  | succ m ih =>
    intro hm
    obtain ⟨h1, h2⟩ := ih (by omega)
    rw [compactUpTo_succ]
    by_cases k : keeps d m = true
    · rw [if_pos k]
      refine ⟨?_, fun x => ?_⟩
      · rw [List.pairwise_append]
        refine ⟨h1, List.pairwise_singleton _ _, fun a ha b hb => ?_⟩
        rw [List.mem_singleton.1 hb]
        obtain ⟨j, hj, rfl⟩ := (h2 a).1 ha
        have q1 := hs j m hj (by omega)
        unfold keeps at k
        simp only [decide_eq_true_eq] at k
        rcases k with k | k
        · omega
        · have q2 : d[j]! ≤ d[m - 1]! := by
            rcases Nat.lt_or_ge j (m - 1) with q | q
            · exact hs j (m - 1) q (by omega)
            · rw [show j = m - 1 from by omega]; exact Int.le_refl _
          have q3 := hs (m - 1) m (by omega) (by omega)
          omega
      · rw [List.mem_append, h2 x, List.mem_singleton]
        constructor
        · rintro (⟨j, hj, e⟩ | e)
          · exact ⟨j, by omega, e⟩
          · exact ⟨m, Nat.lt_succ_self _, e.symm⟩
        · rintro ⟨j, hj, e⟩
          rcases Nat.lt_or_ge j m with q | q
          · exact .inl ⟨j, q, e⟩
          · rw [show j = m from by omega] at e; exact .inr e.symm
    · rw [if_neg k, List.append_nil]
      refine ⟨h1, fun x => ?_⟩
      rw [h2 x]
      have k2 : ¬ (m = 0 ∨ d[m]! ≠ d[m - 1]!) := fun q => k (by unfold keeps; exact decide_eq_true q)
      have k3 : 0 < m ∧ d[m]! = d[m - 1]! := ⟨by omega, by
        by_cases q : d[m]! = d[m - 1]!
        · exact q
        · exact absurd (.inr q) k2⟩
      constructor
      · rintro ⟨j, hj, e⟩; exact ⟨j, by omega, e⟩
      · rintro ⟨j, hj, e⟩
        rcases Nat.lt_or_ge j m with q | q
        · exact ⟨j, q, e⟩
        · rw [show j = m from by omega, k3.2] at e
          exact ⟨m - 1, by omega, e⟩
theorem compact_quit {ss : List Sx} {r : Int} {zs : List Int} (h : zs.Perm (tkL ss r)) : compact (zs.mergeSort fun x y => decide (x ≤ y)) = quitI ss r := by
  obtain ⟨ys, hys⟩ : ∃ ys, zs.mergeSort (fun x y => decide (x ≤ y)) = ys := ⟨_, rfl⟩
  have p : ys.Perm zs := by rw [← hys]; exact List.mergeSort_perm _ _
  have s : ys.Pairwise (fun x y => x ≤ y) := by
    rw [← hys]
    refine (List.pairwise_mergeSort (le := fun x y : Int => decide (x ≤ y)) (fun a b c h1 h2 => by simp at *; omega) (fun a b => by simp; omega) zs).imp ?_
    intro a b k
    simpa using k
  rw [hys]
  obtain ⟨c1, c2⟩ := compact_up (d := ys.toArray) (fun i j hij hj => by
    have hj' : j < ys.length := by simpa using hj
    have := (List.pairwise_iff_getElem.1 s) i j (by omega) hj' hij
    rw [getElem!_pos ys.toArray i (by simpa using by omega), getElem!_pos ys.toArray j hj]
    simpa using this) ys.length (by simp)
  refine rise_uni c1 (rise_quit ss r) (fun x => ?_)
  show x ∈ compactUpTo ys.toArray ys.length ↔ _
  rw [c2, mem_quit]
  have : (∃ j, j < ys.length ∧ ys.toArray[j]! = x) ↔ x ∈ ys := by
    constructor
    · rintro ⟨j, hj, e⟩
      rw [getElem!_pos ys.toArray j (by simpa using hj)] at e
      rw [← e]
      simp
    · intro hx
      obtain ⟨j, hj, e⟩ := List.getElem_of_mem hx
      exact ⟨j, hj, by rw [getElem!_pos ys.toArray j (by simpa using hj)]; simpa using e⟩
  rw [this, p.mem_iff, h.mem_iff]
  unfold tkL
  rw [List.mem_map]
  constructor
  · rintro ⟨s, hs, e⟩
    obtain ⟨h1, h2⟩ := List.mem_filter.1 hs
    exact ⟨s, h1, by simpa using h2, e⟩
  · rintro ⟨s, h1, h2, e⟩
    exact ⟨s, List.mem_filter.2 ⟨h1, by simpa using h2⟩, e⟩
end Go.Proofs.Ytgngaimbpnlkjaa

/- Plain facts of a register's seats: one request's quitting, a ticket's being taken. -/
import Derived.Test.YtgngaimbpnlkjaaGd14
namespace Go.Proofs.Ytgngaimbpnlkjaa

theorem mem_put (x n : Int) : ∀ l : List Int, x ∈ putI l n ↔ x = n ∨ x ∈ l := by
  intro l
  induction l with
  | nil => simp [putI]
  | cons y l ih =>
    show x ∈ (if y < n then y :: putI l n else if y = n then y :: l else n :: y :: l) ↔ _
    split
    · rw [List.mem_cons, ih, List.mem_cons]
      constructor <;> (intro h; rcases h with h | h | h <;> simp [h])
    · split
      · rename_i e
        subst e
        rw [List.mem_cons]
        constructor
        · intro h; exact .inr h
        · intro h; rcases h with h | h
          · exact .inl h
          · exact h
      · rw [List.mem_cons]
theorem mem_fold (x : Int) : ∀ (l : List Sx) (m : List Int), x ∈ l.foldl (fun l s => putI l s.t) m ↔ x ∈ m ∨ ∃ s ∈ l, s.t = x := by
  intro l
  induction l with
  | nil => intro m; simp
  | cons s l ih =>
    intro m
    rw [List.foldl_cons, ih, mem_put]
    constructor
    · intro h
      rcases h with (h | h) | ⟨s', h1, h2⟩
      · exact .inr ⟨s, by simp, h.symm⟩
      · exact .inl h
      · exact .inr ⟨s', by simp [h1], h2⟩
    · intro h
      rcases h with h | ⟨s', h1, h2⟩
      · exact .inl (.inr h)
      · rw [List.mem_cons] at h1
        rcases h1 with rfl | h1
        · exact .inl (.inl h2.symm)
        · exact .inr ⟨s', h1, h2⟩
theorem mem_quit (ss : List Sx) (r x : Int) : x ∈ quitI ss r ↔ ∃ s ∈ ss, s.w.r = r ∧ s.t = x := by
  unfold quitI
  rw [mem_fold]
  constructor
  · intro h
    rcases h with h | ⟨s, h1, h2⟩
    · cases h
    · rw [List.mem_filter] at h1
      exact ⟨s, h1.1, of_decide_eq_true h1.2, h2⟩
  · intro ⟨s, h1, h2, h3⟩
    exact .inr ⟨s, List.mem_filter.2 ⟨h1, decide_eq_true h2⟩, h3⟩
/-- who is left of a ticket's waiters -/
def othersL (l : List Wt) (r : Int) : List Wt := l.filter (fun w => decide (w.r ≠ r))
theorem others_yes {l : List Wt} {w : Wt} {r : Int} (e : w.r ≠ r) : othersL (l ++ [w]) r = othersL l r ++ [w] := by unfold othersL; simp [e]
theorem others_no {l : List Wt} {w : Wt} {r : Int} (e : w.r = r) : othersL (l ++ [w]) r = othersL l r := by unfold othersL; simp [e]
theorem others_le (l : List Wt) (r : Int) : (othersL l r).length ≤ l.length := List.length_filter_le _ _
theorem of_leftR (ss : List Sx) (r t : Int) : ofL (leftR ss r) t = othersL (ofL ss t) r := by
  unfold ofL leftR othersL
  rw [List.filter_filter, List.filter_map, List.filter_filter]
  congr 1
  apply List.filter_congr
  intro s _
  simp only [Function.comp_apply]
  exact Bool.and_comm _ _
theorem quit_again (ss : List Sx) (r : Int) : quitI (leftR ss r) r = [] := by
  have h : ∀ x, ¬ x ∈ quitI (leftR ss r) r := fun x hx => by
    rw [mem_quit] at hx
    obtain ⟨s, h1, h2, _⟩ := hx
    unfold leftR at h1
    rw [List.mem_filter] at h1
    exact of_decide_eq_true h1.2 h2
  cases q : quitI (leftR ss r) r with
  | nil => rfl
  | cons x l => exact absurd (by rw [q]; simp) (h x)
theorem parts_len (ss : List Sx) (f : Sx → Bool) : (ss.filter f).length + (ss.filter (fun s => !f s)).length = ss.length := by
  induction ss with
  | nil => rfl
  | cons s l ih =>
    cases h : f s <;> simp [h] <;> omega
theorem left_again (ss : List Sx) (r : Int) : leftR (leftR ss r) r = leftR ss r := by
  unfold leftR
  rw [List.filter_filter]
  apply List.filter_congr
  intro s _
  simp
theorem quit_frees (ss : List Sx) (r : Int) : (leftR ss r).length + (quitI ss r).length ≤ ss.length := by
  have h1 := parts_len ss (fun s => decide (s.w.r = r))
  have h2 := fold_le (ss.filter (fun s => decide (s.w.r = r))) []
  have e : leftR ss r = ss.filter (fun s => !decide (s.w.r = r)) := by
    unfold leftR
    apply List.filter_congr
    intro s _
    simp
  rw [e]
  unfold quitI
  simp only [List.length_nil] at h2
  omega
theorem quit_frees_of (ss : List Sx) (r t : Int) : (ofL ss t).length + (leftR ss r).length ≤ ss.length + (othersL (ofL ss t) r).length := by
  unfold ofL leftR othersL
  induction ss with
  | nil => simp
  | cons s l ih =>
    by_cases h1 : s.t = t <;> by_cases h2 : s.w.r = r <;> simp [h1, h2] at ih ⊢ <;> omega
theorem quit_tells (ss : List Sx) (r t : Int) : decide ((othersL (ofL ss t) r).length < (ofL ss t).length) = decide (t ∈ quitI ss r) := by
  rw [Bool.eq_iff_iff]
  simp only [decide_eq_true_eq]
  rw [mem_quit]
  unfold ofL othersL
  induction ss with
  | nil => simp
  | cons s l ih =>
    have le := List.length_filter_le (fun w => decide (w.r ≠ r)) ((l.filter (fun s => decide (s.t = t))).map Sx.w)
    by_cases h1 : s.t = t
    · by_cases h2 : s.w.r = r
      · constructor
        · intro _; exact ⟨s, by simp, h2, h1⟩
        · intro _
          simp [h1, h2] at le ⊢
          omega
      · have e : (∃ s' ∈ s :: l, s'.w.r = r ∧ s'.t = t) ↔ ∃ s' ∈ l, s'.w.r = r ∧ s'.t = t := by
          constructor
          · intro ⟨s', a, b, c⟩
            rw [List.mem_cons] at a
            rcases a with rfl | a
            · exact absurd b h2
            · exact ⟨s', a, b, c⟩
          · intro ⟨s', a, b, c⟩
            exact ⟨s', by simp [a], b, c⟩
        rw [e, ← ih]
        simp [h1, h2]
    · have e : (∃ s' ∈ s :: l, s'.w.r = r ∧ s'.t = t) ↔ ∃ s' ∈ l, s'.w.r = r ∧ s'.t = t := by
        constructor
        · intro ⟨s', a, b, c⟩
          rw [List.mem_cons] at a
          rcases a with rfl | a
          · exact absurd c h1
          · exact ⟨s', a, b, c⟩
        · intro ⟨s', a, b, c⟩
          exact ⟨s', by simp [a], b, c⟩
      rw [e, ← ih]
      simp [h1]

theorem of_taken (ss : List Sx) (t : Int) : ofL (leftT ss t) t = [] := by
  unfold ofL leftT
  rw [List.filter_filter, List.map_eq_nil_iff, List.filter_eq_nil_iff]
  intro s _
  simp
theorem take_frees (ss : List Sx) (t : Int) : (leftT ss t).length + (ofL ss t).length = ss.length := by
  have h1 := parts_len ss (fun s => decide (s.t = t))
  have e : leftT ss t = ss.filter (fun s => !decide (s.t = t)) := by
    unfold leftT
    apply List.filter_congr
    intro s _
    simp
  rw [e]
  unfold ofL
  rw [List.length_map]
  omega
theorem of_other (ss : List Sx) {t u : Int} (h : u ≠ t) : ofL (leftT ss t) u = ofL ss u := by
  unfold ofL leftT
  rw [List.filter_filter]
  congr 1
  apply List.filter_congr
  intro s _
  by_cases e : s.t = u
  · have : s.t ≠ t := fun q => h (by rw [← e, q])
    simp [e, h]
  · simp [e]
theorem taken_waits {ss : List Sx} (hn : (ss.map Sx.w).Nodup) {t : Int} {x : Wt} (h : x ∈ ofL ss t) : waitsB (leftT ss t) x = false := by
  unfold waitsB
  rw [List.any_eq_false]
  intro s hs
  unfold leftT at hs
  rw [List.mem_filter] at hs
  unfold ofL at h
  obtain ⟨s', h1, h2⟩ := List.mem_map.1 h
  rw [List.mem_filter] at h1
  intro e
  have e := of_decide_eq_true e
  have n1 := of_decide_eq_true h1.2
  have n2 := of_decide_eq_true hs.2
  have : s = s' := by
    have inj : ∀ (l : List Sx), (l.map Sx.w).Nodup → ∀ a ∈ l, ∀ b ∈ l, a.w = b.w → a = b := by
      intro l
      induction l with
      | nil => intro _ a ha; cases ha
      | cons c l ih =>
        intro hd a ha b hb hab
        rw [List.map_cons, List.nodup_cons] at hd
        rw [List.mem_cons] at ha hb
        rcases ha with rfl | ha <;> rcases hb with rfl | hb
        · rfl
        · exact absurd (List.mem_map.2 ⟨b, hb, hab.symm⟩) hd.1
        · exact absurd (List.mem_map.2 ⟨a, ha, hab⟩) hd.1
        · exact ih hd.2 a ha b hb hab
    exact inj ss hn s hs.1 s' h1.1 (by rw [e, h2])
  subst this
  exact n2 n1
end Go.Proofs.Ytgngaimbpnlkjaa

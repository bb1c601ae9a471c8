/- Plain facts of entries: who waits, in the order in which they came, by their turns. -/
import Derived.Test.YtgngaimbpnlkjaaMd14
import Derived.Test.YtgngaimbpnlkjaaGd14
import Derived.Test.YtgngaimbpnlkjaaOth14
namespace Go.Proofs.Ytgngaimbpnlkjaa
set_option linter.unusedVariables false

/-- the seats of entries -/
def seats (es : List En) : List Sx := es.map En.s
/-- entries in the order of their turns, none beyond the last one -/
structure FineE (came : Nat) (es : List En) : Prop where
  rise : es.Pairwise (fun a b => a.n < b.n)
  top : ∀ e ∈ es, e.n ≤ came
theorem fine_nil (n : Nat) : FineE n [] := ⟨List.Pairwise.nil, fun _ h => (by cases h)⟩
theorem FineE.sub {came : Nat} {es fs : List En} (h : FineE came es) (s : fs.Sublist es) : FineE came fs := ⟨h.rise.sublist s, fun e he => h.top e (s.subset he)⟩
theorem FineE.add {came : Nat} {es : List En} (h : FineE came es) (s : Sx) : FineE (came + 1) (es ++ [⟨s, came + 1⟩]) := by
  refine ⟨?_, fun e he => ?_⟩
  · rw [List.pairwise_append]
    refine ⟨h.rise, List.pairwise_singleton _ _, fun a ha b hb => ?_⟩
    rw [List.mem_singleton.1 hb]
    have := h.top a ha
    show a.n < came + 1
    omega
  · rcases List.mem_append.1 he with he | he
    · have := h.top e he; omega
    · rw [List.mem_singleton.1 he]; exact Nat.le_refl _
theorem has_seats (es : List En) (x : Wt) : hasE es x = waitsB (seats es) x := by
  unfold hasE waitsB seats
  rw [List.any_map]
  rfl
theorem once_of {es : List En} (h : ((seats es).map Sx.w).Nodup) : OnceE es := by
  unfold OnceE
  unfold seats List.Nodup at h
  rw [List.pairwise_map, List.pairwise_map] at h
  exact h
theorem seats_filter (es : List En) (f : Sx → Bool) : seats (es.filter (fun e => f e.s)) = (seats es).filter f := by
  unfold seats
  rw [List.filter_map]
  rfl
theorem seats_len (es : List En) : (seats es).length = es.length := List.length_map _
/-- who waits for a ticket -/
def ofE (es : List En) (t : Int) : List En := es.filter (fun e => decide (e.s.t = t))
theorem ofE_seats (es : List En) (t : Int) : (ofE es t).map (fun e => e.s.w) = ofL (seats es) t := by
  unfold ofE ofL
  rw [← seats_filter es (fun s => decide (s.t = t))]
  unfold seats
  rw [List.map_map]
  rfl
/-- a row of waiters that are those of rising entries, in the order of their turns: is those -/
theorem sorted_of {came : Nat} {es fs : List En} {ws : List Wt} (o : OnceE es) (r : FineE came es) (s : fs.Sublist es) (hn : ws.Nodup) (hm : ∀ x, x ∈ ws ↔ ∃ e ∈ fs, e.s.w = x) (hs : ws.Pairwise (fun x y => ¬ (turn es y < turn es x))) : ws = fs.map (fun e => e.s.w) := by
  have tn : ∀ e ∈ fs, turn es e.s.w = e.n := fun e he => turn_of o (s.subset he)
  have inj : ∀ x ∈ ws, ∀ y ∈ ws, turn es x = turn es y → x = y := by
    intro x hx y hy k
    obtain ⟨e, he, rfl⟩ := (hm x).1 hx
    obtain ⟨f, hf, rfl⟩ := (hm y).1 hy
    rw [tn e he, tn f hf] at k
    have : ∀ {l : List En}, l.Pairwise (fun a b => a.n < b.n) → e ∈ l → f ∈ l → e = f := by
      intro l
      induction l with
      | nil => intro _ h; cases h
      | cons z l ih =>
        intro hp h1 h2
        obtain ⟨p1, p2⟩ := List.pairwise_cons.1 hp
        rcases List.mem_cons.1 h1 with q1 | q1
        · rcases List.mem_cons.1 h2 with q2 | q2
          · rw [q1, q2]
          · have := p1 f q2; rw [← q1] at this; omega
        · rcases List.mem_cons.1 h2 with q2 | q2
          · have := p1 e q1; rw [← q2] at this; omega
          · exact ih p2 q1 q2
    rw [this r.rise (s.subset he) (s.subset hf)]
  have h1 : ws.Pairwise (fun x y => turn es x < turn es y) := by
    refine List.Pairwise.imp_of_mem (R := fun x y => x ≠ y ∧ ¬ (turn es y < turn es x)) ?_ (hn.and hs)
    intro x y hx hy ⟨ne, k⟩
    rcases Nat.lt_or_ge (turn es x) (turn es y) with q | q
    · exact q
    · exact absurd (inj x hx y hy (by omega)) ne
  have h2 : (fs.map (fun e => e.s.w)).Pairwise (fun x y => turn es x < turn es y) := by
    rw [List.pairwise_map]
    refine List.Pairwise.imp_of_mem ?_ (r.rise.sublist s)
    intro a b ha hb k
    rw [tn a ha, tn b hb]
    exact k
  have uni : ∀ {l l' : List Wt}, l.Pairwise (fun x y => turn es x < turn es y) → l'.Pairwise (fun x y => turn es x < turn es y) → (∀ x, x ∈ l ↔ x ∈ l') → l = l' := by
    intro l
    induction l with
    | nil =>
      intro l' _ _ h
      cases l' with
      | nil => rfl
      | cons b r' => have := (h b).2 (by simp); cases this
    | cons a r ih =>
      intro l' hl hl' h
      cases l' with
      | nil => have := (h a).1 (by simp); cases this
      | cons b r' =>
        obtain ⟨h1, h2⟩ := List.pairwise_cons.1 hl
        obtain ⟨h3, h4⟩ := List.pairwise_cons.1 hl'
        have e : a = b := by
          rcases List.mem_cons.1 ((h a).1 (by simp)) with q | q
          · exact q
          · rcases List.mem_cons.1 ((h b).2 (by simp)) with k | k
            · exact k.symm
            · have := h3 a q
              have := h1 b k
              omega
        subst e
        congr 1
        refine ih h2 h4 (fun x => ⟨fun hx => ?_, fun hx => ?_⟩)
        · rcases List.mem_cons.1 ((h x).1 (by simp [hx])) with q | q
          · have := h1 x hx; rw [q] at this; omega
          · exact q
        · rcases List.mem_cons.1 ((h x).2 (by simp [hx])) with q | q
          · have := h3 x hx; rw [q] at this; omega
          · exact q
  refine uni h1 h2 (fun x => ?_)
  rw [hm x]
  constructor
  · rintro ⟨e, he, rfl⟩; exact List.mem_map.2 ⟨e, he, rfl⟩
  · intro h; obtain ⟨e, he, k⟩ := List.mem_map.1 h; exact ⟨e, he, k⟩
end Go.Proofs.Ytgngaimbpnlkjaa

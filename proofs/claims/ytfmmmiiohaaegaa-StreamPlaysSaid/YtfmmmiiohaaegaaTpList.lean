/- A table of what is expected: all entries are told. -/
import Derived.Test.YtfmmmiiohaaegaaTpSort
namespace Go.Proofs.Ytfmmmiiohaaegaa
open Go.RowKit Go.Maps Go.Sort Go.Shelf
set_option linter.unusedVariables false

theorem Owns.notMap {α : Type} {w : World} {base : Nat} {e : TypeId} {k : Nat} {c : α → List Value} {v : Value} {xs : List α} (h : Owns w base e k c v xs) {b n : Nat} {D : DataW Unit} (o : w.ownsMap Try.prog 3 (plainElem Try.prog 3) b n D) : some b ≠ v.ownBlock := by
  intro q
  obtain ⟨es, clock, hb, _⟩ := o
  rcases h.2 with ⟨rfl, _⟩ | ⟨g, cap, cur, rfl, _, hg, _⟩
  · cases q
  · have : b = g := by simpa [Value.ownBlock] using q
    subst this
    rw [hb] at hg
    cases hg
theorem Owns.notIter {α : Type} {w : World} {base : Nat} {e : TypeId} {k : Nat} {c : α → List Value} {v : Value} {xs : List α} (h : Owns w base e k c v xs) {b r n cnt : Nat} {D : DataW Unit} {left : Lit → Bool} (o : w.ranges Try.prog 3 (plainElem Try.prog 3) b r n D left cnt) : some r ≠ v.ownBlock := by
  intro q
  obtain ⟨_, _, _, _, _, _, _, _, _, hit, _⟩ := o
  rcases h.2 with ⟨rfl, _⟩ | ⟨g, cap, cur, rfl, _, hg, _⟩
  · cases q
  · have : r = g := by simpa [Value.ownBlock] using q
    subst this
    rw [hit] at hg
    cases hg

/-- append of one element, which lies at the head of a block: just the slice's own row may turn -/
theorem wpList_append_one8 {α : Type} {P : Program} {w : World} {ops : Array Oper} {rest : List Oper} {o : Oper} {a : Act} {Q : Exit → Act → World → Prop} (hgd : o.guard = none) (s x : Operand) (t : TypeId)
    (ho : o.op = .call { callee := .builtin .append, args := #[s, x], argTypes := #[t, t] })
    {base : Nat} {e : TypeId} {k : Nat} {c : α → List Value} (i : TypeInfo) (z : Value) (bytes : Nat) (ht : P.underlying t = some (.slice e)) (hi : P.info? e = some i) (hz : i.zero = some z)
    (hsize : i.size = k) (hby : i.bytes = bytes) (hzs : z.cells.size = k) (hk0 : 0 < k) (hk : ∀ y, (c y).length = k) (h1 : ∀ y, ∀ u ∈ c y, u.oneCell' = true)
    {v : Value} {xs : List α} (hs : a.eval s = v) (hown : Owns w base e k c v xs)
    {g cc : Nat} {y : α} (hx : a.eval x = .slice (some ⟨g, 0, none⟩) 1 cc) (hrow : Row w g e (c y).toArray)
    (hlen : xs.length < 9223372036854775807) (hbytes : (xs.length + 1) * bytes ≤ 140737488355328) (hbase : base ≤ w.heap.size)
    (h : ∀ v' w', Owns w' base e k c v' (xs ++ [y]) → Only (fun j => some j = v.ownBlock) w w' → wpList P ops Q rest (a.put o.dst v') w') : wpList P ops Q (o :: rest) a w := by
  refine wpList_append_own w hgd s x t ho base e i z k bytes ht hi hz hsize hby hzs hk0 v xs.length (xs.flatMap c) hs hown ⟨g, 0, none⟩ 1 cc (c y) hx (by rw [hk]; omega) ?_ (h1 y) (by unfold maxLen; omega) hbytes hbase ?_
  · intro j u hj
    have : (Addr.mk g 0 none).add j = ⟨g, j, none⟩ := by
      unfold Addr.add
      split
      · rename_i q; rw [q]
      · simp
    rw [this, hrow.cell, List.getElem?_toArray]
    exact hj
  · intro v' w' h2 h3 _
    refine h v' w' ?_ (Only.of_grown h3)
    unfold Owns
    rw [List.flatMap_append, List.length_append]
    simpa using h2

theorem en_one : ∀ y : En, ∀ u ∈ y.cells, u.oneCell' = true := fun y u hu => by
  simp [En.cells] at hu
  rcases hu with rfl | rfl <;> rfl
theorem info_en : (Try.prog.info? 83).map (fun i => (i.zero, i.size, i.bytes)) = some (some (.agg #[.int .i64 0, .int .i64 0]), 2, 16) := by kernel_rfl

/-- what has been told while the range is under way -/
def Got (es : List En) (left : Lit → Bool) (xs : List En) : Prop := xs.Nodup ∧ ∀ e, e ∈ xs ↔ e ∈ es ∧ left (.int .i64 e.next) = false
theorem Got.start {D : DataW Unit} {L : Int} {es : List En} (h : Reads8 D L es) : Got es (has D) [] := by
  refine ⟨List.Pairwise.nil, fun e => ⟨fun q => (by cases q), fun ⟨he, q⟩ => ?_⟩⟩
  rw [h.1, hasE_iff.2 ⟨e, he, rfl⟩] at q
  cases q
theorem Got.step {es xs : List En} {left : Lit → Bool} {e : En} (h : Got es left xs) (hn : es.Pairwise (fun a b => a.next ≠ b.next)) (he : e ∈ es) (hl : left (.int .i64 e.next) = true) : Got es (strike left e.next) (xs ++ [e]) := by
  refine ⟨?_, fun a => ?_⟩
  · unfold List.Nodup
    rw [List.pairwise_append]
    refine ⟨h.1, List.pairwise_singleton _ _, fun a ha b hb q => ?_⟩
    have : b = e := by simpa using hb
    subst this
    subst q
    have := ((h.2 _).1 ha).2
    rw [hl] at this
    cases this
  · rw [List.mem_append, h.2 a]
    simp only [strike, key_eq, List.mem_singleton]
    constructor
    · rintro (⟨ha, q⟩ | rfl)
      · exact ⟨ha, by rw [q]; rfl⟩
      · exact ⟨he, by simp⟩
    · rintro ⟨ha, q⟩
      by_cases k : a.next = e.next
      · exact .inr (next_inj hn ha he k)
      · have kf : (a.next == e.next) = false := by simp [k]
        rw [kf] at q
        simp at q
        exact .inl ⟨ha, q⟩
theorem Got.len {es xs : List En} {left : Lit → Bool} (h : Got es left xs) : xs.length ≤ es.length := sub_len _ _ h.1 (fun x hx => ((h.2 x).1 hx).1)
theorem Got.over {es xs : List En} {left : Lit → Bool} (h : Got es left xs) (hl : ∀ kl, left kl = false) : ∀ e, e ∈ xs ↔ e ∈ es := fun e => by
  rw [h.2 e, hl]
  simp
theorem Got.all {es xs : List En} {left : Lit → Bool} (h : Got es left xs) (hl : ∀ kl, left kl = false) (hn : es.Nodup) : xs.length = es.length := same_len h.1 hn (h.over hl)
theorem en_nodup {es : List En} (h : es.Pairwise (fun a b => a.next ≠ b.next)) : es.Nodup := h.imp (fun k q => k (by rw [q]))

/-- a slice of the call's own can be sorted -/
theorem holdsK_of {w : World} {base g cap : Nat} {xs : List En} (h : Owns w base 83 2 En.cells (.slice (some ⟨g, 0, none⟩) xs.length cap) xs) : HoldsK En.cells 2 w g 0 xs.toArray := by
  intro j hj
  rw [size_flatK] at hj
  have hl : j / 2 < xs.length := by simp at hj; omega
  have hc := Owns.cell h en2 (List.getElem?_eq_getElem hl) (j := j % 2) (by omega)
  rw [show j / 2 * 2 + j % 2 = j by omega] at hc
  refine ⟨?_, h.frozen _⟩
  rw [Nat.zero_add, hc, get_flatK _ _ _ _ hj]
  have e1 : xs.toArray[j / 2]! = xs[j / 2] := by
    rw [getElem!_pos xs.toArray (j / 2) (by simpa using hl)]
    simp
  rw [e1]
  have h2 : j % 2 < (En.cells xs[j / 2]).length := by rw [en2]; omega
  rw [List.getElem?_eq_getElem h2, getElem!_pos (En.cells xs[j / 2]) (j % 2) h2]
  rfl

def Told8 (es : List En) (w : World) (e : Ending) (w' : World) : Prop := ∃ A cap, e = .returned (.slice A es.length cap) ∧ Holds w' A 2 En.cells es ∧ (∀ a, A = some a → w.heap.size ≤ a.block) ∧ Only none_ w w'

theorem sortEn_any {w : World} {base g cap : Nat} {xs es : List En} (h : Owns w base 83 2 En.cells (.slice (some ⟨g, 0, none⟩) xs.length cap) xs) (hr : es.Pairwise (fun a b => a.age < b.age)) (hn : xs.Nodup) (hm : ∀ e, e ∈ xs ↔ e ∈ es) (hs : xs.length ≤ 64) :
    Calls Try.prog 54 #[.slice (some ⟨g, 0, none⟩) xs.length cap, .func (.func 55) #[] #[]] w fun e w' => e = .returned (.tuple #[]) ∧ Holds w' (some ⟨g, 0, none⟩) 2 En.cells es ∧ Only (fun k => k = g) w w' := by
  have eg : ∀ args w, (callFunc 55 args).run Try.prog w = .ok (.enter 55 args) w := enters_of Try.func55 (by kernel_rfl) rfl
  have hg : g < w.heap.size := (h.base_le rfl).2
  have hH := holdsK_of h
  have lays : Go.Proofs.CmpLays Try.prog 55 #[] En.cells 2 byAge g 0 xs.toArray.size w := fun _ _ _ _ x y => younger_any x y _
  have hc := Go.Proofs.AnyQ.slices_SortFunc Try.sortEn 2 Try.isAgg83 Try.sizeOf83 En.cells en2 en_one byAge swo_age 55 #[] g 0 cap xs.toArray w eg lays hH hg (by simp; omega)
  rw [List.size_toArray] at hc
  refine Calls.mono hc ?_
  rintro e w' ⟨rfl, d, n, os, hp, hs2, rfl⟩
  have e2 : d.toList = es := sorted_is hr hn hm hp hs2
  refine ⟨rfl, ?_, only_sorted d⟩
  intro i a hi
  refine ⟨g, 0, rfl, Nat.lt_of_lt_of_le hg (Go.Proofs.size_sortWorldK_c En.cells 2 w g 0 n d os), fun j v hv => ?_⟩
  have hsz : d.size = xs.toArray.size := hp.1
  have hK := Go.Proofs.holdsK_sortWorldK_c En.cells 2 w g 0 xs.toArray d n os hH hg hsz
  have hid : i < d.size := by rw [← Array.length_toList, e2]; exact lt_of_get hi
  have hj : j < 2 := by have := lt_of_get hv; rw [en2] at this; exact this
  have := (HoldsK.cell hK hid hj).1
  rw [Nat.zero_add] at this
  rw [Nat.zero_add, this]
  have e3 : d[i]! = a := by
    rw [getElem!_pos d i hid, ← Array.getElem_toList]
    simp only [e2]
    have := List.getElem?_eq_getElem (lt_of_get hi)
    rw [hi] at this
    exact (Option.some.inj this).symm
  rw [e3]
  have h2 : j < a.cells.length := by rw [en2]; exact hj
  rw [getElem!_pos a.cells j h2, ← List.getElem?_eq_getElem h2, hv]
end Go.Proofs.Ytfmmmiiohaaegaa

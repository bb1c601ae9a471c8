/- A shelf told by two lists, and the nodes in which it lies as two rings. -/
import Derived.Test.YtpmhpamajkhhiaaRg
namespace Go.Proofs.Ytpmhpamajkhhiaa
open Go.RowKit
set_option linter.unusedVariables false

def aF (ns : List Nd) : Nat → Nat := fun j => (nd ns j).ahead
def bF (ns : List Nd) : Nat → Nat := fun j => (nd ns j).behind

theorem nd_upA {ns : List Nd} {i x : Nat} (h : i < ns.length) (j : Nat) : nd (upA ns i x) j = if j = i then { nd ns i with ahead := x } else nd ns j := nd_set h _ j
theorem nd_upB {ns : List Nd} {i x : Nat} (h : i < ns.length) (j : Nat) : nd (upB ns i x) j = if j = i then { nd ns i with behind := x } else nd ns j := nd_set h _ j
theorem nd_upL {ns : List Nd} {i : Nat} {k : Int} (h : i < ns.length) (j : Nat) : nd (upL ns i k) j = if j = i then { nd ns i with lst := k } else nd ns j := nd_set h _ j
theorem nd_upH {ns : List Nd} {i : Nat} {b : Bool} (h : i < ns.length) (j : Nat) : nd (upH ns i b) j = if j = i then { nd ns i with held := b } else nd ns j := nd_set h _ j
theorem len_upA (ns : List Nd) (i x : Nat) : (upA ns i x).length = ns.length := by simp [upA]
theorem len_upB (ns : List Nd) (i x : Nat) : (upB ns i x).length = ns.length := by simp [upB]
theorem len_upL (ns : List Nd) (i : Nat) (k : Int) : (upL ns i k).length = ns.length := by simp [upL]
theorem len_upH (ns : List Nd) (i : Nat) (b : Bool) : (upH ns i b).length = ns.length := by simp [upH]
theorem len_lift (ns : List Nd) (i : Nat) : (liftN ns i).length = ns.length := by simp [liftN, len_upA, len_upB]
theorem len_lay (ns : List Nd) (i e : Nat) : (layN ns i e).length = ns.length := by simp [layN, len_upA, len_upB]

section
variable {ns : List Nd} {i x : Nat}
theorem upA_a (h : i < ns.length) (j : Nat) : (nd (upA ns i x) j).ahead = if j = i then x else (nd ns j).ahead := by
  rw [nd_upA h]; split <;> rfl
theorem upA_b (h : i < ns.length) (j : Nat) : (nd (upA ns i x) j).behind = (nd ns j).behind := by
  rw [nd_upA h]
  split
  · rename_i e; rw [e]
  · rfl
theorem upA_t (h : i < ns.length) (j : Nat) : (nd (upA ns i x) j).lst = (nd ns j).lst ∧ (nd (upA ns i x) j).held = (nd ns j).held := by
  rw [nd_upA h]
  split
  · rename_i e; rw [e]; exact ⟨rfl, rfl⟩
  · exact ⟨rfl, rfl⟩
theorem upB_b (h : i < ns.length) (j : Nat) : (nd (upB ns i x) j).behind = if j = i then x else (nd ns j).behind := by
  rw [nd_upB h]; split <;> rfl
theorem upB_a (h : i < ns.length) (j : Nat) : (nd (upB ns i x) j).ahead = (nd ns j).ahead := by
  rw [nd_upB h]
  split
  · rename_i e; rw [e]
  · rfl
theorem upB_t (h : i < ns.length) (j : Nat) : (nd (upB ns i x) j).lst = (nd ns j).lst ∧ (nd (upB ns i x) j).held = (nd ns j).held := by
  rw [nd_upB h]
  split
  · rename_i e; rw [e]; exact ⟨rfl, rfl⟩
  · exact ⟨rfl, rfl⟩
theorem lift_a (hi : i < ns.length) (hA : aF ns i < ns.length) (hB : bF ns i < ns.length) (j : Nat) :
    aF (liftN ns i) j = if j = i then i else if j = bF ns i then aF ns i else aF ns j := by
  unfold liftN aF bF at *
  simp only [upA_a, upB_a, len_upA, len_upB, hi, hA, hB]
theorem lift_b (hi : i < ns.length) (hA : aF ns i < ns.length) (hB : bF ns i < ns.length) (j : Nat) :
    bF (liftN ns i) j = if j = i then i else if j = aF ns i then bF ns i else bF ns j := by
  unfold liftN aF bF at *
  simp only [upA_b, upB_b, len_upA, len_upB, hi, hA, hB]
theorem lift_t (hi : i < ns.length) (hA : aF ns i < ns.length) (hB : bF ns i < ns.length) (j : Nat) :
    (nd (liftN ns i) j).lst = (nd ns j).lst ∧ (nd (liftN ns i) j).held = (nd ns j).held := by
  unfold liftN aF bF at *
  constructor <;> simp only [(upA_t _ _).1, (upA_t _ _).2, (upB_t _ _).1, (upB_t _ _).2, len_upA, len_upB, hi, hA, hB]
theorem lay_a {e : Nat} (hi : i < ns.length) (he : e < ns.length) (hB : bF ns e < ns.length) (j : Nat) :
    aF (layN ns i e) j = if j = bF ns e then i else if j = i then e else aF ns j := by
  unfold layN aF bF at *
  simp only [upA_a, upB_a, len_upA, len_upB, hi, he, hB]
theorem lay_b {e : Nat} (hi : i < ns.length) (he : e < ns.length) (hB : bF ns e < ns.length) (j : Nat) :
    bF (layN ns i e) j = if j = e then i else if j = i then bF ns e else bF ns j := by
  unfold layN bF at *
  simp only [upA_b, upB_b, len_upA, len_upB, hi, he, hB]
theorem lay_t {e : Nat} (hi : i < ns.length) (he : e < ns.length) (hB : bF ns e < ns.length) (j : Nat) :
    (nd (layN ns i e) j).lst = (nd ns j).lst ∧ (nd (layN ns i e) j).held = (nd ns j).held := by
  unfold layN bF at *
  constructor <;> simp only [(upA_t _ _).1, (upA_t _ _).2, (upB_t _ _).1, (upB_t _ _).2, len_upA, len_upB, hi, he, hB]
end

theorem nodup_rev {e : Nat} {l : List Nat} (h : (e :: l).Nodup) : (e :: l.reverse).Nodup := by
  rw [List.nodup_cons] at h ⊢
  exact ⟨fun k => h.1 (List.mem_reverse.1 k), List.nodup_iff_pairwise_ne.2 (by rw [List.pairwise_reverse]; exact (List.nodup_iff_pairwise_ne.1 h.2).imp (fun a => Ne.symm a))⟩
/-- a list, and the node by which it begins and ends, are a ring -/
structure Ring (ns : List Nd) (e : Nat) (l : List Nat) : Prop where
  a : Path (aF ns) e l.reverse e
  b : Path (bF ns) e l e
  nodup : (e :: l).Nodup
  lt : ∀ i, i = e ∨ i ∈ l → i < ns.length

section
variable {ns : List Nd} {i e : Nat} {l p q : List Nat}
theorem Ring.at_ (h : Ring ns e l) {x : Nat} (hx : x = e ∨ x ∈ l) : (aF ns x = e ∨ aF ns x ∈ l) ∧ (bF ns x = e ∨ bF ns x ∈ l) := by
  rcases hx with rfl | hx
  · have h1 := h.a.first
    have h2 := h.b.first
    have m1 := firstOf_in x l.reverse
    have m2 := firstOf_in x l
    rw [h1, h2]
    rw [List.mem_reverse] at m1
    exact ⟨m1, m2⟩
  · obtain ⟨p, q, rfl⟩ := List.append_of_mem hx
    have h1 := h.a
    rw [List.reverse_append, List.reverse_cons, List.append_assoc, List.singleton_append, Path.split] at h1
    have h2 := Path.split.1 h.b
    have m1 := firstOf_in e p.reverse
    have m2 := firstOf_in e q
    rw [h1.2.first, h2.2.first]
    constructor
    · rcases m1 with m | m
      · exact .inl m
      · rw [List.mem_reverse] at m; exact .inr (by simp [m])
    · rcases m2 with m | m
      · exact .inl m
      · exact .inr (by simp [m])
/-- where its neighbours are -/
theorem Ring.mid (h : Ring ns e (p ++ i :: q)) : aF ns i = lastOf e p ∧ bF ns i = firstOf e q := by
  have h1 := h.a
  rw [List.reverse_append, List.reverse_cons, List.append_assoc, List.singleton_append, Path.split] at h1
  have h2 := Path.split.1 h.b
  exact ⟨h1.2.first.trans (firstOf_rev e p), h2.2.first⟩
theorem Ring.lift_own (h : Ring ns e (p ++ i :: q)) : Ring (liftN ns i) e (p ++ q) := by
  have hi : i < ns.length := h.lt i (by simp)
  have nb := h.at_ (x := i) (by simp)
  have hA := h.lt _ nb.1
  have hB := h.lt _ nb.2
  have md := h.mid
  have hn := h.nodup
  have hsub : (e :: (p ++ q)).Sublist (e :: (p ++ i :: q)) := (List.Sublist.append (List.Sublist.refl p) (List.sublist_cons_self i q)).cons_cons e
  have ni : i ∉ e :: (p ++ q) := by
    rw [List.nodup_cons, List.nodup_append, List.nodup_cons] at hn
    simp only [List.mem_cons, List.mem_append, not_or]
    refine ⟨?_, ?_, ?_⟩
    · rintro rfl; exact hn.1 (by simp)
    · intro hp; exact hn.2.2.2 i hp i (by simp) rfl
    · exact hn.2.2.1.1
  simp only [List.mem_cons, List.mem_append, not_or] at ni
  refine ⟨?_, ?_, hn.sublist hsub, fun j hj => ?_⟩
  · have h1 := h.a
    rw [List.reverse_append, List.reverse_cons, List.append_assoc, List.singleton_append] at h1
    rw [List.reverse_append]
    have hn' : (e :: (q.reverse ++ i :: p.reverse)).Nodup := by
      have : (q.reverse ++ i :: p.reverse) = (p ++ i :: q).reverse := by simp
      rw [this]
      exact nodup_rev hn
    refine h1.lift hn' (fun y hy hne => ?_) ?_
    · rw [lastOf_rev] at hne
      rw [lift_a hi hA hB, if_neg, if_neg]
      · rw [md.2]; exact hne
      · rintro rfl
        rcases hy with hy | hy
        · exact ni.1 hy
        · simp only [List.mem_append, List.mem_reverse] at hy
          rcases hy with hy | hy
          · exact ni.2.2 hy
          · exact ni.2.1 hy
    · rw [lastOf_rev, lift_a hi hA hB, if_neg, if_pos md.2.symm]
      intro e2
      have := firstOf_in e q
      rw [e2] at this
      rcases this with t | t
      · exact ni.1 t
      · exact ni.2.2 t
  · refine h.b.lift hn (fun y hy hne => ?_) ?_
    · rw [lift_b hi hA hB, if_neg, if_neg]
      · rw [md.1]; exact hne
      · rintro rfl
        rcases hy with hy | hy
        · exact ni.1 hy
        · simp only [List.mem_append] at hy
          rcases hy with hy | hy
          · exact ni.2.1 hy
          · exact ni.2.2 hy
    · rw [lift_b hi hA hB, if_neg, if_pos md.1.symm]
      intro e2
      have := lastOf_in e p
      rw [e2] at this
      rcases this with t | t
      · exact ni.1 t
      · exact ni.2.1 t
  · rw [len_lift]
    exact h.lt j (by rcases hj with rfl | hj; exact .inl rfl; right; simp only [List.mem_append, List.mem_cons] at hj ⊢; rcases hj with hj | hj <;> simp [hj])
/-- a ring of others -/
theorem Ring.lift_far (h : Ring ns e l) (hi : i < ns.length) (hA : aF ns i < ns.length) (hB : bF ns i < ns.length) (h1 : ∀ y, y = e ∨ y ∈ l → y ≠ i ∧ (aF ns i = y → aF ns i = i) ∧ (bF ns i = y → bF ns i = i)) : Ring (liftN ns i) e l := by
  have h2 : ∀ y, y = e ∨ y ∈ l → y ≠ i ∧ y ≠ aF ns i ∧ y ≠ bF ns i := fun y hy => by
    obtain ⟨a, b, c⟩ := h1 y hy
    exact ⟨a, fun e2 => a (e2.trans (b e2.symm)), fun e2 => a (e2.trans (c e2.symm))⟩
  refine ⟨h.a.congr (fun y hy => ?_), h.b.congr (fun y hy => ?_), h.nodup, fun j hj => by rw [len_lift]; exact h.lt j hj⟩
  · have := h2 y (by simpa using hy)
    rw [lift_a hi hA hB, if_neg this.1, if_neg this.2.2]
  · have := h2 y hy
    rw [lift_b hi hA hB, if_neg this.1, if_neg this.2.1]
theorem lift_self (hi : i < ns.length) (hA : aF ns i < ns.length) (hB : bF ns i < ns.length) : aF (liftN ns i) i = i ∧ bF (liftN ns i) i = i := by
  rw [lift_a hi hA hB, lift_b hi hA hB, if_pos rfl, if_pos rfl]
  exact ⟨rfl, rfl⟩
theorem Ring.lay_own (h : Ring ns e l) (hi : i < ns.length) (ni : i ∉ e :: l) : Ring (layN ns i e) e (i :: l) := by
  have he := h.lt e (.inl rfl)
  have nb := h.at_ (x := e) (.inl rfl)
  have hB := h.lt _ nb.2
  have hb := h.b.first
  have hn := h.nodup
  simp only [List.mem_cons, not_or] at ni
  have nB : ¬ i = bF ns e := by
    intro e2
    rw [← e2] at nb
    rcases nb.2 with t | t
    · exact ni.1 t
    · exact ni.2 t
  have hn1 := List.nodup_cons.1 hn
  refine ⟨?_, ?_, ?_, fun j hj => ?_⟩
  · rw [List.reverse_cons]
    refine h.a.back ?_ ni.1 (by simpa using ni.2) ?_ ?_ ?_
    · exact nodup_rev hn
    · rw [lastOf_rev, lay_a hi he hB, if_pos hb.symm]
    · rw [lay_a hi he hB, if_neg nB, if_pos rfl]
    · intro y hy hne
      rw [lastOf_rev] at hne
      rw [lay_a hi he hB, if_neg (by rw [hb]; exact hne), if_neg]
      rintro rfl
      rcases hy with hy | hy
      · exact ni.1 hy
      · exact ni.2 (by simpa using hy)
  · refine h.b.front ni.1 ni.2 ?_ ?_ (fun y hy => ?_) hn1.1
    · rw [lay_b hi he hB, if_pos rfl]
    · rw [lay_b hi he hB, if_neg ni.1, if_pos rfl]
    · rw [lay_b hi he hB, if_neg (fun e2 : y = e => hn1.1 (e2 ▸ hy)), if_neg (fun e2 : y = i => ni.2 (e2 ▸ hy))]
  · rw [List.nodup_cons, List.nodup_cons]
    refine ⟨?_, ni.2, hn1.2⟩
    rw [List.mem_cons, not_or]
    exact ⟨fun e2 => ni.1 e2.symm, hn1.1⟩
  · rw [len_lay]
    rcases hj with rfl | hj
    · exact he
    · rcases List.mem_cons.1 hj with rfl | hj
      · exact hi
      · exact h.lt j (.inr hj)
theorem Ring.lay_far {e' : Nat} {l' : List Nat} (h : Ring ns e l) (h' : Ring ns e' l') (hi : i < ns.length) (ni : i ∉ e' :: l') (hd : ∀ y, y = e ∨ y ∈ l → ¬ (y = e' ∨ y ∈ l')) : Ring (layN ns i e) e' l' := by
  have he := h.lt e (.inl rfl)
  have nb := h.at_ (x := e) (.inl rfl)
  have hB := h.lt _ nb.2
  simp only [List.mem_cons, not_or] at ni
  have h2 : ∀ y, y = e' ∨ y ∈ l' → y ≠ i ∧ y ≠ e ∧ y ≠ bF ns e := fun y hy => by
    refine ⟨?_, fun e2 => hd e (.inl rfl) (e2 ▸ hy), fun e2 => hd _ nb.2 (e2 ▸ hy)⟩
    rintro rfl
    rcases hy with t | t
    · exact ni.1 t
    · exact ni.2 t
  refine ⟨h'.a.congr (fun y hy => ?_), h'.b.congr (fun y hy => ?_), h'.nodup, fun j hj => by rw [len_lay]; exact h'.lt j hj⟩
  · have := h2 y (by simpa using hy)
    rw [lay_a hi he hB, if_neg this.2.2, if_neg this.1]
  · have := h2 y hy
    rw [lay_b hi he hB, if_neg this.2.1, if_neg this.1]
end
end Go.Proofs.Ytpmhpamajkhhiaa

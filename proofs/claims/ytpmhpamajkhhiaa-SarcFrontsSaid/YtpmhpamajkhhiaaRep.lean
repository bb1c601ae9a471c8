/- What each change of the nodes makes of the shelf that lies in them. -/
import Derived.Test.YtpmhpamajkhhiaaSh
namespace Go.Proofs.Ytpmhpamajkhhiaa
open Go.RowKit
set_option linter.unusedVariables false

theorem aF_upL {ns : List Nd} {i : Nat} {k : Int} (h : i < ns.length) (j : Nat) : aF (upL ns i k) j = aF ns j := by
  unfold aF; rw [nd_upL h]; split
  · rename_i e; rw [e]
  · rfl
theorem bF_upL {ns : List Nd} {i : Nat} {k : Int} (h : i < ns.length) (j : Nat) : bF (upL ns i k) j = bF ns j := by
  unfold bF; rw [nd_upL h]; split
  · rename_i e; rw [e]
  · rfl
theorem aF_upH {ns : List Nd} {i : Nat} {k : Bool} (h : i < ns.length) (j : Nat) : aF (upH ns i k) j = aF ns j := by
  unfold aF; rw [nd_upH h]; split
  · rename_i e; rw [e]
  · rfl
theorem bF_upH {ns : List Nd} {i : Nat} {k : Bool} (h : i < ns.length) (j : Nat) : bF (upH ns i k) j = bF ns j := by
  unfold bF; rw [nd_upH h]; split
  · rename_i e; rw [e]
  · rfl
theorem upL_t {ns : List Nd} {i : Nat} {k : Int} (h : i < ns.length) (j : Nat) : (nd (upL ns i k) j).lst = (if j = i then k else (nd ns j).lst) ∧ (nd (upL ns i k) j).held = (nd ns j).held := by
  rw [nd_upL h]; split
  · rename_i e; rw [e]; exact ⟨rfl, rfl⟩
  · exact ⟨rfl, rfl⟩
theorem upH_t {ns : List Nd} {i : Nat} {k : Bool} (h : i < ns.length) (j : Nat) : (nd (upH ns i k) j).lst = (nd ns j).lst ∧ (nd (upH ns i k) j).held = if j = i then k else (nd ns j).held := by
  rw [nd_upH h]; split
  · rename_i e; rw [e]; exact ⟨rfl, rfl⟩
  · exact ⟨rfl, rfl⟩
theorem set_h {hs : List Bool} {i : Nat} (h : i < hs.length) (b : Bool) (j : Nat) : (hs.set i b).getD j false = if j = i then b else hs.getD j false := by
  rw [List.getD_eq_getElem?_getD, List.getD_eq_getElem?_getD, List.getElem?_set]
  by_cases c : j = i
  · subst c; simp [h]
  · rw [if_neg c, if_neg (fun e => c e.symm)]

variable {s : Sh} {ns : List Nd} {i : Nat}

theorem Rep.lenAt (h : Rep s ns) (hi : i < s.n) : i < ns.length := by rw [h.links.len]; omega
theorem mem_erase' {l : List Nat} (h : l.Nodup) {i j : Nat} (hne : j ≠ i) : j ∈ l.erase i ↔ j ∈ l := by
  rw [h.mem_erase_iff]
  exact ⟨fun k => k.2, fun k => ⟨hne, k⟩⟩

theorem Rep.front0 (f : s.Fine) (h : Rep s ns) (hi : i < s.n) : Rep (s.front 0 i) (upL (layN (liftN ns i) i s.n) i 0) ∧ aF ns i < ns.length ∧ bF ns i < ns.length ∧ bF (liftN ns i) s.n < ns.length := by
  obtain ⟨ho, hA, hB⟩ := h.links.out hi
  have ne := f.not_erase i
  obtain ⟨hl, hC⟩ := ho.lay0 hi ne.1 ne.2
  have il := h.lenAt hi
  have il2 : i < (liftN ns i).length := by rw [len_lift]; exact il
  have il3 : i < (layN (liftN ns i) i s.n).length := by rw [len_lay, len_lift]; exact il
  have el : s.n < (liftN ns i).length := by rw [len_lift, h.links.len]; omega
  refine ⟨⟨hl.tag (len_upL _ _ _) (aF_upL il3) (bF_upL il3), fun j hj => ?_, fun j hj => ?_, ?_⟩, hA, hB, by rw [len_lift] at hC; exact hC⟩
  · rw [(upL_t il3 j).1]
    unfold Sh.lst
    by_cases c : j = i
    · subst c
      simp [Sh.front]
    · rw [if_neg c, (lay_t il2 el hC j).1, (lift_t il hA hB j).1, h.lst j hj]
      unfold Sh.lst Sh.front
      simp only [if_true, List.mem_cons, c, false_or, mem_erase' f.nd0 c, mem_erase' f.nd1 c]
  · rw [(upL_t il3 j).2, (lay_t il2 el hC j).2, (lift_t il hA hB j).2, h.held j hj]
    rfl
  · constructor <;> rw [(upL_t il3 _).2, (lay_t il2 el hC _).2, (lift_t il hA hB _).2]
    · exact h.end_.1
    · exact h.end_.2
theorem Rep.front1 (f : s.Fine) (h : Rep s ns) (hi : i < s.n) : Rep (s.front 1 i) (upL (layN (liftN ns i) i (s.n + 1)) i 1) ∧ aF ns i < ns.length ∧ bF ns i < ns.length ∧ bF (liftN ns i) (s.n + 1) < ns.length := by
  obtain ⟨ho, hA, hB⟩ := h.links.out hi
  have ne := f.not_erase i
  obtain ⟨hl, hC⟩ := ho.lay1 hi ne.1 ne.2
  have il := h.lenAt hi
  have il2 : i < (liftN ns i).length := by rw [len_lift]; exact il
  have il3 : i < (layN (liftN ns i) i (s.n + 1)).length := by rw [len_lay, len_lift]; exact il
  have el : s.n + 1 < (liftN ns i).length := by rw [len_lift, h.links.len]; omega
  refine ⟨⟨hl.tag (len_upL _ _ _) (aF_upL il3) (bF_upL il3), fun j hj => ?_, fun j hj => ?_, ?_⟩, hA, hB, by rw [len_lift] at hC; exact hC⟩
  · rw [(upL_t il3 j).1]
    unfold Sh.lst
    by_cases c : j = i
    · subst c
      simp [Sh.front, ne.1]
    · rw [if_neg c, (lay_t il2 el hC j).1, (lift_t il hA hB j).1, h.lst j hj]
      unfold Sh.lst Sh.front
      simp only [Nat.one_ne_zero, if_false, List.mem_cons, c, false_or, mem_erase' f.nd0 c, mem_erase' f.nd1 c]
  · rw [(upL_t il3 j).2, (lay_t il2 el hC j).2, (lift_t il hA hB j).2, h.held j hj]
    rfl
  · constructor <;> rw [(upL_t il3 _).2, (lay_t il2 el hC _).2, (lift_t il hA hB _).2]
    · exact h.end_.1
    · exact h.end_.2
theorem Rep.drop (f : s.Fine) (h : Rep s ns) (hi : i < s.n) : Rep (s.drop i) (upH (upL (liftN ns i) i (-1)) i false) ∧ aF ns i < ns.length ∧ bF ns i < ns.length := by
  obtain ⟨ho, hA, hB⟩ := h.links.out hi
  have ne := f.not_erase i
  have il := h.lenAt hi
  have il2 : i < (liftN ns i).length := by rw [len_lift]; exact il
  have il3 : i < (upL (liftN ns i) i (-1)).length := by rw [len_upL]; exact il2
  refine ⟨⟨ho.tag (by rw [len_upH, len_upL]) (fun j => by rw [aF_upH il3, aF_upL il2]) (fun j => by rw [bF_upH il3, bF_upL il2]), fun j hj => ?_, fun j hj => ?_, ?_⟩, hA, hB⟩
  · rw [(upH_t il3 j).1, (upL_t il2 j).1]
    unfold Sh.lst Sh.drop
    by_cases c : j = i
    · subst c
      simp [ne.1, ne.2]
    · rw [if_neg c, (lift_t il hA hB j).1, h.lst j hj]
      unfold Sh.lst
      simp only [mem_erase' f.nd0 c, mem_erase' f.nd1 c]
  · rw [(upH_t il3 j).2, (upL_t il2 j).2, (lift_t il hA hB j).2]
    unfold Sh.h Sh.drop
    rw [set_h (by rw [f.hlen]; exact hi)]
    split
    · rfl
    · exact h.held j hj
  · have h1 : ¬ s.n = i := by omega
    have h2 : ¬ s.n + 1 = i := by omega
    show (nd (upH (upL (liftN ns i) i (-1)) i false) s.n).held = false ∧ (nd (upH (upL (liftN ns i) i (-1)) i false) (s.n + 1)).held = false
    constructor <;> rw [(upH_t il3 _).2, (upL_t il2 _).2, (lift_t il hA hB _).2]
    · rw [if_neg h1]; exact h.end_.1
    · rw [if_neg h2]; exact h.end_.2
theorem Rep.hold (f : s.Fine) (h : Rep s ns) (hi : i < s.n) (b : Bool) : Rep (s.hold i b) (upH ns i b) := by
  have il := h.lenAt hi
  refine ⟨h.links.tag (len_upH _ _ _) (aF_upH il) (bF_upH il), fun j hj => ?_, fun j hj => ?_, ?_⟩
  · rw [(upH_t il j).1]; exact h.lst j hj
  · rw [(upH_t il j).2]
    unfold Sh.h Sh.hold
    rw [set_h (by rw [f.hlen]; exact hi)]
    split
    · rfl
    · exact h.held j hj
  · have h1 : ¬ s.n = i := by omega
    have h2 : ¬ s.n + 1 = i := by omega
    show (nd (upH ns i b) s.n).held = false ∧ (nd (upH ns i b) (s.n + 1)).held = false
    constructor <;> rw [(upH_t il _).2]
    · rw [if_neg h1]; exact h.end_.1
    · rw [if_neg h2]; exact h.end_.2
/-- the nodes of a new shelf -/
def fresh (m : Nat) : List Nd := (List.range m).map (fun i => ⟨-1, false, i, i⟩)
theorem nd_fresh {m j : Nat} (h : j < m) : nd (fresh m) j = ⟨-1, false, j, j⟩ := by
  unfold nd fresh
  rw [List.getD_eq_getElem?_getD]
  simp [h]
theorem rep_new {n bot : Nat} : Rep (newSh n bot) (fresh (n + 2)) := by
  refine ⟨⟨by simp [fresh, newSh], ⟨?_, ?_, by simp [newSh], ?_⟩, ⟨?_, ?_, by simp [newSh], ?_⟩, by simp [newSh], by simp [newSh], by simp [newSh], fun i hi _ _ => ?_⟩, fun i hi => ?_, fun i hi => ?_, ?_⟩
  · show aF (fresh (n + 2)) n = n
    unfold aF; rw [nd_fresh (by omega)]
  · show bF (fresh (n + 2)) n = n
    unfold bF; rw [nd_fresh (by omega)]
  · rintro i (rfl | h)
    · simp [fresh]
    · cases h
  · show aF (fresh (n + 2)) (n + 1) = n + 1
    unfold aF; rw [nd_fresh (by omega)]
  · show bF (fresh (n + 2)) (n + 1) = n + 1
    unfold bF; rw [nd_fresh (by omega)]
  · rintro i (rfl | h)
    · simp [fresh, newSh]
    · cases h
  · have : i < n := hi
    unfold aF bF; rw [nd_fresh (by omega)]; exact ⟨rfl, rfl⟩
  · have : i < n := hi
    rw [nd_fresh (by omega)]; simp [Sh.lst, newSh]
  · have : i < n := hi
    rw [nd_fresh (by omega)]
    simp [Sh.h, newSh, this]
  · show (nd (fresh (n + 2)) n).held = false ∧ (nd (fresh (n + 2)) (n + 1)).held = false
    rw [nd_fresh (by omega), nd_fresh (by omega)]; exact ⟨rfl, rfl⟩
end Go.Proofs.Ytpmhpamajkhhiaa

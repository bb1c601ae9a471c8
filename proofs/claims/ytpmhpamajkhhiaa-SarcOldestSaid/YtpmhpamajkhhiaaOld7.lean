/- One list, none held: what goes is what was used longest ago: plain. -/
import Derived.Test.YtpmhpamajkhhiaaSc
namespace Go.Proofs.Ytpmhpamajkhhiaa
open Go.RowKit
set_option linter.unusedVariables false

structure Old (c : Sc) (N : Nat) (L : List Nat) : Prop where
  fine : c.Fine
  n : c.s.n = N
  l0 : c.s.l0 = []
  l1 : c.s.l1 = L.reverse
  free : ∀ j, c.s.h j = false
theorem old_new {N T : Nat} (h1 : 1 ≤ T) (h2 : T ≤ N) (h3 : N ≤ 64) : Old (newSc N T) N [] := by
  refine ⟨fine_newSc h1 h2 h3, rfl, rfl, rfl, fun j => ?_⟩
  show (List.replicate N false).getD j false = false
  rw [List.getD_eq_getElem?_getD, List.getElem?_replicate]
  split <;> rfl
theorem old_mem {c : Sc} {N : Nat} {L : List Nat} (h : Old c N L) (x : Nat) : x ∈ c.s.l1 ↔ x ∈ L := by rw [h.l1]; exact List.mem_reverse
theorem old_lst {c : Sc} {N : Nat} {L : List Nat} (h : Old c N L) (x : Nat) : (x ∈ L → c.s.lst x = 1) ∧ (x ∉ L → c.s.lst x = -1) := by
  refine ⟨fun m => ?_, fun m => ?_⟩
  · unfold Sh.lst
    rw [h.l0, if_neg (by simp), if_pos ((old_mem h x).2 m)]
  · unfold Sh.lst
    rw [h.l0, if_neg (by simp), if_neg (fun q => m ((old_mem h x).1 q))]
theorem hasL1 : hasL (1 : Nat) = true := by decide
theorem hasN_of {n j : Nat} (h : j < n) : hasN n j = true := by unfold hasN; simp; omega
theorem rev_snoc_erase {L : List Nat} (hn : L.Nodup) (k : Nat) : k :: L.reverse.erase k = (L.erase k ++ [k]).reverse := by
  have h2 : L.reverse.Nodup := (List.reverse_perm L).nodup_iff.2 hn
  rw [List.reverse_append, List.reverse_singleton, List.singleton_append, h2.erase_eq_filter, hn.erase_eq_filter, List.filter_reverse]
theorem old_nodup {c : Sc} {N : Nat} {L : List Nat} (h : Old c N L) : L.Nodup := by
  have := h.fine.s.nd1
  rw [h.l1] at this
  exact (List.reverse_perm L).nodup_iff.1 this
theorem old_enter {c : Sc} {N i : Nat} {L : List Nat} (h : Old c N L) (hi : i < N) (hL : i ∉ L) :
    c.enterC i (1 : Nat) = 0 ∧ (c.enterS i (1 : Nat)).readyC i = 0 ∧ Old ((c.enterS i (1 : Nat)).readyS i) N (L ++ [i]) ∧ (c.enterS i (1 : Nat)).us.length = c.us.length + 1 ∧ ((c.enterS i (1 : Nat)).readyS i).us.length = c.us.length + 1 := by
  have hi2 : i < c.s.n := by rw [h.n]; exact hi
  have e0 : c.enterC i (1 : Nat) = 0 := by
    unfold Sc.enterC
    rw [hasN_of hi2, hasL1, Int.toNat_natCast, if_pos ((old_lst h i).2 hL)]
    rfl
  have e1 : c.enterS i (1 : Nat) = ⟨(c.s.front 1 i).hold i true, c.us ++ [i], c.want, c.miss, c.hits⟩ := by
    unfold Sc.enterS
    rw [if_pos e0, Int.toNat_natCast, Int.toNat_natCast]
  have f1 := h.fine.s.front 1 hi2
  have hi3 : i < (c.s.front 1 i).n := by rw [(front_nb _ _ _).1]; exact hi2
  have e2 : (c.enterS i (1 : Nat)).readyC i = 0 := by
    rw [e1]
    unfold Sc.readyC
    show (if hasN (c.s.front 1 i).n i then if (c.s.front 1 i).lst (i : Int).toNat = -1 then 3 else if ((c.s.front 1 i).hold i true).h (i : Int).toNat = true then 0 else 5 else 1) = (0 : Int)
    rw [hasN_of hi3, if_pos rfl, Int.toNat_natCast, if_neg ((front_mem h.fine.s 1 i i).2 (.inl rfl)), hold_h f1 hi3, if_pos rfl, if_pos rfl]
  have e3 : (c.enterS i (1 : Nat)).readyS i = ⟨((c.s.front 1 i).hold i true).hold i false, c.us ++ [i], c.want, c.miss, c.hits⟩ := by
    unfold Sc.readyS
    rw [if_pos e2, Int.toNat_natCast, e1]
  have F := (h.fine.enterS i (1 : Nat)).readyS i
  refine ⟨e0, e2, ?_, by rw [e1]; simp, by rw [e3]; simp⟩
  rw [e3] at F ⊢
  refine ⟨F, (front_nb c.s 1 i).1.trans h.n, ?_, ?_, fun j => ?_⟩
  · show c.s.l0.erase i = []
    rw [h.l0]; rfl
  · show i :: c.s.l1.erase i = (L ++ [i]).reverse
    rw [h.l1, erase_not (fun q => hL (List.mem_reverse.1 q))]
    simp
  · show (((c.s.front 1 i).hold i true).hold i false).h j = false
    rw [hold_h (f1.hold i true) hi3, hold_h f1 hi3, front_h, h.free]
    split <;> rfl
theorem old_hit {c : Sc} {N k : Nat} {L : List Nat} (h : Old c N L) (hL : k ∈ L) :
    c.hitC k (1 : Nat) = 0 ∧ Old (c.hitS k (1 : Nat)) N (L.erase k ++ [k]) ∧ (c.hitS k (1 : Nat)).us.length = c.us.length + 1 := by
  have hk : k < c.s.n := h.fine.s.lt1 k ((old_mem h k).2 hL)
  have e0 : c.hitC k (1 : Nat) = 0 := by
    unfold Sc.hitC
    rw [hasN_of hk, hasL1, Int.toNat_natCast, if_neg (show ¬ c.s.lst k = -1 by rw [(old_lst h k).1 hL]; decide)]
    rfl
  have e1 : c.hitS k (1 : Nat) = (c.hitW k).use 1 k := by
    unfold Sc.hitS
    rw [if_pos e0, Int.toNat_natCast, Int.toNat_natCast]
  obtain ⟨_, s1, u1⟩ := h.fine.hitW k
  have F := h.fine.hitS k (1 : Nat)
  refine ⟨e0, ?_, by rw [e1]; show ((c.hitW k).us ++ [k]).length = _; rw [u1]; simp⟩
  rw [e1] at F ⊢
  have es : ((c.hitW k).use 1 k).s = c.s.front 1 k := by show (c.hitW k).s.front 1 k = _; rw [s1]
  refine ⟨F, ?_, ?_, ?_, fun j => ?_⟩
  · rw [es]; exact (front_nb c.s 1 k).1.trans h.n
  · rw [es]
    show c.s.l0.erase k = []
    rw [h.l0]; rfl
  · rw [es]
    show k :: c.s.l1.erase k = _
    rw [h.l1]
    exact rev_snoc_erase (old_nodup h) k
  · rw [es, front_h]; exact h.free j
theorem erase_all {N k : Nat} {L : List Nat} (h : ∀ x, x < N → x ∈ L) (hL : L.length = N) (hk : k ∈ L) : (∀ x, x < N → x ∈ L.erase k ++ [k]) ∧ (L.erase k ++ [k]).length = N := by
  refine ⟨fun x hx => ?_, ?_⟩
  · by_cases e : x = k
    · simp [e]
    · exact List.mem_append.2 (.inl ((List.mem_erase_of_ne e).2 (h x hx)))
  · rw [List.length_append, List.length_erase_of_mem hk, List.length_singleton]
    have := List.length_pos_of_mem hk
    omega
theorem old_none {c : Sc} {N : Nat} (h : Old c N []) : c.victim = none := by
  have e0 : c.s.lastOk 0 = none := by
    unfold Sh.lastOk
    rw [show c.s.revL 0 = c.s.l0.reverse from rfl, h.l0]
    rfl
  have e1 : c.s.lastOk 1 = none := by
    unfold Sh.lastOk
    rw [show c.s.revL 1 = c.s.l1.reverse from rfl, h.l1]
    rfl
  unfold Sc.victim
  rw [e0, e1]
theorem old_victim {c : Sc} {N x : Nat} {L : List Nat} (h : Old c N (x :: L)) : c.victim = some x ∧ Old c.victimS N L ∧ c.victimS.us = c.us := by
  have e0 : c.s.lastOk 0 = none := by
    unfold Sh.lastOk
    rw [show c.s.revL 0 = c.s.l0.reverse from rfl, h.l0]
    rfl
  have e1 : c.s.lastOk 1 = some x := by
    unfold Sh.lastOk
    rw [show c.s.revL 1 = c.s.l1.reverse from rfl, h.l1, List.reverse_reverse, List.find?_cons, h.free x]
    rfl
  have ev : c.victim = some x := by
    unfold Sc.victim
    rw [e0, e1]
  have F := h.fine.victimS
  have es : c.victimS = ⟨c.s.drop x, c.us, c.want, c.miss, c.hits⟩ := by
    unfold Sc.victimS
    rw [ev]
  have nd := old_nodup h
  have nx : x ∉ L := (List.nodup_cons.1 nd).1
  have hx : x < c.s.n := h.fine.s.lt1 x ((old_mem h x).2 (by simp))
  refine ⟨ev, ?_, by rw [es]⟩
  rw [es] at F ⊢
  refine ⟨F, h.n, ?_, ?_, fun j => ?_⟩
  · show c.s.l0.erase x = []
    rw [h.l0]; rfl
  · show c.s.l1.erase x = L.reverse
    rw [h.l1, List.reverse_cons, erase_mid (q := []) (fun q => nx (List.mem_reverse.1 q))]
    simp
  · show (c.s.drop x).h j = false
    rw [drop_h h.fine.s hx, h.free]
    split <;> rfl
end Go.Proofs.Ytpmhpamajkhhiaa

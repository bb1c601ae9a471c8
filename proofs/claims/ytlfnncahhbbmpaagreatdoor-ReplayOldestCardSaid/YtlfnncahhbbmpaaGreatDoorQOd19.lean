/- ReplayOldest, its plain part: blocks of one list stand in the order in which they were used, the other way round. -/
import Derived.Test.YtlfnncahhbbmpaaGreatDoorQMq19
import Derived.Test.YtlfnncahhbbmpaaGreatDoorQHp19
namespace Go.Proofs.YtlfnncahhbbmpaaGreatDoor
open Go.RowKit
set_option linter.unusedVariables false
structure Ord (m : Mo) (n : Nat) (hd ord : List Int) : Prop where
  o : m.o = opt19 256 n
  l0 : m.ca.l0 = []
  l1 : m.ca.l1 = ord.reverse
  h : m.ca.h = hd
  nn : m.ca.n = n
  nd : ord.Nodup
theorem ord_new (n : Nat) : Ord (newMo (opt19 256 n)) n [] [] := ⟨rfl, rfl, rfl, rfl, Int.toNat_natCast n, List.Pairwise.nil⟩
theorem ord_there {m : Mo} {n : Nat} {hd ord : List Int} (h : Ord m n hd ord) {x : Int} (hx : 0 ≤ x ∧ x < 256) : m.there x = true := by
  unfold Mo.there
  rw [h.o]
  rw [decide_eq_true hx.1, decide_eq_true (show x < (opt19 256 n).b0 from hx.2)]
  rfl
theorem ord_in {m : Mo} {n : Nat} {hd ord : List Int} (h : Ord m n hd ord) (x : Int) : m.ca.inL x ≠ -1 ↔ x ∈ ord := by
  rw [Ca.inL_iff, h.l0, h.l1, List.mem_reverse]
  simp
theorem ord_enter {m : Mo} {n : Nat} {ord : List Int} (h : Ord m n [] ord) {x : Int} (hx : 0 ≤ x ∧ x < 256) (nx : x ∉ ord) (hl : ord.length < n) :
    ∃ m', stepO (some m) ⟨4, x, 1, 0, 0⟩ = some m' ∧ Ord m' n [x] (ord ++ [x]) := by
  have i0 : m.ca.inL x = -1 := Classical.byContradiction fun q => nx ((ord_in h x).1 q)
  have can : m.can ⟨4, x, 1, 0, 0⟩ = true := by
    rw [(kind4 rfl).1, ord_there h hx, Bool.true_and]
    unfold Ca.enterB
    rw [i0, h.l0, h.l1, h.nn, List.length_reverse]
    simp only [List.length_nil, Nat.zero_add, decide_true, Bool.and_true]
    rw [decide_eq_true hl]
    rfl
  refine ⟨_, by unfold stepO; dsimp only; rw [can, if_pos rfl], ?_⟩
  rw [(kind4 (e := ⟨4, x, 1, 0, 0⟩) rfl).2]
  have nr : x ∉ m.ca.l1 := by rw [h.l1, List.mem_reverse]; exact nx
  refine ⟨h.o, ?_, ?_, ?_, h.nn, ?_⟩
  · show (m.ca.front x 1).l0 = []
    unfold Ca.front
    rw [if_neg (by decide)]
    show m.ca.l0.erase x = []
    rw [h.l0]; rfl
  · show (m.ca.front x 1).l1 = _
    unfold Ca.front
    rw [if_neg (by decide)]
    show x :: m.ca.l1.erase x = _
    rw [List.erase_of_not_mem nr, h.l1]
    simp
  · show putX x m.ca.h = [x]
    rw [h.h]; rfl
  · rw [List.nodup_append]
    exact ⟨h.nd, by simp, fun a ha b hb e => nx (by rw [List.mem_singleton.1 hb] at e; rw [← e]; exact ha)⟩
theorem ord_ready {m : Mo} {n : Nat} {ord : List Int} {x : Int} (h : Ord m n [x] ord) :
    ∃ m', stepO (some m) ⟨5, x, 0, 0, 0⟩ = some m' ∧ Ord m' n [] ord := by
  have can : m.can ⟨5, x, 0, 0, 0⟩ = true := by
    rw [(kind5 rfl).1]
    unfold Ca.readyB
    rw [h.h]
    simp
  refine ⟨_, by unfold stepO; dsimp only; rw [can, if_pos rfl], ?_⟩
  rw [(kind5 (e := ⟨5, x, 0, 0, 0⟩) rfl).2]
  refine ⟨h.o, h.l0, h.l1, ?_, h.nn, h.nd⟩
  show m.ca.h.erase x = []
  rw [h.h]
  simp
theorem erase_rev {l : List Int} (h : l.Nodup) (x : Int) : (l.erase x).reverse = l.reverse.erase x := by
  have h2 : l.reverse.Nodup := List.pairwise_reverse.2 (h.imp fun q e => q e.symm)
  rw [List.Nodup.erase_eq_filter h x, List.Nodup.erase_eq_filter h2 x, List.filter_reverse]
theorem take_drop_erase {l : List Int} {x : Int} (h : x ∈ l) : l.take (l.idxOf x) ++ l.drop (l.idxOf x + 1) = l.erase x := by
  rw [List.erase_eq_eraseIdx_of_idxOf (i := l.idxOf x) rfl, List.eraseIdx_eq_take_drop_succ]
theorem ord_hit {m : Mo} {n : Nat} {ord : List Int} {x : Int} (h : Ord m n [] ord) (hx : x ∈ ord) :
    ∃ m', stepO (some m) ⟨2, x, 1, 0, 0⟩ = some m' ∧ Ord m' n [] (ord.erase x ++ [x]) ∧ (ord.erase x ++ [x]).length = ord.length := by
  have can : m.can ⟨2, x, 1, 0, 0⟩ = true := by
    rw [(kind2 rfl).1]
    unfold Ca.hitB
    rw [decide_eq_true ((ord_in h x).2 hx)]
    rfl
  have kp := Ca.hitW_keeps m.ca x
  refine ⟨_, by unfold stepO; dsimp only; rw [can, if_pos rfl], ?_, ?_⟩
  · rw [(kind2 (e := ⟨2, x, 1, 0, 0⟩) rfl).2]
    have fb := Ca.front_nb (m.ca.hitW x) x 1
    refine ⟨h.o, ?_, ?_, ?_, ?_, ?_⟩
    · show ((m.ca.hitW x).front x 1).l0 = []
      unfold Ca.front
      rw [if_neg (by decide)]
      show (m.ca.hitW x).l0.erase x = []
      rw [kp.2.2.1, h.l0]; rfl
    · show ((m.ca.hitW x).front x 1).l1 = _
      unfold Ca.front
      rw [if_neg (by decide)]
      show x :: (m.ca.hitW x).l1.erase x = _
      rw [kp.2.2.2.1, h.l1, ← erase_rev h.nd]
      simp
    · show ((m.ca.hitW x).front x 1).h = []
      rw [fb.2.2.2, kp.2.2.2.2.2, h.h]
    · show ((m.ca.hitW x).front x 1).n = n
      rw [fb.1, kp.1, h.nn]
    · rw [List.nodup_append]
      exact ⟨h.nd.erase x, by simp, fun a ha b hb e => by
        rw [e, List.mem_singleton.1 hb] at ha
        exact ((List.Nodup.mem_erase_iff h.nd).1 ha).1 rfl⟩
  · rw [List.length_append, List.length_erase_of_mem hx]
    have := List.length_pos_of_mem hx
    simp only [List.length_singleton]
    omega
theorem ord_victim {m : Mo} {n : Nat} {ord : List Int} (h : Ord m n [] ord) : m.ca.victim = ord.head? := by
  unfold Ca.victim Ca.last
  rw [h.l0, h.l1, List.reverse_reverse, h.h]
  cases ord with
  | nil => rfl
  | cons a r => simp
theorem ord_gone {m : Mo} {n : Nat} {x : Int} {r : List Int} (h : Ord m n [] (x :: r)) :
    ∃ m', stepO (some m) ⟨6, x, 0, 0, 0⟩ = some m' ∧ Ord m' n [] r := by
  have can : m.can ⟨6, x, 0, 0, 0⟩ = true := by
    rw [(kind6 rfl).1, ord_victim h]
    simp
  refine ⟨_, by unfold stepO; dsimp only; rw [can, if_pos rfl], ?_⟩
  rw [(kind6 (e := ⟨6, x, 0, 0, 0⟩) rfl).2]
  have nd := List.nodup_cons.1 h.nd
  refine ⟨h.o, ?_, ?_, ?_, h.nn, nd.2⟩
  · show m.ca.l0.erase x = []
    rw [h.l0]; rfl
  · show m.ca.l1.erase x = r.reverse
    rw [h.l1, ← erase_rev h.nd, List.erase_cons_head]
  · show m.ca.h.erase x = []
    rw [h.h]; rfl
theorem ord_wrong {m : Mo} {n : Nat} {x y : Int} {r : List Int} (h : Ord m n [] (x :: r)) (hy : y ≠ x) : stepO (some m) ⟨6, y, 0, 0, 0⟩ = none := by
  have can : m.can ⟨6, y, 0, 0, 0⟩ = false := by
    rw [(kind6 rfl).1, ord_victim h]
    exact decide_eq_false (fun e => hy (Option.some.inj e).symm)
  unfold stepO
  dsimp only
  rw [can, if_neg (by decide)]
end Go.Proofs.YtlfnncahhbbmpaaGreatDoor

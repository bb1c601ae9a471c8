/- Hits in the bottom of Rand, where nothing was missed: plain. -/
import Derived.Test.YtpmhpamajkhhiaaSc
namespace Go.Proofs.Ytpmhpamajkhhiaa
open Go.RowKit
set_option linter.unusedVariables false

structure Ent (c : Sc) (N i : Nat) (s : Bool) : Prop where
  fine : c.Fine
  n : c.s.n = N
  bot : c.s.bot = 1
  z : c.want = 0 ∧ c.miss = 0 ∧ c.hits = 0
  us : c.us.length = i
  lt : ∀ x, x ∈ c.s.l0 ∨ x ∈ c.s.l1 → x < i
  len : c.s.l0.length = if s = true ∧ 0 < i then 1 else 0
  some : 2 ≤ i → c.s.l1 ≠ []
theorem ent_new {N : Nat} (s : Bool) (h : 1 ≤ N) (h2 : N ≤ 64) : Ent (newSc N 1) N 0 s := by
  refine ⟨fine_newSc (by decide) h h2, rfl, rfl, ⟨rfl, rfl, rfl⟩, rfl, fun x hx => ?_, ?_, fun h => by omega⟩
  · have hx2 : x ∈ ([] : List Nat) ∨ x ∈ ([] : List Nat) := hx
    simp at hx2
  · rw [if_neg (by omega)]
    rfl
theorem ent_code {c : Sc} {N i : Nat} {s : Bool} (h : Ent c N i s) (hi : i < N) (k : Nat) (hk : k < 2) : c.enterC i k = 0 ∧ c.enterS i k = ⟨(c.s.front k i).hold i true, c.us ++ [i], c.want, c.miss, c.hits⟩ := by
  have e1 : c.s.lst i = -1 := by
    by_cases q : c.s.lst i = -1
    · exact q
    · have := h.lt i (lst_ne.1 q)
      omega
  have hN : hasN c.s.n i = true := by rw [h.n]; unfold hasN; simp; omega
  have hL : hasL k = true := by unfold hasL; simp; omega
  have e2 : c.enterC i k = 0 := by
    unfold Sc.enterC
    rw [hN, hL, Int.toNat_natCast, if_pos e1]
    rfl
  refine ⟨e2, ?_⟩
  unfold Sc.enterS
  rw [if_pos e2, Int.toNat_natCast, Int.toNat_natCast]
theorem ent_seq {c : Sc} {N : Nat} (h : Ent c N 0 true) (hN : 0 < N) : Ent (c.enterS (0 : Nat) (0 : Nat)) N 1 true := by
  have e := (ent_code h hN 0 (by decide)).2
  have e0 : c.s.l0 = [] := List.eq_nil_iff_forall_not_mem.2 (fun x hx => by have := h.lt x (.inl hx); omega)
  have e1 : c.s.l1 = [] := List.eq_nil_iff_forall_not_mem.2 (fun x hx => by have := h.lt x (.inr hx); omega)
  have F := h.fine.enterS (0 : Nat) (0 : Nat)
  rw [e] at F ⊢
  refine ⟨F, (front_nb c.s 0 0).1.trans h.n, (front_nb c.s 0 0).2.trans h.bot, h.z, by simp [h.us], fun x hx => ?_, ?_, fun h => by omega⟩
  · have hx2 : x ∈ (0 :: c.s.l0.erase 0) ∨ x ∈ c.s.l1.erase 0 := hx
    rw [e0, e1] at hx2
    simp at hx2
    omega
  · show (0 :: c.s.l0.erase 0).length = _
    rw [e0]
    rfl
theorem ent_rand {c : Sc} {N i : Nat} {s : Bool} (h : Ent c N i s) (hi : i < N) (hc : s = true → 0 < i) : Ent (c.enterS i (1 : Nat)) N (i + 1) s := by
  have e := (ent_code h hi 1 (by decide)).2
  have F := h.fine.enterS i (1 : Nat)
  rw [e] at F ⊢
  have n0 : i ∉ c.s.l0 := fun q => by have := h.lt i (.inl q); omega
  have n1 : i ∉ c.s.l1 := fun q => by have := h.lt i (.inr q); omega
  refine ⟨F, (front_nb c.s 1 i).1.trans h.n, (front_nb c.s 1 i).2.trans h.bot, h.z, by simp [h.us], fun x hx => ?_, ?_, fun _ => ?_⟩
  · have hx2 : x ∈ c.s.l0.erase i ∨ x ∈ (i :: c.s.l1.erase i) := hx
    rw [erase_not n0, erase_not n1] at hx2
    rcases hx2 with q | q
    · have := h.lt x (.inl q); omega
    · rcases List.mem_cons.1 q with q | q
      · omega
      · have := h.lt x (.inr q); omega
  · show (c.s.l0.erase i).length = _
    rw [erase_not n0, h.len]
    cases s with
    | false => rfl
    | true => rw [if_pos ⟨rfl, hc rfl⟩, if_pos ⟨rfl, by omega⟩]
  · show (i :: c.s.l1.erase i) ≠ []
    simp

structure Fal (c : Sc) (N d k : Nat) : Prop where
  fine : c.Fine
  n : c.s.n = N
  bot : c.s.bot = 1
  z : c.want = 0 ∧ c.miss = 0
  hits : c.hits = k
  len : c.s.l0.length = d
  some : c.s.l1 ≠ []
theorem fal_of {c : Sc} {N : Nat} {s : Bool} (h : Ent c N N s) (hN : 2 ≤ N) : Fal c N (if s = true then 1 else 0) 0 := by
  refine ⟨h.fine, h.n, h.bot, ⟨h.z.1, h.z.2.1⟩, h.z.2.2, ?_, h.some hN⟩
  rw [h.len]
  cases s with
  | false => rfl
  | true => rw [if_pos ⟨rfl, by omega⟩, if_pos rfl]
theorem fal_hit {c : Sc} {N d k : Nat} (h : Fal c N d k) {x : Nat} {L : List Nat} (hx : c.s.l1 = L ++ [x]) (hk : k < 60) : c.hitC x (1 : Nat) = 0 ∧ Fal (c.hitS x (1 : Nat)) N d (k + 1) ∧ (c.hitS x (1 : Nat)).us.length = c.us.length + 1 := by
  have m : x ∈ c.s.l1 := by rw [hx]; simp
  have nm : x ∉ c.s.l0 := fun q => h.fine.s.apart x q m
  have lt := h.fine.s.lt1 x m
  have e1 : c.s.lst x = 1 := by unfold Sh.lst; rw [if_neg nm, if_pos m]
  have hN : hasN c.s.n x = true := by unfold hasN; simp; omega
  have hL : hasL (1 : Nat) = true := by decide
  have c0 : c.hitC x (1 : Nat) = 0 := by
    unfold Sc.hitC
    rw [hN, hL, Int.toNat_natCast, if_neg (show ¬ c.s.lst x = -1 by rw [e1]; decide)]
    rfl
  have low : c.s.low x = true := by
    unfold Sh.low
    rw [e1, show c.s.revL 1 = c.s.l1.reverse from rfl, hx, List.reverse_append, List.reverse_singleton, List.singleton_append, List.idxOf_cons_self, h.bot]
    rfl
  have hw : c.hitW x = ⟨c.s, c.us, 0, 0, k + 1⟩ := by
    unfold Sc.hitW
    rw [if_pos ⟨e1, low⟩]
    unfold Sc.weigh
    rw [if_neg (fun q => by
      have q2 : 64 ≤ c.miss ∨ 64 ≤ c.hits + 1 := of_decide_eq_true q
      rw [h.z.2, h.hits] at q2
      omega)]
    have nw : (Sc.mk c.s c.us c.want c.miss (c.hits + 1)).newWant = 0 := by
      unfold Sc.newWant
      show (if (c.hits + 1) * c.s.l0.length < c.miss * c.s.bot then min (c.want + 1) c.s.n else if c.miss * c.s.bot < (c.hits + 1) * c.s.l0.length then c.want - 1 else c.want) = 0
      rw [h.z.1, h.z.2, Nat.zero_mul, if_neg (by omega)]
      split <;> rfl
    rw [nw]
    show Sc.mk c.s c.us 0 c.miss (c.hits + 1) = _
    rw [h.z.2, h.hits]
  have es : c.hitS x (1 : Nat) = ⟨c.s.front 1 x, c.us ++ [x], 0, 0, k + 1⟩ := by
    unfold Sc.hitS
    rw [if_pos c0, Int.toNat_natCast, Int.toNat_natCast, hw]
    rfl
  refine ⟨c0, ?_, by rw [es]; simp⟩
  have F := h.fine.hitS x (1 : Nat)
  rw [es] at F ⊢
  refine ⟨F, (front_nb c.s 1 x).1.trans h.n, (front_nb c.s 1 x).2.trans h.bot, ⟨rfl, rfl⟩, rfl, ?_, ?_⟩
  · show (c.s.l0.erase x).length = d
    rw [erase_not nm]; exact h.len
  · show (x :: c.s.l1.erase x) ≠ []
    simp
theorem fal_miss {c : Sc} {N d k : Nat} (h : Fal c N d k) (hN : 1 ≤ N) (hk : k < 60) : (c.missS 0).miss = 1 ∧ (c.missS 0).hits = k ∧ (c.missS 0).want = if k * d = 0 then 1 else 0 := by
  have nw : (Sc.mk c.s c.us c.want (c.miss + 1) c.hits).newWant = if k * d = 0 then 1 else 0 := by
    unfold Sc.newWant
    show (if c.hits * c.s.l0.length < (c.miss + 1) * c.s.bot then min (c.want + 1) c.s.n else if (c.miss + 1) * c.s.bot < c.hits * c.s.l0.length then c.want - 1 else c.want) = _
    rw [h.z.1, h.z.2, h.hits, h.len, h.bot, h.n]
    by_cases q : k * d = 0
    · rw [if_pos (by omega), if_pos q]; omega
    · rw [if_neg (by omega), if_neg q]
      split <;> rfl
  have e : c.missS 0 = ⟨c.s, c.us, if k * d = 0 then 1 else 0, 1, k⟩ := by
    unfold Sc.missS
    rw [if_pos rfl]
    unfold Sc.weigh
    rw [if_neg (fun q => by
      have q2 : 64 ≤ c.miss + 1 ∨ 64 ≤ c.hits := of_decide_eq_true q
      rw [h.z.2, h.hits] at q2
      omega), nw]
    show Sc.mk c.s c.us _ (c.miss + 1) c.hits = _
    rw [h.z.2, h.hits]
  rw [e]
  exact ⟨rfl, rfl, rfl⟩
end Go.Proofs.Ytpmhpamajkhhiaa

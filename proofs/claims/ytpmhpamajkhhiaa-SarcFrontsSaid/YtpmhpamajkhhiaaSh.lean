/- A shelf as the document tells it, plain; and how it lies in nodes. -/
import Derived.Test.YtpmhpamajkhhiaaRs
namespace Go.Proofs.Ytpmhpamajkhhiaa
open Go.RowKit
set_option linter.unusedVariables false

/-- how many nodes, the bottom's size, both lists, from the first on, and which nodes are held -/
structure Sh where
  n : Nat
  bot : Nat
  l0 : List Nat
  l1 : List Nat
  hs : List Bool
  deriving Repr, DecidableEq, Inhabited

def Sh.li (s : Sh) (k : Nat) : List Nat := if k = 0 then s.l0 else s.l1
def Sh.lst (s : Sh) (i : Nat) : Int := if i ∈ s.l0 then 0 else if i ∈ s.l1 then 1 else -1
def Sh.h (s : Sh) (i : Nat) : Bool := s.hs.getD i false
def Sh.lies (s : Sh) (i : Nat) : Bool := decide (i ∈ s.l0) || decide (i ∈ s.l1)
def Sh.out (s : Sh) (i : Nat) : Sh := { s with l0 := s.l0.erase i, l1 := s.l1.erase i }
def Sh.front (s : Sh) (k i : Nat) : Sh := if k = 0 then { s with l0 := i :: s.l0.erase i, l1 := s.l1.erase i } else { s with l0 := s.l0.erase i, l1 := i :: s.l1.erase i }
def Sh.drop (s : Sh) (i : Nat) : Sh := { s with l0 := s.l0.erase i, l1 := s.l1.erase i, hs := s.hs.set i false }
def Sh.hold (s : Sh) (i : Nat) (b : Bool) : Sh := { s with hs := s.hs.set i b }
def newSh (n bot : Nat) : Sh := ⟨n, bot, [], [], List.replicate n false⟩

structure Sh.Fine (s : Sh) : Prop where
  bot1 : 1 ≤ s.bot
  botn : s.bot ≤ s.n
  n64 : s.n ≤ 64
  nd0 : s.l0.Nodup
  nd1 : s.l1.Nodup
  apart : ∀ i, i ∈ s.l0 → i ∉ s.l1
  lt0 : ∀ i ∈ s.l0, i < s.n
  lt1 : ∀ i ∈ s.l1, i < s.n
  hlen : s.hs.length = s.n

theorem fine_new {n bot : Nat} (h1 : 1 ≤ bot) (h2 : bot ≤ n) (h3 : n ≤ 64) : (newSh n bot).Fine :=
  ⟨h1, h2, h3, by simp [newSh], by simp [newSh], by simp [newSh], by simp [newSh], by simp [newSh], by simp [newSh]⟩
theorem Sh.Fine.out {s : Sh} (h : s.Fine) (i : Nat) : (s.out i).Fine :=
  ⟨h.bot1, h.botn, h.n64, h.nd0.erase i, h.nd1.erase i, fun j hj hk => h.apart j (List.mem_of_mem_erase hj) (List.mem_of_mem_erase hk), fun j hj => h.lt0 j (List.mem_of_mem_erase hj), fun j hj => h.lt1 j (List.mem_of_mem_erase hj), h.hlen⟩
theorem Sh.Fine.drop {s : Sh} (h : s.Fine) (i : Nat) : (s.drop i).Fine :=
  ⟨h.bot1, h.botn, h.n64, h.nd0.erase i, h.nd1.erase i, fun j hj hk => h.apart j (List.mem_of_mem_erase hj) (List.mem_of_mem_erase hk), fun j hj => h.lt0 j (List.mem_of_mem_erase hj), fun j hj => h.lt1 j (List.mem_of_mem_erase hj), by
    show (s.hs.set i false).length = s.n
    rw [List.length_set]; exact h.hlen⟩
theorem Sh.Fine.hold {s : Sh} (h : s.Fine) (i : Nat) (b : Bool) : (s.hold i b).Fine :=
  ⟨h.bot1, h.botn, h.n64, h.nd0, h.nd1, h.apart, h.lt0, h.lt1, by
    show (s.hs.set i b).length = s.n
    rw [List.length_set]; exact h.hlen⟩
theorem Sh.Fine.not_erase {s : Sh} (h : s.Fine) (i : Nat) : i ∉ s.l0.erase i ∧ i ∉ s.l1.erase i :=
  ⟨fun k => (h.nd0.mem_erase_iff.1 k).1 rfl, fun k => (h.nd1.mem_erase_iff.1 k).1 rfl⟩
theorem Sh.Fine.front {s : Sh} (h : s.Fine) (k : Nat) {i : Nat} (hi : i < s.n) : (s.front k i).Fine := by
  have ne := h.not_erase i
  have o := h.out i
  unfold Sh.front
  split
  · refine ⟨h.bot1, h.botn, h.n64, List.nodup_cons.2 ⟨ne.1, o.nd0⟩, o.nd1, fun j hj hk => ?_, fun j hj => ?_, o.lt1, h.hlen⟩
    · rcases List.mem_cons.1 hj with rfl | hj
      · exact ne.2 hk
      · exact o.apart j hj hk
    · rcases List.mem_cons.1 hj with rfl | hj
      · exact hi
      · exact o.lt0 j hj
  · refine ⟨h.bot1, h.botn, h.n64, o.nd0, List.nodup_cons.2 ⟨ne.2, o.nd1⟩, fun j hj hk => ?_, o.lt0, fun j hj => ?_, h.hlen⟩
    · rcases List.mem_cons.1 hk with rfl | hk
      · exact ne.1 hj
      · exact o.apart j hj hk
    · rcases List.mem_cons.1 hj with rfl | hj
      · exact hi
      · exact o.lt1 j hj

/-- the two rings, and who lies in none -/
structure Links (n : Nat) (l0 l1 : List Nat) (ns : List Nd) : Prop where
  len : ns.length = n + 2
  r0 : Ring ns n l0
  r1 : Ring ns (n + 1) l1
  lt0 : ∀ i ∈ l0, i < n
  lt1 : ∀ i ∈ l1, i < n
  apart : ∀ i, i ∈ l0 → i ∉ l1
  idle : ∀ i, i < n → i ∉ l0 → i ∉ l1 → aF ns i = i ∧ bF ns i = i

theorem lift_else {ns : List Nd} {i j : Nat} (hi : i < ns.length) (hA : aF ns i < ns.length) (hB : bF ns i < ns.length) (h1 : j ≠ i) (h2 : j ≠ aF ns i) (h3 : j ≠ bF ns i) : aF (liftN ns i) j = aF ns j ∧ bF (liftN ns i) j = bF ns j := by
  rw [lift_a hi hA hB, lift_b hi hA hB, if_neg h1, if_neg h1, if_neg h2, if_neg h3]
  exact ⟨rfl, rfl⟩
theorem erase_mid {p q : List Nat} {i : Nat} (h : i ∉ p) : (p ++ i :: q).erase i = p ++ q := by
  rw [List.erase_append_right _ h, List.erase_cons_head]
theorem erase_not {l : List Nat} {i : Nat} (h : i ∉ l) : l.erase i = l := List.erase_of_not_mem h
theorem mid_in {p q : List Nat} {i j : Nat} (h : j ∈ p ++ q) : j ∈ p ++ i :: q := by
  rcases List.mem_append.1 h with h | h
  · exact List.mem_append.2 (.inl h)
  · exact List.mem_append.2 (.inr (List.mem_cons_of_mem _ h))
theorem mid_out {p q : List Nat} {i j : Nat} (hne : j ≠ i) (h : j ∉ p ++ q) : j ∉ p ++ i :: q := fun k => by
  rcases List.mem_append.1 k with k | k
  · exact h (List.mem_append.2 (.inl k))
  · rcases List.mem_cons.1 k with k | k
    · exact hne k
    · exact h (List.mem_append.2 (.inr k))
theorem Links.out {n : Nat} {l0 l1 : List Nat} {ns : List Nd} (h : Links n l0 l1 ns) {i : Nat} (hi : i < n) :
    Links n (l0.erase i) (l1.erase i) (liftN ns i) ∧ aF ns i < ns.length ∧ bF ns i < ns.length := by
  have hil : i < ns.length := by rw [h.len]; omega
  by_cases c0 : i ∈ l0
  · have nb := h.r0.at_ (.inr c0)
    have hA := h.r0.lt _ nb.1
    have hB := h.r0.lt _ nb.2
    have c1 := h.apart i c0
    rw [erase_not c1]
    have nA : ∀ y, y = n ∨ y ∈ l0 → y ≠ n + 1 ∧ y ∉ l1 := fun y hy => by
      rcases hy with rfl | hy
      · exact ⟨by omega, fun k => by have := h.lt1 _ k; omega⟩
      · exact ⟨by have := h.lt0 _ hy; omega, h.apart _ hy⟩
    obtain ⟨p, q, rfl⟩ := List.append_of_mem c0
    have ip : i ∉ p := fun k => (List.nodup_append.1 (List.nodup_cons.1 h.r0.nodup).2).2.2 i k i (by simp) rfl
    rw [erase_mid ip]
    refine ⟨⟨by rw [len_lift]; exact h.len, h.r0.lift_own, h.r1.lift_far hil hA hB (fun y hy => ?_), fun j hj => h.lt0 j (mid_in hj), h.lt1, fun j hj => h.apart j (mid_in hj), fun j hj h0 h1 => ?_⟩, hA, hB⟩
    · have n1 := nA _ nb.1
      have n2 := nA _ nb.2
      refine ⟨?_, fun e => ?_, fun e => ?_⟩
      · rintro rfl
        rcases hy with hy | hy
        · omega
        · exact c1 hy
      · rw [e] at n1; rcases hy with hy | hy
        · exact absurd hy n1.1
        · exact absurd hy n1.2
      · rw [e] at n2; rcases hy with hy | hy
        · exact absurd hy n2.1
        · exact absurd hy n2.2
    · by_cases cj : j = i
      · subst cj; exact lift_self hil hA hB
      · have nj : j ∉ p ++ i :: q := mid_out cj h0
        have := h.idle j hj nj h1
        have far : ∀ y, y = n ∨ y ∈ p ++ i :: q → j ≠ y := fun y hy => by
          rintro rfl
          rcases hy with hy | hy
          · omega
          · exact nj hy
        have e := lift_else hil hA hB cj (far _ nb.1) (far _ nb.2)
        rw [e.1, e.2]
        exact this
  · by_cases c1 : i ∈ l1
    · have nb := h.r1.at_ (.inr c1)
      have hA := h.r1.lt _ nb.1
      have hB := h.r1.lt _ nb.2
      rw [erase_not c0]
      have nA : ∀ y, y = n + 1 ∨ y ∈ l1 → y ≠ n ∧ y ∉ l0 := fun y hy => by
        rcases hy with rfl | hy
        · exact ⟨by omega, fun k => by have := h.lt0 _ k; omega⟩
        · exact ⟨by have := h.lt1 _ hy; omega, fun k => h.apart _ k hy⟩
      obtain ⟨p, q, rfl⟩ := List.append_of_mem c1
      have ip : i ∉ p := fun k => (List.nodup_append.1 (List.nodup_cons.1 h.r1.nodup).2).2.2 i k i (by simp) rfl
      rw [erase_mid ip]
      refine ⟨⟨by rw [len_lift]; exact h.len, h.r0.lift_far hil hA hB (fun y hy => ?_), h.r1.lift_own, h.lt0, fun j hj => h.lt1 j (mid_in hj), fun j hj k => h.apart j hj (mid_in k), fun j hj h0 h1 => ?_⟩, hA, hB⟩
      · have n1 := nA _ nb.1
        have n2 := nA _ nb.2
        refine ⟨?_, fun e => ?_, fun e => ?_⟩
        · rintro rfl
          rcases hy with hy | hy
          · omega
          · exact c0 hy
        · rw [e] at n1; rcases hy with hy | hy
          · exact absurd hy n1.1
          · exact absurd hy n1.2
        · rw [e] at n2; rcases hy with hy | hy
          · exact absurd hy n2.1
          · exact absurd hy n2.2
      · by_cases cj : j = i
        · subst cj; exact lift_self hil hA hB
        · have nj : j ∉ p ++ i :: q := mid_out cj h1
          have := h.idle j hj h0 nj
          have far : ∀ y, y = n + 1 ∨ y ∈ p ++ i :: q → j ≠ y := fun y hy => by
            rintro rfl
            rcases hy with hy | hy
            · omega
            · exact nj hy
          have e := lift_else hil hA hB cj (far _ nb.1) (far _ nb.2)
          rw [e.1, e.2]
          exact this
    · have id := h.idle i hi c0 c1
      have hA : aF ns i < ns.length := by rw [id.1]; exact hil
      have hB : bF ns i < ns.length := by rw [id.2]; exact hil
      rw [erase_not c0, erase_not c1]
      refine ⟨⟨by rw [len_lift]; exact h.len, h.r0.lift_far hil hA hB (fun y hy => ⟨?_, fun _ => id.1, fun _ => id.2⟩), h.r1.lift_far hil hA hB (fun y hy => ⟨?_, fun _ => id.1, fun _ => id.2⟩), h.lt0, h.lt1, h.apart, fun j hj h0 h1 => ?_⟩, hA, hB⟩
      · rintro rfl
        rcases hy with hy | hy
        · omega
        · exact c0 hy
      · rintro rfl
        rcases hy with hy | hy
        · omega
        · exact c1 hy
      · by_cases cj : j = i
        · subst cj; exact lift_self hil hA hB
        · have e := lift_else hil hA hB cj (by rw [id.1]; exact cj) (by rw [id.2]; exact cj)
          rw [e.1, e.2]
          exact h.idle j hj h0 h1
theorem lay_else {ns : List Nd} {i e j : Nat} (hi : i < ns.length) (he : e < ns.length) (hB : bF ns e < ns.length) (h1 : j ≠ i) (h2 : j ≠ e) (h3 : j ≠ bF ns e) : aF (layN ns i e) j = aF ns j ∧ bF (layN ns i e) j = bF ns j := by
  rw [lay_a hi he hB, lay_b hi he hB, if_neg h1, if_neg h1, if_neg h2, if_neg h3]
  exact ⟨rfl, rfl⟩
theorem Links.lay0 {n : Nat} {l0 l1 : List Nat} {ns : List Nd} (h : Links n l0 l1 ns) {i : Nat} (hi : i < n) (n0 : i ∉ l0) (n1 : i ∉ l1) :
    Links n (i :: l0) l1 (layN ns i n) ∧ bF ns n < ns.length := by
  have hil : i < ns.length := by rw [h.len]; omega
  have nb := h.r0.at_ (.inl rfl)
  have hB := h.r0.lt _ nb.2
  have he := h.r0.lt n (.inl rfl)
  refine ⟨⟨by rw [len_lay]; exact h.len, h.r0.lay_own hil (by simp [n0]; omega), h.r0.lay_far h.r1 hil (by simp [n1]; omega) (fun y hy k => ?_), fun j hj => ?_, h.lt1, fun j hj => ?_, fun j hj h0 h1 => ?_⟩, hB⟩
  · rcases hy with rfl | hy <;> rcases k with k | k
    · omega
    · have := h.lt1 _ k; omega
    · have := h.lt0 _ hy; omega
    · exact h.apart _ hy k
  · rcases List.mem_cons.1 hj with rfl | hj
    · exact hi
    · exact h.lt0 j hj
  · rcases List.mem_cons.1 hj with rfl | hj
    · exact n1
    · exact h.apart j hj
  · simp only [List.mem_cons, not_or] at h0
    have far : ∀ y, y = n ∨ y ∈ l0 → j ≠ y := fun y hy => by
      rintro rfl
      rcases hy with hy | hy
      · omega
      · exact h0.2 hy
    have e := lay_else hil he hB h0.1 (by omega) (far _ nb.2)
    rw [e.1, e.2]
    exact h.idle j hj h0.2 h1
theorem Links.lay1 {n : Nat} {l0 l1 : List Nat} {ns : List Nd} (h : Links n l0 l1 ns) {i : Nat} (hi : i < n) (n0 : i ∉ l0) (n1 : i ∉ l1) :
    Links n l0 (i :: l1) (layN ns i (n + 1)) ∧ bF ns (n + 1) < ns.length := by
  have hil : i < ns.length := by rw [h.len]; omega
  have nb := h.r1.at_ (.inl rfl)
  have hB := h.r1.lt _ nb.2
  have he := h.r1.lt (n + 1) (.inl rfl)
  refine ⟨⟨by rw [len_lay]; exact h.len, h.r1.lay_far h.r0 hil (by simp [n0]; omega) (fun y hy k => ?_), h.r1.lay_own hil (by simp [n1]; omega), h.lt0, fun j hj => ?_, fun j hj => ?_, fun j hj h0 h1 => ?_⟩, hB⟩
  · rcases hy with rfl | hy <;> rcases k with k | k
    · omega
    · have := h.lt0 _ k; omega
    · have := h.lt1 _ hy; omega
    · exact h.apart _ k hy
  · rcases List.mem_cons.1 hj with rfl | hj
    · exact hi
    · exact h.lt1 j hj
  · rw [List.mem_cons, not_or]
    exact ⟨fun e => n0 (e ▸ hj), h.apart j hj⟩
  · simp only [List.mem_cons, not_or] at h1
    have far : ∀ y, y = n + 1 ∨ y ∈ l1 → j ≠ y := fun y hy => by
      rintro rfl
      rcases hy with hy | hy
      · omega
      · exact h1.2 hy
    have e := lay_else hil he hB h1.1 (by omega) (far _ nb.2)
    rw [e.1, e.2]
    exact h.idle j hj h0 h1.2
/-- tags do not touch the rings -/
theorem Links.tag {n : Nat} {l0 l1 : List Nat} {ns ns' : List Nd} (h : Links n l0 l1 ns) (hl : ns'.length = ns.length) (ha : ∀ j, aF ns' j = aF ns j) (hb : ∀ j, bF ns' j = bF ns j) : Links n l0 l1 ns' := by
  have ring : ∀ {e : Nat} {l : List Nat}, Ring ns e l → Ring ns' e l := fun r => ⟨r.a.congr (fun y _ => ha y), r.b.congr (fun y _ => hb y), r.nodup, fun i hi => by rw [hl]; exact r.lt i hi⟩
  exact ⟨hl.trans h.len, ring h.r0, ring h.r1, h.lt0, h.lt1, h.apart, fun i h1 h2 h3 => by rw [ha, hb]; exact h.idle i h1 h2 h3⟩

/-- the nodes in which a shelf lies -/
structure Rep (s : Sh) (ns : List Nd) : Prop where
  links : Links s.n s.l0 s.l1 ns
  lst : ∀ i, i < s.n → (nd ns i).lst = s.lst i
  held : ∀ i, i < s.n → (nd ns i).held = s.h i
  end_ : (nd ns s.n).held = false ∧ (nd ns (s.n + 1)).held = false
end Go.Proofs.Ytpmhpamajkhhiaa

/- Texts of the layers below, side by side. -/
import Derived.Test.YtfbpjobobdidiaaGreatDoorGrpA
import Derived.Maps.RangeWalk
import Derived.Maps.OwnSet
import Derived.Maps.OwnOps
import Derived.Test.YtfbpjobobdidiaaGreatDoorProg
import Derived.Test.YtfbpjobobdidiaaGreatDoorChecked
import Derived.BigRegion
import Derived.BigQuiet
import Derived.RegionTactic
/- Places and turns: plain facts. A heap in a row; whose turn it is. No condition but what each says. -/
namespace Go.Proofs.YtfbpjobobdidiaaGreatDoor
open Go.RowKit
set_option linter.unusedVariables false
set_option maxRecDepth 100000

/-- a place that is taken: its ticket, its row, its turn, whether it waits -/
structure Pl where
  k : Int
  a : Bool
  n : Int
  s : Bool
deriving DecidableEq
def Pl.cells (p : Pl) : List Value := [.int .i64 p.k, .bool p.a, .int .i64 p.n, .bool p.s]
theorem pl4 (p : Pl) : p.cells.length = 4 := rfl
theorem pl_one : ∀ y : Pl, ∀ u ∈ y.cells, u.oneCell' = true := fun y u hu => by
  simp [Pl.cells] at hu
  rcases hu with rfl | rfl | rfl | rfl <;> rfl

/-- what stands at a place in a heap: what is ahead comes behind all demands -/
def kv (p : Pl) : Int := (if p.a then 1000000000 else 0) + p.n
/-- whether one comes ahead of another one -/
def ltP (p q : Pl) : Bool := if p.a != q.a then q.a else decide (p.n < q.n)
theorem lt_kv {p q : Pl} (hp : 0 ≤ p.n ∧ p.n < 1000000000) (hq : 0 ≤ q.n ∧ q.n < 1000000000) : ltP p q = decide (kv p < kv q) := by
  unfold ltP kv
  cases p.a <;> cases q.a <;> simp <;> omega

/-! ### a heap of numbers -/
def sw (f : Nat → Int) (i j : Nat) : Nat → Int := fun k => if j = k then f i else if i = k then f j else f k
def Heaped (f : Nat → Int) (n : Nat) : Prop := ∀ i, 0 < i → i < n → f ((i - 1) / 2) ≤ f i
def UpOk (f : Nat → Int) (n j : Nat) : Prop :=
  (∀ i, 0 < i → i < n → i ≠ j → f ((i - 1) / 2) ≤ f i) ∧ ∀ i, 0 < i → i < n → (i - 1) / 2 = j → 0 < j → f ((j - 1) / 2) ≤ f i
def DownOk (f : Nat → Int) (n i : Nat) : Prop :=
  (∀ m, 0 < m → m < n → (m - 1) / 2 ≠ i → f ((m - 1) / 2) ≤ f m) ∧ ∀ m, 0 < m → m < n → (m - 1) / 2 = i → 0 < i → f ((i - 1) / 2) ≤ f m
theorem up_stop {f : Nat → Int} {n j : Nat} (h : UpOk f n j) (e : j = 0 ∨ ¬ f j < f ((j - 1) / 2)) : Heaped f n := fun i h0 hn => by
  by_cases k : i = j
  · subst k
    rcases e with e | e
    · omega
    · omega
  · exact h.1 i h0 hn k
theorem up_go {f : Nat → Int} {n j : Nat} (h : UpOk f n j) (h0 : 0 < j) (hn : j < n) (e : f j < f ((j - 1) / 2)) : UpOk (sw f ((j - 1) / 2) j) n ((j - 1) / 2) := by
  have hpj : (j - 1) / 2 ≠ j := by omega
  generalize hp : (j - 1) / 2 = p at *
  refine ⟨fun i i0 hi ne => ?_, fun i i0 hi ei p0 => ?_⟩
  · unfold sw
    by_cases k : i = j
    · subst k
      rw [hp, if_neg (by omega), if_pos rfl, if_pos rfl]
      omega
    · rw [if_neg (show ¬ j = i by omega), if_neg (show ¬ p = i by omega)]
      by_cases k2 : (i - 1) / 2 = j
      · rw [if_pos k2.symm]
        exact hp ▸ h.2 i i0 hi k2 h0
      · rw [if_neg (show ¬ j = (i - 1) / 2 by omega)]
        by_cases k3 : (i - 1) / 2 = p
        · rw [if_pos k3.symm]
          have := h.1 i i0 hi k
          rw [k3] at this
          omega
        · rw [if_neg (show ¬ p = (i - 1) / 2 by omega)]
          exact h.1 i i0 hi k
  · unfold sw
    have q1 : (p - 1) / 2 ≠ j := by omega
    have q2 : (p - 1) / 2 ≠ p := by omega
    rw [if_neg (show ¬ j = (p - 1) / 2 by omega), if_neg (show ¬ p = (p - 1) / 2 by omega)]
    have hpp := h.1 p p0 (by omega) hpj
    by_cases k : i = j
    · subst k
      rw [if_pos rfl]
      exact hpp
    · rw [if_neg (show ¬ j = i by omega), if_neg (show ¬ p = i by omega)]
      have := h.1 i i0 hi k
      rw [ei] at this
      omega
theorem down_stop {f : Nat → Int} {n i : Nat} (h : DownOk f n i) (e : ∀ m, 0 < m → m < n → (m - 1) / 2 = i → f i ≤ f m) : Heaped f n := fun m m0 hm => by
  by_cases k : (m - 1) / 2 = i
  · rw [k]; exact e m m0 hm k
  · exact h.1 m m0 hm k
theorem down_go {f : Nat → Int} {n i j : Nat} (h : DownOk f n i) (j0 : 0 < j) (hn : j < n) (hj : (j - 1) / 2 = i) (e : f j < f i) (hs : ∀ m, 0 < m → m < n → (m - 1) / 2 = i → f j ≤ f m) : DownOk (sw f i j) n j := by
  have hij : i ≠ j := by omega
  refine ⟨fun m m0 hm ne => ?_, fun m m0 hm em _ => ?_⟩
  · unfold sw
    rw [if_neg (show ¬ j = (m - 1) / 2 by omega)]
    by_cases k : m = j
    · subst k
      rw [if_pos hj.symm, if_pos rfl]
      omega
    · rw [if_neg (show ¬ j = m by omega)]
      by_cases k2 : (m - 1) / 2 = i
      · rw [if_pos k2.symm, if_neg (show ¬ i = m by omega)]
        exact hs m m0 hm k2
      · rw [if_neg (show ¬ i = (m - 1) / 2 by omega)]
        by_cases k3 : i = m
        · rw [if_pos k3]
          subst k3
          exact h.2 j j0 hn hj m0
        · rw [if_neg k3]
          exact h.1 m m0 hm k2
  · unfold sw
    rw [hj, if_neg (show ¬ j = i by omega), if_pos rfl, if_neg (show ¬ j = m by omega), if_neg (show ¬ i = m by omega)]
    have := h.1 m m0 hm (by omega)
    rw [em] at this
    exact this
theorem root_least {f : Nat → Int} {n : Nat} (h : Heaped f n) : ∀ i, i < n → f 0 ≤ f i := by
  intro i
  induction i using Nat.strongRecOn with
  | ind i ih =>
    intro hi
    by_cases k : i = 0
    · rw [k]; exact Int.le_refl _
    · exact Int.le_trans (ih ((i - 1) / 2) (by omega) (by omega)) (h i (by omega) hi)
theorem heaped_push {f g : Nat → Int} {n : Nat} (h : Heaped f n) (e : ∀ i, i < n → g i = f i) : UpOk g (n + 1) n := by
  refine ⟨fun i i0 hi ne => ?_, fun i i0 hi ei n0 => by omega⟩
  rw [e _ (by omega), e _ (by omega)]
  exact h i i0 (by omega)
theorem heaped_root {f g : Nat → Int} {n : Nat} (h : Heaped f (n + 1)) (e : ∀ i, 0 < i → i < n → g i = f i) : DownOk g n 0 := by
  refine ⟨fun m m0 hm ne => ?_, fun m m0 hm em n0 => by omega⟩
  rw [e _ (by omega) (by omega), e _ m0 hm]
  exact h m m0 (by omega)
theorem heaped_less {f g : Nat → Int} {n m : Nat} (h : Heaped f n) (hm : m ≤ n) (e : ∀ i, i < m → g i = f i) : Heaped g m := fun i i0 hi => by
  rw [e _ (by omega), e _ hi]
  exact h i i0 (by omega)

/-! ### a row of places as such a heap -/
def fv (d : List Pl) (i : Nat) : Int := match d[i]? with | some p => kv p | none => 0
theorem fv_at {d : List Pl} {i : Nat} {p : Pl} (h : d[i]? = some p) : fv d i = kv p := by unfold fv; rw [h]
/-- two change their places -/
def swp (d : List Pl) (i j : Nat) (x y : Pl) : List Pl := (d.set i y).set j x
theorem swp_len (d : List Pl) (i j : Nat) (x y : Pl) : (swp d i j x y).length = d.length := by simp [swp]
theorem swp_at {d : List Pl} {i j : Nat} {x y : Pl} (hi : d[i]? = some x) (hj : d[j]? = some y) (k : Nat) : (swp d i j x y)[k]? = if j = k then some x else if i = k then some y else d[k]? := by
  have li := lt_of_get hi
  have lj := lt_of_get hj
  unfold swp
  rw [List.getElem?_set, List.getElem?_set, List.length_set, if_pos lj, if_pos li]
theorem fv_swp {d : List Pl} {i j : Nat} {x y : Pl} (hi : d[i]? = some x) (hj : d[j]? = some y) : fv (swp d i j x y) = sw (fv d) i j := by
  funext k
  unfold sw
  by_cases k1 : j = k
  · rw [if_pos k1, fv_at hi]
    exact fv_at (by rw [swp_at hi hj, if_pos k1])
  · rw [if_neg k1]
    by_cases k2 : i = k
    · rw [if_pos k2, fv_at hj]
      exact fv_at (by rw [swp_at hi hj, if_neg k1, if_pos k2])
    · rw [if_neg k2]
      unfold fv
      rw [swp_at hi hj, if_neg k1, if_neg k2]
theorem swp_perm {d : List Pl} {i j : Nat} {x y : Pl} (hi : d[i]? = some x) (hj : d[j]? = some y) : (swp d i j x y).Perm d := by
  have li := lt_of_get hi
  have lj := lt_of_get hj
  have h := Array.swap_perm (xs := d.toArray) (i := i) (j := j) (by simpa using li) (by simpa using lj)
  have e : (d.toArray.swap i j (by simpa using li) (by simpa using lj)).toList = swp d i j x y := by
    have e1 : d[i] = x := by rw [List.getElem?_eq_getElem li] at hi; exact Option.some.inj hi
    have e2 : d[j] = y := by rw [List.getElem?_eq_getElem lj] at hj; exact Option.some.inj hj
    simp [Array.swap, swp, e1, e2]
  have h2 := h.toList
  rw [e] at h2
  exact h2
/-- the first of a heap is the first of the same places in their order -/
theorem least_first {d r : List Pl} {t x : Pl} (hp : d.Perm (t :: r)) (hs : (t :: r).Pairwise (fun p q => kv p < kv q)) (hh : Heaped (fv d) d.length) (hx : d[0]? = some x) : x = t := by
  have hxm : x ∈ t :: r := hp.mem_iff.1 (List.mem_of_getElem? hx)
  have htm : t ∈ d := hp.mem_iff.2 (by simp)
  obtain ⟨i, hi, e⟩ := List.getElem_of_mem htm
  have hle := root_least hh i hi
  rw [fv_at hx, fv_at (show d[i]? = some t by rw [List.getElem?_eq_getElem hi, e])] at hle
  rcases List.mem_cons.1 hxm with q | q
  · exact q
  · have := (List.pairwise_cons.1 hs).1 x q
    omega
theorem perm_last {d e r : List Pl} {t x : Pl} (hp : d.Perm (t :: r)) (he : (e ++ [x]).Perm d) (hx : x = t) : e.Perm r := by
  subst hx
  have h1 : (x :: e).Perm (e ++ [x]) := (List.perm_append_comm (l₁ := [x]) (l₂ := e))
  exact List.Perm.cons_inv ((h1.trans he).trans hp)
end Go.Proofs.YtfbpjobobdidiaaGreatDoor


/- A map in memory, from tickets to the places that they have. -/
namespace Go.Proofs.YtfbpjobobdidiaaGreatDoor
open Go.RowKit Go.Maps
set_option linter.unusedVariables false
set_option maxRecDepth 100000

theorem lawI12 : Keyed Tryz.prog 3 := int_keyed Tryz.underlying3
theorem keyI12 (x : Int) : WideAt.IsKeyLit (.int .i64 x) := trivial
theorem wf_i12 (x : Int) (h : -9223372036854775808 ≤ x ∧ x ≤ 9223372036854775807) : (Lit.int .i64 x).wf = true := WalkArith.wf_i64 h

/-- how a place reads, as a map's value -/
def plDat (p : Pl) : DataW Unit := .agg [.lit (.int .i64 p.k), .lit (.bool p.a), .lit (.int .i64 p.n), .lit (.bool p.s)]
def plVal (p : Pl) : Value := .agg #[.int .i64 p.k, .bool p.a, .int .i64 p.n, .bool p.s]
def plElem : Value → Option (DataW Unit × List MemPlace)
  | .agg cs => match cs.toList with
    | [.int .i64 k, .bool a, .int .i64 n, .bool s] => some (plDat ⟨k, a, n, s⟩, [])
    | _ => none
  | _ => none
theorem plElem_mk (p : Pl) : plElem (plVal p) = some (plDat p, []) := rfl
theorem plElem_inv {v : Value} {y : DataW Unit × List MemPlace} (h : plElem v = some y) : ∃ p, v = plVal p ∧ y = (plDat p, []) := by
  unfold plElem at h
  split at h
  · rename_i cs
    split at h
    · rename_i k a n s e
      refine ⟨⟨k, a, n, s⟩, ?_, (Option.some.inj h).symm⟩
      unfold plVal
      congr 1
      apply Array.ext'
      exact e
    · cases h
  · cases h
theorem plDat_inj {p q : Pl} (h : plDat p = plDat q) : p = q := by
  unfold plDat at h
  cases p; cases q
  simp only [DataW.agg.injEq, List.cons.injEq, DataW.lit.injEq, Lit.int.injEq, Lit.bool.injEq, true_and, and_true] at h
  obtain ⟨rfl, rfl, rfl, rfl⟩ := h
  rfl
def zeroP : Pl := ⟨0, false, 0, false⟩
theorem zeroE (w : World) : (zeroValue 169).run Tryz.prog w = .ok (plVal zeroP) w := by kernel_rfl

/-- has a ticket a place? -/
def hasP (ps : List Pl) (x : Int) : Bool := ps.any (fun p => p.k == x)
theorem hasP_iff {ps : List Pl} {x : Int} : hasP ps x = true ↔ ∃ p ∈ ps, p.k = x := by
  unfold hasP
  rw [List.any_eq_true]
  simp
/-- the place of a ticket; nothing, if it has none -/
def atP (ps : List Pl) (x : Int) : Pl := (ps.find? (fun p => p.k == x)).getD zeroP
/-- tickets, each of them once -/
def Once12 (ps : List Pl) : Prop := ps.Pairwise (fun a b => a.k ≠ b.k)
theorem Once12.inj : ∀ {ss : List Pl}, Once12 ss → ∀ {a b : Pl}, a ∈ ss → b ∈ ss → a.k = b.k → a = b
  | [], _, _, _, ha, _, _ => by cases ha
  | s :: r, h, a, b, ha, hb, e => by
    have h' := List.pairwise_cons.1 h
    rcases List.mem_cons.1 ha with rfl | ha'
    · rcases List.mem_cons.1 hb with rfl | hb'
      · rfl
      · exact absurd e (h'.1 b hb')
    · rcases List.mem_cons.1 hb with rfl | hb'
      · exact absurd e.symm (h'.1 a ha')
      · exact Once12.inj (show Once12 r from h'.2) ha' hb' e
theorem Once12.nodup {ps : List Pl} (h : Once12 ps) : ps.Nodup := h.imp (fun k q => k (by rw [q]))
theorem atP_of {ps : List Pl} (o : Once12 ps) {p : Pl} (hp : p ∈ ps) : atP ps p.k = p := by
  unfold atP
  cases hf : ps.find? (fun q => q.k == p.k) with
  | none => exact absurd (List.find?_eq_none.1 hf p hp) (by simp)
  | some q =>
    have h1 := List.find?_some hf
    have h2 := List.mem_of_find?_eq_some hf
    exact o.inj h2 hp (by simpa using h1)
theorem atP_no {ps : List Pl} {x : Int} (h : hasP ps x = false) : atP ps x = zeroP := by
  unfold atP
  rw [List.find?_eq_none.2 (fun p hp => by
    intro q
    have : hasP ps x = true := hasP_iff.2 ⟨p, hp, by simpa using q⟩
    rw [h] at this; cases this)]
  rfl
theorem atP_has {ps : List Pl} {x : Int} (h : hasP ps x = true) : atP ps x ∈ ps ∧ (atP ps x).k = x := by
  obtain ⟨p, hp, e⟩ := hasP_iff.1 h
  unfold atP
  cases hf : ps.find? (fun q => q.k == x) with
  | none => exact absurd (List.find?_eq_none.1 hf p hp) (by simp [e])
  | some q => exact ⟨List.mem_of_find?_eq_some hf, by simpa using List.find?_some hf⟩

/-- what a map reads as: of each ticket that has a place that place -/
def Reads12 (D : DataW Unit) (ps : List Pl) : Prop := (∀ x, has D (.int .i64 x) = hasP ps x) ∧ ∀ p ∈ ps, ∀ z, D.atKey (.int .i64 p.k) z = plDat p
theorem Reads12.nil : Reads12 (.map []) [] := ⟨fun _ => rfl, fun _ h => by cases h⟩
theorem lit_ne12 {x y : Int} (h : y ≠ x) : (Lit.int .i64 y) ≠ Lit.int .i64 x := fun k => h (by injection k)
/-- a place is laid, over one that was there or not -/
theorem Reads12.put {D : DataW Unit} {ps qs : List Pl} (h : Reads12 D ps) (m : IsMap D) (q : Pl) (h1 : ∀ p ∈ qs, p = q ∨ (p ∈ ps ∧ p.k ≠ q.k)) (h2 : q ∈ qs) (h3 : ∀ p ∈ ps, p.k ≠ q.k → p ∈ qs) : Reads12 (D.put (.int .i64 q.k) (plDat q)) qs := by
  refine ⟨fun y => ?_, fun e he z => ?_⟩
  · by_cases k : y = q.k
    · subst k
      rw [has_put_same m (keyI12 _)]
      exact (hasP_iff.2 ⟨q, h2, rfl⟩).symm
    · rw [has_put_other (lit_ne12 k), h.1, Bool.eq_iff_iff, hasP_iff, hasP_iff]
      constructor
      · rintro ⟨p, hp, rfl⟩
        exact ⟨p, h3 p hp k, rfl⟩
      · rintro ⟨p, hp, rfl⟩
        rcases h1 p hp with rfl | ⟨hp', _⟩
        · exact absurd rfl k
        · exact ⟨p, hp', rfl⟩
  · rcases h1 e he with rfl | ⟨he', k⟩
    · rw [atKey_put_same m (keyI12 _)]
    · rw [atKey_put_other (lit_ne12 k)]
      exact h.2 e he' z
theorem Reads12.del {D : DataW Unit} {ps qs : List Pl} (h : Reads12 D ps) (x : Int) (h1 : ∀ p, p ∈ qs ↔ p ∈ ps ∧ p.k ≠ x) : Reads12 (D.del (.int .i64 x)) qs := by
  refine ⟨fun y => ?_, fun e he z => ?_⟩
  · by_cases k : y = x
    · subst k
      rw [has_del_same]
      cases hq : hasP qs y with
      | false => rfl
      | true =>
        obtain ⟨p, hp, e⟩ := hasP_iff.1 hq
        exact absurd e ((h1 p).1 hp).2
    · rw [has_del_other (lit_ne12 k), h.1, Bool.eq_iff_iff, hasP_iff, hasP_iff]
      constructor
      · rintro ⟨p, hp, rfl⟩
        exact ⟨p, (h1 p).2 ⟨hp, k⟩, rfl⟩
      · rintro ⟨p, hp, rfl⟩
        exact ⟨p, ((h1 p).1 hp).1, rfl⟩
  · have he' := (h1 e).1 he
    rw [atKey_del_other (lit_ne12 he'.2)]
    exact h.2 e he'.1 z
/-- what a lookup finds, whether there is anything or not -/
theorem Reads12.look {D : DataW Unit} {ps : List Pl} (h : Reads12 D ps) (o : Once12 ps) (x : Int) : D.atKey (.int .i64 x) (plDat zeroP) = plDat (atP ps x) := by
  cases hc : hasP ps x with
  | true =>
    obtain ⟨p, hp, rfl⟩ := hasP_iff.1 hc
    rw [h.2 p hp, atP_of o hp]
  | false =>
    have := h.1 x
    rw [hc] at this
    rw [atKey_of_not_has this, atP_no hc]

/-- every key is a number -/
theorem key_int12 {w : World} {b n : Nat} {D : DataW Unit} (h : w.ownsMap Tryz.prog 3 plElem b n D) : ∀ kl, has D kl = true → ∃ x, kl = .int .i64 x := by
  intro kl hk
  obtain ⟨es, clock, hb, F, _, rfl⟩ := h
  obtain ⟨p, hp, hpk⟩ := List.any_eq_true.1 hk
  obtain ⟨x, hx, rfl⟩ := List.mem_map.1 (mem_sorted.1 hp)
  obtain ⟨y, hy⟩ := F.reads x hx
  rw [WideElems.rg_of hy] at hpk
  obtain ⟨a, _, e2, _⟩ := keyOf_int_inv Tryz.underlying3 (WideElems.rd_key hy)
  have := WideAt.sameKey_eq hpk
  exact ⟨a, by rw [← this, e2]⟩
theorem tight12 {w : World} {b n : Nat} {D : DataW Unit} (h : w.ownsMap Tryz.prog 3 plElem b n D) : w.ownsMap Tryz.prog 3 plElem b (size D) D := by
  obtain ⟨es, clock, hb, F, _, rfl⟩ := h
  exact ⟨es, clock, hb, F, by rw [size_eq, length_sorted]; simp, rfl⟩
theorem sub_len12 {α : Type} [DecidableEq α] : ∀ (l l' : List α), l.Nodup → (∀ x ∈ l, x ∈ l') → l.length ≤ l'.length
  | [], _, _, _ => Nat.zero_le _
  | a :: r, l', hn, hs => by
    obtain ⟨h1, h2⟩ := List.nodup_cons.1 hn
    have ha : a ∈ l' := hs a (by simp)
    have := sub_len12 r (l'.erase a) h2 (fun x hx => by
      have hx' : x ∈ l' := hs x (by simp [hx])
      exact (List.mem_erase_of_ne (fun q => h1 (by rw [← q]; exact hx))).2 hx')
    rw [List.length_erase_of_mem ha] at this
    have : 0 < l'.length := List.length_pos_of_mem ha
    simp only [List.length_cons]
    omega
theorem same_len12 {α : Type} [DecidableEq α] {l l' : List α} (h : l.Nodup) (h' : l'.Nodup) (k : ∀ x, x ∈ l ↔ x ∈ l') : l.length = l'.length :=
  Nat.le_antisymm (sub_len12 l l' h (fun x hx => (k x).1 hx)) (sub_len12 l' l h' (fun x hx => (k x).2 hx))
theorem same_perm {α : Type} [DecidableEq α] : ∀ {l l' : List α}, l.Nodup → l'.Nodup → (∀ x, x ∈ l ↔ x ∈ l') → l.Perm l'
  | [], l', _, _, k => by
    have : l' = [] := List.eq_nil_iff_forall_not_mem.2 (fun a ha => by have := (k a).2 ha; cases this)
    rw [this]
  | a :: r, l', h, h', k => by
    obtain ⟨h1, h2⟩ := List.nodup_cons.1 h
    have ha : a ∈ l' := (k a).1 (by simp)
    have hr : r.Perm (l'.erase a) := same_perm h2 (h'.erase a) (fun x => by
      constructor
      · intro hx
        exact (List.mem_erase_of_ne (fun q => h1 (by rw [← q]; exact hx))).2 ((k x).1 (by simp [hx]))
      · intro hx
        have hm := List.mem_of_mem_erase hx
        rcases List.mem_cons.1 ((k x).2 hm) with q | q
        · subst q
          exact absurd hx (List.Nodup.not_mem_erase h')
        · exact q)
    exact (hr.cons a).trans (List.perm_cons_erase ha).symm
theorem Reads12.size {w : World} {b n : Nat} {D : DataW Unit} {ss : List Pl} (h : Reads12 D ss) (o : w.ownsMap Tryz.prog 3 plElem b n D) (hn : Once12 ss) : size D = ss.length := by
  have KI := key_int12 o
  obtain ⟨ps, rfl, hp, hk⟩ := o.entries lawI12
  show ps.length = ss.length
  have e1 : (ps.map (fun p => match p.1 with | .int .i64 x => x | _ => 0)).length = ps.length := List.length_map _
  have e2 : (ss.map (fun e => e.k)).length = ss.length := List.length_map _
  rw [← e1, ← e2]
  have hi : ∀ p ∈ ps, ∃ x, p.1 = .int .i64 x := fun p hp' => KI p.1 (List.any_eq_true.2 ⟨p, hp', WideAt.sameKey_self (hk p hp')⟩)
  refine same_len12 ?_ (by unfold List.Nodup; rw [List.pairwise_map]; exact hn) ?_
  · unfold List.Nodup
    rw [List.pairwise_map]
    refine hp.imp_of_mem ?_
    intro p q hp1 hq1 hne e
    obtain ⟨x, hx⟩ := hi p hp1
    obtain ⟨y, hy⟩ := hi q hq1
    simp only [hx, hy] at e
    exact hne (by rw [hx, hy, e])
  · intro x
    have h1 := h.1 x
    constructor
    · intro hm
      obtain ⟨p, hp1, e⟩ := List.mem_map.1 hm
      obtain ⟨y, hy⟩ := hi p hp1
      simp only [hy] at e
      subst e
      have : has (DataW.map ps) (.int .i64 y) = true := List.any_eq_true.2 ⟨p, hp1, by rw [hy]; exact WideAt.sameKey_self (keyI12 _)⟩
      rw [h1] at this
      obtain ⟨a, ha, e⟩ := hasP_iff.1 this
      exact List.mem_map.2 ⟨a, ha, e⟩
    · intro hm
      obtain ⟨a, ha, e⟩ := List.mem_map.1 hm
      rw [hasP_iff.2 ⟨a, ha, e⟩] at h1
      obtain ⟨p, hp1, hpk⟩ := List.any_eq_true.1 h1
      have := WideAt.sameKey_eq hpk
      exact List.mem_map.2 ⟨p, hp1, by simp only [this]⟩

/-- block b is a map that has just these places -/
def Md12 (w : World) (b : Nat) (ps : List Pl) : Prop := ∃ D, w.ownsMap Tryz.prog 3 plElem b ps.length D ∧ Reads12 D ps
theorem Md12.of {w : World} {b n : Nat} {D : DataW Unit} {ps : List Pl} (o : w.ownsMap Tryz.prog 3 plElem b n D) (h : Reads12 D ps) (hn : Once12 ps) : Md12 w b ps :=
  ⟨D, by rw [← h.size o hn]; exact tight12 o, h⟩
theorem owns_keep12 {w w' : World} {b n : Nat} {D : DataW Unit} (h : w.ownsMap Tryz.prog 3 plElem b n D) {S : Nat → Prop} (o : Only S w w') (hn : ¬ S b) : w'.ownsMap Tryz.prog 3 plElem b n D := by
  have lt := h.lt
  obtain ⟨es, clock, hb, r⟩ := h
  exact ⟨es, clock, (o.block b lt hn).trans hb, r⟩
theorem Md12.keep {w w' : World} {b : Nat} {ps : List Pl} (h : Md12 w b ps) {S : Nat → Prop} (o : Only S w w') (hn : ¬ S b) : Md12 w' b ps := by
  obtain ⟨D, h1, h2⟩ := h
  exact ⟨D, owns_keep12 h1 o hn, h2⟩
theorem Md12.lt {w : World} {b : Nat} {ps : List Pl} (h : Md12 w b ps) : b < w.heap.size := by
  obtain ⟨D, h1, _⟩ := h
  exact h1.lt
theorem Md12.ne {w : World} {p b : Nat} {ps : List Pl} {t : TypeId} {cs : Array Value} (h : Md12 w b ps) (r : Row w p t cs) : p ≠ b := by
  rintro rfl
  obtain ⟨D, ⟨es, clock, hb, _⟩, _⟩ := h
  unfold Row at r
  rw [r] at hb
  cases hb
theorem Md12.still {w w' : World} {b : Nat} {ps : List Pl} (h : Md12 w b ps) (o : Only none_ w w') : Md12 w' b ps := h.keep o (fun s => s)
theorem only_turned12 {w w' : World} {b : Nat} (h : w.mapTurned w' b) : Only (fun k => k = b) w w' := (Only.of_grown h.grown).more (fun i _ e => by injection e)
/-- a lookup -/
theorem Md12.look {w : World} {b : Nat} {ps : List Pl} (h : Md12 w b ps) (o : Once12 ps) {x : Int} (wx : (Lit.int .i64 x).wf = true) :
    (Instr.lookup 145 (.map (some b)) (.int .i64 x) true).run Tryz.prog w = .ok (.tuple #[plVal (atP ps x), .bool (hasP ps x)]) w := by
  obtain ⟨D, h1, h2⟩ := h
  obtain ⟨v, zs, hrun, hv⟩ := h1.look_ok lawI12 Tryz.underlying145 (zeroE w) (plElem_mk zeroP) (keyOf_int_mk Tryz.underlying3 wx)
  rw [h2.1 x] at hrun
  rw [h2.look o x] at hv
  obtain ⟨p, rfl, e⟩ := plElem_inv hv
  injection e with e
  rw [plDat_inj e]
  exact hrun
/-- a store, over one that was there or not -/
theorem Md12.store {w : World} {b : Nat} {ps qs : List Pl} (h : Md12 w b ps) (hn : Once12 qs) (hl : ps.length ≤ 1000) (q : Pl) (wx : (Lit.int .i64 q.k).wf = true) (h1 : ∀ p ∈ qs, p = q ∨ (p ∈ ps ∧ p.k ≠ q.k)) (h2 : q ∈ qs) (h3 : ∀ p ∈ ps, p.k ≠ q.k → p ∈ qs) :
    ∃ w', (Instr.mapUpdate 145 (.map (some b)) (.int .i64 q.k) (plVal q)).run Tryz.prog w = .ok () w' ∧ Md12 w' b qs ∧ Only (fun k => k = b) w w' := by
  obtain ⟨D, k1, k2⟩ := h
  have IM : IsMap D := let ⟨es, _, _, _, _, e⟩ := k1; ⟨_, e⟩
  obtain ⟨w', e1, e2, e3⟩ := k1.store lawI12 Tryz.underlying145 (by unfold maxLen; omega) (keyOf_int_mk Tryz.underlying3 wx) (plElem_mk q)
  exact ⟨w', e1, Md12.of e2 (k2.put IM q h1 h2 h3) hn, only_turned12 e3⟩
/-- a ticket goes -/
theorem Md12.drop {w : World} {b : Nat} {ps qs : List Pl} (h : Md12 w b ps) (hn : Once12 qs) (x : Int) (wx : (Lit.int .i64 x).wf = true) (h1 : ∀ p, p ∈ qs ↔ p ∈ ps ∧ p.k ≠ x) (ty : TypeId) :
    ∃ w', (Builtin.delete_ #[145, 3] ty #[.map (some b), .int .i64 x]).run Tryz.prog w = .ok (.tuple #[]) w' ∧ Md12 w' b qs ∧ Only (fun k => k = b) w w' := by
  obtain ⟨D, k1, k2⟩ := h
  obtain ⟨w', e1, e2, e3⟩ := k1.drop lawI12 Tryz.underlying145 (keyOf_int_mk Tryz.underlying3 wx) ty
  exact ⟨w', e1, Md12.of e2 (k2.del x h1) hn, only_turned12 e3⟩

/-! ### a range under way -/
/-- what has come while the range is under way -/
def Got12 (ps : List Pl) (left : Lit → Bool) (xs : List Pl) : Prop := xs.Nodup ∧ ∀ e, e ∈ xs ↔ e ∈ ps ∧ left (.int .i64 e.k) = false
theorem Got12.start {D : DataW Unit} {ps : List Pl} (h : Reads12 D ps) : Got12 ps (has D) [] := by
  refine ⟨List.Pairwise.nil, fun e => ⟨fun q => (by cases q), fun ⟨he, q⟩ => ?_⟩⟩
  rw [h.1, hasP_iff.2 ⟨e, he, rfl⟩] at q
  cases q
/-- one key is struck -/
abbrev strike12 (left : Lit → Bool) (x : Int) : Lit → Bool := fun z => left z && !z.sameKey (.int .i64 x)
theorem key_eq12 (x y : Int) : (Lit.int .i64 x).sameKey (.int .i64 y) = (x == y) := by
  simp [Lit.sameKey]
  rfl
theorem Got12.step {ps xs : List Pl} {left : Lit → Bool} {e : Pl} (h : Got12 ps left xs) (hn : Once12 ps) (he : e ∈ ps) (hl : left (.int .i64 e.k) = true) : Got12 ps (strike12 left e.k) (xs ++ [e]) := by
  refine ⟨?_, fun a => ?_⟩
  · unfold List.Nodup
    rw [List.pairwise_append]
    refine ⟨h.1, List.pairwise_singleton _ _, fun a ha b hb q => ?_⟩
    have : b = e := by simpa using hb
    subst this
    subst q
    have := ((h.2 _).1 ha).2
    rw [hl] at this
    cases this
  · rw [List.mem_append, h.2 a]
    simp only [strike12, key_eq12, List.mem_singleton]
    constructor
    · rintro (⟨ha, q⟩ | rfl)
      · exact ⟨ha, by rw [q]; rfl⟩
      · exact ⟨he, by simp⟩
    · rintro ⟨ha, q⟩
      by_cases k : a.k = e.k
      · exact .inr (hn.inj ha he k)
      · have kf : (a.k == e.k) = false := by simp [k]
        rw [kf] at q
        simp at q
        exact .inl ⟨ha, q⟩
theorem Got12.len {ps xs : List Pl} {left : Lit → Bool} (h : Got12 ps left xs) : xs.length ≤ ps.length := sub_len12 _ _ h.1 (fun x hx => ((h.2 x).1 hx).1)
theorem Got12.over {ps xs : List Pl} {left : Lit → Bool} (h : Got12 ps left xs) (hn : Once12 ps) (hl : ∀ kl, left kl = false) : xs.Perm ps := same_perm h.1 hn.nodup (fun e => by
  rw [h.2 e, hl]
  simp)
theorem ranges_keep12 {w w' : World} {b r n cnt : Nat} {D : DataW Unit} {left : Lit → Bool} (h : w.ranges Tryz.prog 3 plElem b r n D left cnt) {S : Nat → Prop} (o : Only S w w') (hb : ¬ S b) (hr : ¬ S r) : w'.ranges Tryz.prog 3 plElem b r n D left cnt := by
  have h1 := h.owns.lt
  have h2 := h.lt
  obtain ⟨es, clock, since, seen, c0, k1, F, hs, hD, k2, rest⟩ := h
  exact ⟨es, clock, since, seen, c0, (o.block b h1 hb).trans k1, F, hs, hD, (o.block r h2 hr).trans k2, rest⟩
theorem entry_of12 {D : DataW Unit} {ps : List Pl} (h : Reads12 D ps) {x : Int} {p : Pl} (hat : ∀ zd, D.atKey (.int .i64 x) zd = plDat p) : p ∈ ps ∧ p.k = x := by
  cases hc : hasP ps x with
  | true =>
    obtain ⟨q, hq, rfl⟩ := hasP_iff.1 hc
    have := (h.2 q hq (plDat zeroP)).symm.trans (hat (plDat zeroP))
    rw [← plDat_inj this]
    exact ⟨hq, rfl⟩
  | false =>
    have h1 := h.1 x
    rw [hc] at h1
    have e1 := hat (plDat zeroP)
    have e2 := hat (plDat ⟨1, false, 0, false⟩)
    rw [atKey_of_not_has h1] at e1 e2
    have := plDat_inj (e1.trans e2.symm)
    exact absurd this (by decide)
end Go.Proofs.YtfbpjobobdidiaaGreatDoor


/- Turns, told plainly: places in the order in which they were taken. No condition but what each says. -/
namespace Go.Proofs.YtfbpjobobdidiaaGreatDoor
open Go.RowKit
set_option linter.unusedVariables false
set_option maxRecDepth 100000

/-- a place, without its turn -/
structure Sl where
  k : Int
  a : Bool
  s : Bool
deriving DecidableEq
def Pl.sl (p : Pl) : Sl := ⟨p.k, p.a, p.s⟩
/-- a row: the places ahead, or the others -/
def rowL (a : Bool) (ss : List Sl) : List Sl := ss.filter (fun s => s.a == a)
def hasL (ss : List Sl) (x : Int) : Bool := ss.any (fun s => s.k == x)
def atL (ss : List Sl) (x : Int) : Sl := (ss.find? (fun s => s.k == x)).getD ⟨0, false, false⟩
def cutL (ss : List Sl) (x : Int) : List Sl := ss.filter (fun s => !(s.k == x))
def mostL (nd na : Nat) (a : Bool) : Nat := if a then na else nd
def putC (nd na : Nat) (ss : List Sl) (x : Int) (a : Bool) : Int := if x < 1 then 1 else if hasL ss x then 4 else if mostL nd na a ≤ (rowL a ss).length then 2 else 0
def putS (nd na : Nat) (ss : List Sl) (x : Int) (a : Bool) : List Sl := if putC nd na ss x a = 0 then ss ++ [⟨x, a, true⟩] else ss
def waitC (ss : List Sl) (x : Int) (v : Bool) : Int := if hasL ss x then (if (atL ss x).s == v then 5 else 0) else 3
def waitS (ss : List Sl) (x : Int) (v : Bool) : List Sl := ss.map (fun s => if s.k = x then { s with s := v } else s)
def promC (nd : Nat) (ss : List Sl) (x : Int) : Int := if hasL ss x then (if (atL ss x).a then (if nd ≤ (rowL false ss).length then 2 else 0) else 5) else 3
def promS (nd : Nat) (ss : List Sl) (x : Int) : List Sl := if promC nd ss x = 0 then cutL ss x ++ [⟨x, false, (atL ss x).s⟩] else ss
def endC (ss : List Sl) (x : Int) : Int := if hasL ss x then 0 else 3
/-- all that wait -/
def waitL (ss : List Sl) : List Int := ((rowL false ss ++ rowL true ss).filter (·.s)).map (·.k)

theorem hasL_iff {ss : List Sl} {x : Int} : hasL ss x = true ↔ ∃ p ∈ ss, p.k = x := by
  unfold hasL
  rw [List.any_eq_true]
  simp
def OnceL (ss : List Sl) : Prop := ss.Pairwise (fun a b => a.k ≠ b.k)
theorem OnceL.inj : ∀ {ss : List Sl}, OnceL ss → ∀ {a b : Sl}, a ∈ ss → b ∈ ss → a.k = b.k → a = b
  | [], _, _, _, ha, _, _ => by cases ha
  | s :: r, h, a, b, ha, hb, e => by
    have h' := List.pairwise_cons.1 h
    rcases List.mem_cons.1 ha with rfl | ha'
    · rcases List.mem_cons.1 hb with rfl | hb'
      · rfl
      · exact absurd e (h'.1 b hb')
    · rcases List.mem_cons.1 hb with rfl | hb'
      · exact absurd e.symm (h'.1 a ha')
      · exact OnceL.inj (show OnceL r from h'.2) ha' hb' e
theorem atL_has {ss : List Sl} {x : Int} (h : hasL ss x = true) : atL ss x ∈ ss ∧ (atL ss x).k = x := by
  obtain ⟨p, hp, e⟩ := hasL_iff.1 h
  unfold atL
  cases hf : ss.find? (fun q => q.k == x) with
  | none => exact absurd (List.find?_eq_none.1 hf p hp) (by simp [e])
  | some q => exact ⟨List.mem_of_find?_eq_some hf, by simpa using List.find?_some hf⟩
theorem atL_no {ss : List Sl} {x : Int} (h : hasL ss x = false) : atL ss x = ⟨0, false, false⟩ := by
  unfold atL
  rw [List.find?_eq_none.2 (fun p hp => by
    intro q
    have : hasL ss x = true := hasL_iff.2 ⟨p, hp, by simpa using q⟩
    rw [h] at this; cases this)]
  rfl
theorem atL_of {ss : List Sl} (o : OnceL ss) {p : Sl} (hp : p ∈ ss) : atL ss p.k = p := by
  have h := atL_has (hasL_iff.2 ⟨p, hp, rfl⟩)
  exact o.inj h.1 hp h.2

/-! ### places with turns, and without -/
theorem has_sl (ps : List Pl) (x : Int) : hasL (ps.map Pl.sl) x = hasP ps x := by
  unfold hasL hasP
  rw [List.any_map]
  rfl
theorem at_sl (ps : List Pl) (x : Int) : atL (ps.map Pl.sl) x = (atP ps x).sl := by
  unfold atL atP
  rw [List.find?_map]
  have : ((fun s : Sl => s.k == x) ∘ Pl.sl) = (fun p : Pl => p.k == x) := rfl
  rw [this]
  cases ps.find? (fun p => p.k == x) <;> rfl
theorem row_sl (a : Bool) (ps : List Pl) : rowL a (ps.map Pl.sl) = (ps.filter (fun p => p.a == a)).map Pl.sl := by
  unfold rowL
  rw [List.filter_map]
  rfl
theorem cut_sl (ps : List Pl) (x : Int) : cutL (ps.map Pl.sl) x = (ps.filter (fun p => !(p.k == x))).map Pl.sl := by
  unfold cutL
  rw [List.filter_map]
  rfl
theorem once_sl {ps : List Pl} (h : Once12 ps) : OnceL (ps.map Pl.sl) := by
  unfold OnceL
  rw [List.pairwise_map]
  exact h
/-- all that wait, in their order -/
def waitP (ps : List Pl) : List Pl := (ps.filter (fun p => p.a == false) ++ ps.filter (fun p => p.a == true)).filter (·.s)
theorem wait_sl (ps : List Pl) : waitL (ps.map Pl.sl) = (waitP ps).map (·.k) := by
  unfold waitL waitP
  rw [row_sl, row_sl, ← List.map_append, List.filter_map, List.map_map]
  rfl
theorem wait_mem {ps : List Pl} {p : Pl} : p ∈ waitP ps ↔ p ∈ ps ∧ p.s = true := by
  unfold waitP
  simp only [List.mem_filter, List.mem_append]
  constructor
  · rintro ⟨⟨h, _⟩ | ⟨h, _⟩, hs⟩ <;> exact ⟨h, hs⟩
  · rintro ⟨h, hs⟩
    refine ⟨?_, hs⟩
    cases e : p.a
    · exact .inl ⟨h, by simp⟩
    · exact .inr ⟨h, by simp⟩
/-- turns, each of them later than those ahead of it -/
def Rise (ps : List Pl) : Prop := ps.Pairwise (fun a b => a.n < b.n)
theorem wait_rise {ps : List Pl} (h : Rise ps) (hb : ∀ p ∈ ps, 0 ≤ p.n ∧ p.n < 1000000000) : (waitP ps).Pairwise (fun p q => kv p < kv q) := by
  unfold waitP
  apply List.Pairwise.filter
  rw [List.pairwise_append]
  have part : ∀ a : Bool, (ps.filter (fun p => p.a == a)).Pairwise (fun p q => kv p < kv q) := fun a => by
    refine (h.filter (fun p => p.a == a)).imp_of_mem ?_
    intro p q hp hq hlt
    have e1 : p.a = a := by simpa using (List.mem_filter.1 hp).2
    have e2 : q.a = a := by simpa using (List.mem_filter.1 hq).2
    unfold kv
    rw [e1, e2]
    omega
  refine ⟨part false, part true, fun p hp q hq => ?_⟩
  have e1 := List.mem_filter.1 hp
  have e2 := List.mem_filter.1 hq
  have f1 : p.a = false := by simpa using e1.2
  have f2 : q.a = true := by simpa using e2.2
  have b1 := hb p e1.1
  have b2 := hb q e2.1
  unfold kv
  rw [f1, f2]
  simp
  omega
theorem wait_nodup {ps : List Pl} (h : Rise ps) (hb : ∀ p ∈ ps, 0 ≤ p.n ∧ p.n < 1000000000) : (waitP ps).Nodup := (wait_rise h hb).imp (fun k q => by rw [q] at k; omega)
theorem wait_perm {ps xs : List Pl} (h : Rise ps) (hb : ∀ p ∈ ps, 0 ≤ p.n ∧ p.n < 1000000000) (hp : xs.Perm ps) : (xs.filter (·.s)).Perm (waitP ps) := by
  have nd : ps.Nodup := h.imp (fun k q => by rw [q] at k; omega)
  refine same_perm ((hp.nodup_iff.2 nd).filter _) (wait_nodup h hb) (fun p => ?_)
  rw [wait_mem, List.mem_filter, hp.mem_iff]
theorem two_len {α : Type} (f : α → Bool) (l : List α) : (l.filter (fun x => f x == false)).length + (l.filter (fun x => f x == true)).length = l.length := by
  induction l with
  | nil => rfl
  | cons x l ih =>
    rw [List.filter_cons, List.filter_cons]
    cases f x <;> simp at ih ⊢ <;> omega
theorem wait_len (ps : List Pl) : (waitP ps).length ≤ ps.length := by
  unfold waitP
  refine Nat.le_trans (List.length_filter_le _ _) ?_
  rw [List.length_append, two_len]
  exact Nat.le_refl _
theorem rows_len (ss : List Sl) : (rowL false ss).length + (rowL true ss).length = ss.length := two_len Sl.a ss
end Go.Proofs.YtfbpjobobdidiaaGreatDoor


/- Turns in memory: what only reads: State, Free, room. -/
namespace Go.Proofs.YtfbpjobobdidiaaGreatDoor
open Go.RowKit Go.Maps
set_option linter.unusedVariables false
set_option maxRecDepth 100000

/-- turns at block p, their map at block b, behind L turns -/
structure TnAt (w : World) (p b nd na L : Nat) (ps : List Pl) : Prop where
  row : Row w p 147 #[.int .i64 nd, .int .i64 na, .map (some b), .int .i64 L]
  md : Md12 w b ps
  once : Once12 ps
  rise : Rise ps
  top : ∀ q ∈ ps, 0 ≤ q.n ∧ q.n ≤ L
  few : ∀ a, (ps.filter (fun q => q.a == a)).length ≤ mostL nd na a
  nd64 : nd ≤ 64
  na64 : na ≤ 64
abbrev two12 (p b : Nat) : Nat → Prop := fun k => k = p ∨ k = b
theorem TnAt.keep {w w' : World} {p b nd na L : Nat} {ps : List Pl} (h : TnAt w p b nd na L ps) {S : Nat → Prop} (o : Only S w w') (hp : ¬ S p) (hb : ¬ S b) : TnAt w' p b nd na L ps :=
  ⟨o.row h.row hp, h.md.keep o hb, h.once, h.rise, h.top, h.few, h.nd64, h.na64⟩
theorem TnAt.still {w w' : World} {p b nd na L : Nat} {ps : List Pl} (h : TnAt w p b nd na L ps) (o : Only none_ w w') : TnAt w' p b nd na L ps := h.keep o (fun s => s) (fun s => s)
theorem TnAt.len {w : World} {p b nd na L : Nat} {ps : List Pl} (h : TnAt w p b nd na L ps) : ps.length ≤ 128 := by
  have e := two_len Pl.a ps
  have h1 := h.few false
  have h2 := h.few true
  have := h.nd64
  have := h.na64
  unfold mostL at h1 h2
  simp at h1 h2
  simp at e
  omega
theorem TnAt.ne {w : World} {p b nd na L : Nat} {ps : List Pl} (h : TnAt w p b nd na L ps) : p ≠ b := h.md.ne h.row

def Freed12 (nd na : Nat) (ps : List Pl) (w : World) (e : Ending) (w' : World) : Prop :=
  e = .returned (.tuple #[.int .i64 ((nd : Int) - (ps.filter (fun q => q.a == false)).length), .int .i64 ((na : Int) - (ps.filter (fun q => q.a == true)).length)]) ∧ Only none_ w w'
theorem filt_step {f : Pl → Bool} {xs : List Pl} {q : Pl} : ((xs ++ [q]).filter f).length = (xs.filter f).length + (if f q then 1 else 0) := by
  rw [List.filter_append, List.length_append]
  cases h : f q <;> simp [h]
set_option maxHeartbeats 2000000 in
theorem tfree_any {p b nd na L : Nat} {ps : List Pl} (w : World) (h : TnAt w p b nd na L ps) :
    Calls Tryz.prog 52 #[.pointer (some ⟨p, 0, none⟩)] w (Freed12 nd na ps w) := by
  have c0 : w.cell? ⟨p, 0, none⟩ = some (.int .i64 nd) := by rw [h.row.cell]; rfl
  have c1 : w.cell? ⟨p, 1, none⟩ = some (.int .i64 na) := by rw [h.row.cell]; rfl
  have c2 : w.cell? ⟨p, 2, none⟩ = some (.map (some b)) := by rw [h.row.cell]; rfl
  have LE := h.len
  have d64 := h.nd64
  have a64 := h.na64
  obtain ⟨D0, hown, hr0⟩ := h.md
  have OC := Lib.hid h.once
  have OW := Lib.hid hown
  have HR := Lib.hid hr0
  have lb := hown.lt
  clear h hown hr0
  go_enter Tryz.func52, Tryz.ntmps52
  go_wp2_with fail
  go_quiet (fail)
  have OW2 := Lib.hid (owns_keep12 OW.out ((Only.refl none_ w).drewN nq) (fun s => s))
  have N0 := Lib.hid ((Only.refl none_ w).drewN nq)
  obtain ⟨w9, hw9⟩ : ∃ w9, w9 = w.drewN nq := ⟨_, rfl⟩
  have c2' : w9.cell? ⟨p, 2, none⟩ = some (.map (some b)) := by rw [hw9]; exact c2
  rw [← hw9] at OW2 N0 ⊢
  clear c0 c1 c2 hw9 OW
  go_wp2_with (first
    | (at_range; refine wpList_range_own _ rfl _ 145 rfl 3 169 lawI12 Tryz.underlying145 _ b ps.length D0 rfl OW2.out ?_; intro w0 hrg0 hg0 hs0)
    | go_in)
  have RG0 := Lib.hid hrg0
  have G0 := Lib.hid (show Only none_ w w0 from N0.out.same ((Only.of_grown hg0).more (fun _ _ e => by cases e)))
  have sz0 : w.heap.size ≤ w9.heap.size := N0.out.size
  clear hrg0 hg0 hs0
  go_frame
  go_loopw [2, 3] (fun v2 v3 wr => ∃ (left : Lit → Bool) (cnt : Nat) (xs : List Pl), wr.ranges Tryz.prog 3 plElem b w9.heap.size ps.length D0 left cnt ∧ v2 = .int .i64 ((nd : Int) - (xs.filter (fun q => q.a == false)).length) ∧ v3 = .int .i64 ((na : Int) - (xs.filter (fun q => q.a == true)).length) ∧ Got12 ps left xs ∧ Only none_ w wr)
    (fun _ _ wr => wr.rangeLeft b w9.heap.size)
  case atStart =>
    exact ⟨_, _, [], RG0.out, by simp, by simp, Got12.start HR.out, G0.out⟩
  case round =>
    obtain ⟨left, cnt, xs, hrg, rfl, rfl, hg, ow⟩ := hrel
    have RG := Lib.hid hrg
    have GO := Lib.hid hg
    have OO := Lib.hid ow
    have l1 := List.length_filter_le (fun q : Pl => q.a == false) xs
    have l2 := List.length_filter_le (fun q : Pl => q.a == true) xs
    have xl := hg.len
    clear ow hg
    obtain ⟨m, hm⟩ : ∃ m, (xs.filter (fun q => q.a == false)).length = m := ⟨_, rfl⟩
    obtain ⟨n, hn⟩ : ∃ n, (xs.filter (fun q => q.a == true)).length = n := ⟨_, rfl⟩
    have HM := Lib.hid hm
    have HN := Lib.hid hn
    rw [hm] at l1 ⊢
    rw [hn] at l2 ⊢
    clear hm hn
    go_wp2_with (first
      | (at_next; refine wpList_next_ranges _ rfl _ rfl 3 lawI12 plElem (Value.int .i64) plVal (fun key kl hkey => by obtain ⟨x, rfl, _⟩ := Maps.keyOf_int_inv Tryz.underlying3 hkey; exact ⟨x, rfl⟩) (fun v y hv => by obtain ⟨q, rfl, _⟩ := plElem_inv hv; exact ⟨q, rfl⟩) b w9.heap.size ps.length _ _ _ rfl RG.out ?_ ?_)
      | go_in)
    · intro _ hl0
      have PP := GO.out.over OC.out hl0
      have e1 := (PP.filter (fun q => q.a == false)).length_eq
      have e2 := (PP.filter (fun q => q.a == true)).length_eq
      have E1 := Lib.hid (HM.out.symm.trans e1)
      have E2 := Lib.hid (HN.out.symm.trans e2)
      clear hl0 PP e1 e2
      go_wp2_with fail
      go_ret2
      exact ⟨by rw [E1.out, E2.out]; rfl, OO.out⟩
    · intro x q kl y zs w1 cnt1 hkey hlx hq hat hrg1 hlt hg1 hs1 hen
      obtain ⟨x', ex, rfl, hwx⟩ := Maps.keyOf_int_inv Tryz.underlying3 hkey
      cases ex
      rw [plElem_mk] at hq
      injection hq with hq
      injection hq with hq1 hq2
      subst hq1 hq2
      obtain ⟨qm, rfl⟩ := entry_of12 HR.out hat
      have G1 := Lib.hid (Only.of_grown hg1)
      have O3 := Lib.hid (OO.out.trans G1.out (fun i hi z => by have := Option.some.inj z; omega))
      have GS := Lib.hid (GO.out.step OC.out qm hlx)
      have RG1 := Lib.hid hrg1
      have RA := Lib.hid (fun o => World.ranges.alloc (o := o) (show w1.ranges Tryz.prog 3 plElem b w9.heap.size ps.length D0 (strike12 left q.k) cnt1 from hrg1))
      have S2 := Lib.hid (filt_step (f := fun q : Pl => q.a == false) (xs := xs) (q := q))
      have S3 := Lib.hid (filt_step (f := fun q : Pl => q.a == true) (xs := xs) (q := q))
      unfold plVal at hen ⊢
      clear hkey hat hrg1 hg1 hs1 hlx qm
      cases ha : q.a with
      | false =>
        rw [ha] at hen
        go_wp2_with fail
        go_roundw
        case rel => exact ⟨strike12 left q.k, cnt1, xs ++ [q], RA.out _, by rw [S2.out, HM.out, ha]; simp; omega, by rw [S3.out, HN.out, ha]; simp, GS.out, O3.out.alloc _⟩
        case measure => rw [World.ranges.left_eq (RA.out _), RG.out.left_eq]; exact hlt
      | true =>
        rw [ha] at hen
        go_wp2_with fail
        go_roundw
        case rel => exact ⟨strike12 left q.k, cnt1, xs ++ [q], RA.out _, by rw [S2.out, HM.out, ha]; simp, by rw [S3.out, HN.out, ha]; simp; omega, GS.out, O3.out.alloc _⟩
        case measure => rw [World.ranges.left_eq (RA.out _), RG.out.left_eq]; exact hlt
end Go.Proofs.YtfbpjobobdidiaaGreatDoor


/- Turns in memory: a ticket's place, room, and who comes in. -/
namespace Go.Proofs.YtfbpjobobdidiaaGreatDoor
open Go.RowKit Go.Maps
set_option linter.unusedVariables false
set_option maxRecDepth 100000

def roomP (nd na : Nat) (ps : List Pl) (a : Bool) : Int := (mostL nd na a : Int) - (ps.filter (fun q => q.a == a)).length
theorem troom_any {p b nd na L : Nat} {ps : List Pl} (a : Bool) (w : World) (h : TnAt w p b nd na L ps) :
    Calls Tryz.prog 147 #[.pointer (some ⟨p, 0, none⟩), .bool a] w fun e w' => e = .returned (.int .i64 (roomP nd na ps a)) ∧ Only none_ w w' := by
  have FR := Lib.hid (tfree_any w h)
  unfold Freed12 at FR
  unfold roomP
  clear h
  cases a with
  | false =>
    have E := Lib.hid (show mostL nd na false = nd from rfl)
    rw [E.out]
    generalize (ps.filter (fun q => q.a == false)).length = m at *
    generalize (ps.filter (fun q => q.a == true)).length = n at *
    go_enter Tryz.func147, Tryz.ntmps147
    go_wp2_with fail
    (with_reducible refine (FR.out).mono ?_)
    rintro e w1 ⟨rfl, o⟩
    have O := Lib.hid o
    clear o
    go_wp2_with fail
    go_ret
    exact ⟨rfl, O.out⟩
  | true =>
    have E := Lib.hid (show mostL nd na true = na from rfl)
    rw [E.out]
    generalize (ps.filter (fun q => q.a == false)).length = m at *
    generalize (ps.filter (fun q => q.a == true)).length = n at *
    go_enter Tryz.func147, Tryz.ntmps147
    go_wp2_with fail
    (with_reducible refine (FR.out).mono ?_)
    rintro e w1 ⟨rfl, o⟩
    have O := Lib.hid o
    clear o
    go_wp2_with fail
    go_ret
    exact ⟨rfl, O.out⟩

theorem tat_yes {p b nd na L : Nat} {ps : List Pl} (x : Int) (w : World) (h : TnAt w p b nd na L ps) (wx : (Lit.int .i64 x).wf = true) (hx : hasP ps x = true) :
    Calls Tryz.prog 112 #[.pointer (some ⟨p, 0, none⟩), .int .i64 x] w fun e w' => e = .returned (.agg #[.int .i64 (atP ps x).k, .bool (atP ps x).a, .int .i64 (atP ps x).n, .bool (atP ps x).s]) ∧ Only none_ w w' := by
  have c2 : w.cell? ⟨p, 2, none⟩ = some (.map (some b)) := by rw [h.row.cell]; rfl
  have o1 := (Only.refl none_ w).alloc (.cells #[.int .i64 0, .bool false, .int .i64 0, .bool false] 169)
  have LK := (h.md.still o1).look h.once wx
  have c2' : (w.alloc (.cells #[.int .i64 0, .bool false, .int .i64 0, .bool false] 169)).cell? ⟨p, 2, none⟩ = some (.map (some b)) := o1.cell c2 (fun s => s)
  rw [hx] at LK
  have lp := h.row.lt
  have O1 := Lib.hid o1
  generalize atP ps x = q at *
  unfold plVal at LK
  clear h wx hx o1
  go_enter Tryz.func112, Tryz.ntmps112
  go_wp2_with fail
  (with_reducible refine (unless_yes _ _).mono ?_)
  rintro e w' ⟨rfl, rfl⟩
  go_wp2_with fail
  refine bodyPost_ret (v := .agg #[.int .i64 q.k, .bool q.a, .int .i64 q.n, .bool q.s]) (by simp [results, Tryz.results112, go_sem]) rfl ⟨rfl, ?_⟩
  exact ((Only.refl _ _).alloc _).alloc _
theorem tat_no {p b nd na L : Nat} {ps : List Pl} (x : Int) (w : World) (h : TnAt w p b nd na L ps) (wx : (Lit.int .i64 x).wf = true) (hx : hasP ps x = false) :
    Calls Tryz.prog 112 #[.pointer (some ⟨p, 0, none⟩), .int .i64 x] w fun e w' => e = left 3 ∧ Only none_ w w' := by
  have c2 : w.cell? ⟨p, 2, none⟩ = some (.map (some b)) := by rw [h.row.cell]; rfl
  have o1 := (Only.refl none_ w).alloc (.cells #[.int .i64 0, .bool false, .int .i64 0, .bool false] 169)
  have LK := (h.md.still o1).look h.once wx
  have c2' : (w.alloc (.cells #[.int .i64 0, .bool false, .int .i64 0, .bool false] 169)).cell? ⟨p, 2, none⟩ = some (.map (some b)) := o1.cell c2 (fun s => s)
  rw [hx] at LK
  have lp := h.row.lt
  have O1 := Lib.hid o1
  generalize atP ps x = q at *
  unfold plVal at LK
  clear h wx hx o1
  go_enter Tryz.func112, Tryz.ntmps112
  go_wp2_with fail
  (with_reducible refine (unless_no _ _).mono ?_)
  rintro e w' ⟨rfl, rfl⟩
  go_wp2_with fail
  exact ⟨rfl, rfl, O1.out.alloc _⟩

/-- a ticket has a place in its row, with the last turn -/
def enterP (ps : List Pl) (L : Nat) (q : Pl) : List Pl := ps.filter (fun p => !(p.k == q.k)) ++ [⟨q.k, q.a, L + 1, q.s⟩]
theorem enter_at {w w' : World} {p b nd na L : Nat} {ps : List Pl} {q : Pl} (h : TnAt w p b nd na L ps) (hr : 0 < roomP nd na ps q.a) (r : Row w' p 147 #[.int .i64 nd, .int .i64 na, .map (some b), .int .i64 ((L + 1 : Nat) : Int)]) (m : Md12 w' b (enterP ps L q)) (o : Once12 (enterP ps L q)) : TnAt w' p b nd na (L + 1) (enterP ps L q) := by
  refine ⟨r, m, o, ?_, ?_, ?_, h.nd64, h.na64⟩
  · unfold Rise enterP
    rw [List.pairwise_append]
    refine ⟨h.rise.filter _, List.pairwise_singleton _ _, fun a ha c hc => ?_⟩
    rw [List.mem_singleton.1 hc]
    have := (h.top a (List.mem_filter.1 ha).1).2
    show a.n < (L : Int) + 1
    omega
  · intro a ha
    rcases List.mem_append.1 ha with ha | ha
    · have := h.top a (List.mem_filter.1 ha).1
      omega
    · rw [List.mem_singleton.1 ha]
      show (0 : Int) ≤ (L : Int) + 1 ∧ (L : Int) + 1 ≤ ((L + 1 : Nat) : Int)
      omega
  · intro a
    unfold enterP
    have h1 := h.few a
    have h2 : ((ps.filter (fun p => !(p.k == q.k))).filter (fun p => p.a == a)).length ≤ (ps.filter (fun p => p.a == a)).length := by
      rw [List.filter_filter]
      have : (fun p : Pl => (p.a == a) && !(p.k == q.k)) = fun p => (!(p.k == q.k)) && (p.a == a) := by funext p; rw [Bool.and_comm]
      rw [this, ← List.filter_filter]
      exact List.length_filter_le _ _
    rw [List.filter_append, List.length_append]
    by_cases e : q.a = a
    · subst e
      have : (List.filter (fun p : Pl => p.a == q.a) [⟨q.k, q.a, (L : Int) + 1, q.s⟩]).length ≤ 1 := List.length_filter_le _ _
      unfold roomP at hr
      omega
    · have : (List.filter (fun p : Pl => p.a == a) [⟨q.k, q.a, (L : Int) + 1, q.s⟩]).length = 0 := by
        simp [e]
      omega
theorem enter_once {ps : List Pl} (h : Once12 ps) (L : Nat) (q : Pl) : Once12 (enterP ps L q) := by
  unfold Once12 enterP
  rw [List.pairwise_append]
  refine ⟨h.filter _, List.pairwise_singleton _ _, fun a ha c hc => ?_⟩
  rw [List.mem_singleton.1 hc]
  simpa using (List.mem_filter.1 ha).2
theorem tenter_no {p b nd na L : Nat} {ps : List Pl} (q : Pl) (w : World) (h : TnAt w p b nd na L ps) (hr : ¬ 0 < roomP nd na ps q.a) :
    Calls Tryz.prog 113 #[.pointer (some ⟨p, 0, none⟩), .agg #[.int .i64 q.k, .bool q.a, .int .i64 q.n, .bool q.s]] w fun e w' => e = left 2 ∧ Only none_ w w' := by
  have o1 := (Only.refl none_ w).alloc (.cells #[.int .i64 q.k, .bool q.a, .int .i64 q.n, .bool q.s] 169)
  have O1 := Lib.hid o1
  have RM := Lib.hid (troom_any q.a _ (h.still o1))
  have d : decide (0 < roomP nd na ps q.a) = false := by simpa using hr
  clear h o1 hr
  generalize roomP nd na ps q.a = r at *
  go_enter Tryz.func113, Tryz.ntmps113
  go_wp2_with fail
  (with_reducible refine (RM.out).mono ?_)
  rintro e w1 ⟨rfl, o⟩
  have O2 := Lib.hid (O1.out.same o)
  clear o
  go_wp2_with fail
  (with_reducible refine (unless_no _ _).mono ?_)
  rintro e w' ⟨rfl, rfl⟩
  go_wp2_with fail
  exact ⟨rfl, rfl, O2.out⟩
set_option maxHeartbeats 2000000 in
theorem tenter_yes {p b nd na L : Nat} {ps : List Pl} (q : Pl) (w : World) (h : TnAt w p b nd na L ps) (hr : 0 < roomP nd na ps q.a) (hL : L < 100000000) (wx : (Lit.int .i64 q.k).wf = true) :
    Calls Tryz.prog 113 #[.pointer (some ⟨p, 0, none⟩), .agg #[.int .i64 q.k, .bool q.a, .int .i64 q.n, .bool q.s]] w fun e w' => e = .returned (.tuple #[]) ∧ TnAt w' p b nd na (L + 1) (enterP ps L q) ∧ Only (two12 p b) w w' := by
  have o1 := (Only.refl none_ w).alloc (.cells #[.int .i64 q.k, .bool q.a, .int .i64 q.n, .bool q.s] 169)
  have O1 := Lib.hid o1
  have RM := Lib.hid (troom_any q.a _ (h.still o1))
  have d : decide (0 < roomP nd na ps q.a) = true := by simpa using hr
  have H := Lib.hid h
  have HR := Lib.hid hr
  have lp := h.row.lt
  have lb := h.md.lt
  have ne := h.ne
  have RX := Lib.hid (Row.fresh w 169 #[.int .i64 q.k, .bool q.a, .int .i64 q.n, .bool q.s])
  clear h o1 hr
  generalize roomP nd na ps q.a = r at RM d
  go_enter Tryz.func113, Tryz.ntmps113
  go_wp2_with fail
  (with_reducible refine (RM.out).mono ?_)
  rintro e w1 ⟨rfl, o⟩
  have O2 := Lib.hid (O1.out.same o)
  have RX1 := Lib.hid (o.still RX.out)
  have H1 := Lib.hid (H.out.still O2.out)
  obtain ⟨x, hx⟩ : ∃ x, w.heap.size = x := ⟨_, rfl⟩
  have nx : p ≠ x := by omega
  have nb : b ≠ x := by omega
  rw [hx] at RX1 ⊢
  have HX := Lib.hid hx
  clear o RX RM H
  have c3 : w1.cell? ⟨p, 3, none⟩ = some (.int .i64 L) := by rw [H1.out.row.cell]; rfl
  have c2 : w1.cell? ⟨p, 2, none⟩ = some (.map (some b)) := by rw [H1.out.row.cell]; rfl
  have z3 := H1.out.row.frozen 3
  have z2 := RX1.out.frozen 2
  obtain ⟨e0, e1, e2, e3⟩ := RX1.out.four
  go_wp2_with fail
  (with_reducible refine (unless_yes _ _).mono ?_)
  rintro e w' ⟨rfl, rfl⟩
  go_wp2_with fail
  have oS := ((Only.refl (fun k => k = p ∨ k = x) w1).into (b := p) (.inl rfl) 3 (.int .i64 ((L : Int) + 1))).into (b := x) (.inr rfl) 2 (.int .i64 ((L : Int) + 1))
  have R3 := Lib.hid ((((H1.out.row.put 3 (.int .i64 ((L : Int) + 1))).far (p := ⟨x, 2, none⟩) nx (.int .i64 ((L : Int) + 1)))).drew)
  have RX3 := Lib.hid (((RX1.out.far (p := ⟨p, 3, none⟩) (fun e => nx e.symm) (.int .i64 ((L : Int) + 1))).put 2 (.int .i64 ((L : Int) + 1))).drew)
  have M3 := Lib.hid (H1.out.md.keep oS.drew (fun e => e.elim (fun k => ne k.symm) nb))
  have oP := (O2.out.up (S := two12 p b)).trans oS.drew (fun i hi e => e.elim (fun k => .inl k) (fun k => by omega))
  have OP := Lib.hid oP
  clear oS oP c3 c2 z3 z2 e0 e1 e2 e3
  have c2 : (((w1.setCell ⟨p, 3, none⟩ (.int .i64 ((L : Int) + 1))).setCell ⟨x, 2, none⟩ (.int .i64 ((L : Int) + 1))).drew).cell? ⟨p, 2, none⟩ = some (.map (some b)) := by rw [R3.out.cell]; rfl
  obtain ⟨e0, e1, e2, e3⟩ : (((w1.setCell ⟨p, 3, none⟩ (.int .i64 ((L : Int) + 1))).setCell ⟨x, 2, none⟩ (.int .i64 ((L : Int) + 1))).drew).cell? ⟨x, 0, none⟩ = some (.int .i64 q.k) ∧ (((w1.setCell ⟨p, 3, none⟩ (.int .i64 ((L : Int) + 1))).setCell ⟨x, 2, none⟩ (.int .i64 ((L : Int) + 1))).drew).cell? ⟨x, 1, none⟩ = some (.bool q.a) ∧ (((w1.setCell ⟨p, 3, none⟩ (.int .i64 ((L : Int) + 1))).setCell ⟨x, 2, none⟩ (.int .i64 ((L : Int) + 1))).drew).cell? ⟨x, 2, none⟩ = some (.int .i64 ((L : Int) + 1)) ∧ (((w1.setCell ⟨p, 3, none⟩ (.int .i64 ((L : Int) + 1))).setCell ⟨x, 2, none⟩ (.int .i64 ((L : Int) + 1))).drew).cell? ⟨x, 3, none⟩ = some (.bool q.s) := RX3.out.four
  have ON := Lib.hid (enter_once H1.out.once L q)
  obtain ⟨w5, run5, m5, o5⟩ := M3.out.store (qs := enterP ps L q) ON.out (by have := H1.out.len; omega) ⟨q.k, q.a, L + 1, q.s⟩ wx (fun r hr => by
    rcases List.mem_append.1 hr with hr | hr
    · have := List.mem_filter.1 hr
      exact .inr ⟨this.1, by simpa using this.2⟩
    · exact .inl (List.mem_singleton.1 hr)) (List.mem_append.2 (.inr (by simp))) (fun r hr hk => List.mem_append.2 (.inl (List.mem_filter.2 ⟨hr, by simpa using hk⟩)))
  have M5 := Lib.hid m5
  have O5 := Lib.hid (OP.out.same (o5.more (fun i hi e => .inr e)))
  have R5 := Lib.hid (o5.row R3.out (fun e => ne e))
  unfold plVal at run5
  clear m5 o5
  go_region
  all_goals
    go_wp2_with fail
    go_end0
    exact ⟨rfl, enter_at H1.out HR.out R5.out M5.out ON.out, O5.out⟩
end Go.Proofs.YtfbpjobobdidiaaGreatDoor


/- Turns in memory: what the closures of the exported calls do. -/
namespace Go.Proofs.YtfbpjobobdidiaaGreatDoor
open Go.RowKit Go.Maps
set_option linter.unusedVariables false
set_option maxRecDepth 100000

/-- a variable that a closure has: it lies at block q, and holds v -/
abbrev Var (w : World) (q : Nat) (v : Value) : Prop := w.cell? ⟨q, 0, none⟩ = some v
theorem Var.lt {w : World} {q : Nat} {v : Value} (h : Var w q v) : q < w.heap.size := by
  rcases Nat.lt_or_ge q w.heap.size with k | k
  · exact k
  · unfold Var at h
    simp [World.cell?, Array.getElem?_eq_none k] at h
/-- a code, as Catch has it -/
def coded (c : Int) : Option Int := if c = 0 then none else some c
theorem coded_get (c : Int) : (coded c).getD 0 = c := by unfold coded; split <;> simp_all

/-- behind a call -/
def TurnTo (w' : World) (p b nd na L : Nat) (ss : List Sl) : Prop := ∃ L' ps, TnAt w' p b nd na L' ps ∧ ps.map Pl.sl = ss ∧ L' ≤ L + 1
def Does (w : World) (p b nd na L : Nat) (c : Int) (ss : List Sl) (e : Ending) (w' : World) : Prop := e = done (coded c) ∧ TurnTo w' p b nd na L ss ∧ Only (two12 p b) w w'
theorem TnAt.to {w w' : World} {p b nd na L : Nat} {ps : List Pl} (h : TnAt w p b nd na L ps) (o : Only none_ w w') : TurnTo w' p b nd na L (ps.map Pl.sl) := ⟨L, ps, h.still o, rfl, by omega⟩
theorem row_len (ps : List Pl) (a : Bool) : (rowL a (ps.map Pl.sl)).length = (ps.filter (fun q => q.a == a)).length := by rw [row_sl, List.length_map]
theorem enter_sl {ps : List Pl} {L : Nat} {q : Pl} : (enterP ps L q).map Pl.sl = cutL (ps.map Pl.sl) q.k ++ [⟨q.k, q.a, q.s⟩] := by
  unfold enterP
  rw [List.map_append, cut_sl]
  rfl
theorem cut_no {ss : List Sl} {x : Int} (h : hasL ss x = false) : cutL ss x = ss := by
  unfold cutL
  rw [List.filter_eq_self]
  intro s hs
  have : s.k ≠ x := fun e => by
    have := hasL_iff.2 ⟨s, hs, e⟩
    rw [h] at this; cases this
  simpa using this

set_option maxHeartbeats 2000000 in
theorem put1_any {p b nd na L qk qt qa : Nat} {ps : List Pl} (x : Int) (a : Bool) (w : World) (h : TnAt w p b nd na L ps) (hk : Var w qk (.int .i64 x)) (ht : Var w qt (.pointer (some ⟨p, 0, none⟩))) (ha : Var w qa (.bool a)) (wx : (Lit.int .i64 x).wf = true) (hL : L < 100000000) :
    Calls Tryz.prog 146 #[.pointer (some ⟨qk, 0, none⟩), .pointer (some ⟨qt, 0, none⟩), .pointer (some ⟨qa, 0, none⟩)] w (Does w p b nd na L (putC nd na (ps.map Pl.sl) x a) (putS nd na (ps.map Pl.sl) x a)) := by
  have H := Lib.hid h
  have lk := hk.lt
  have lt' := ht.lt
  have la := ha.lt
  have hk' : w.drew.cell? ⟨qk, 0, none⟩ = some (.int .i64 x) := hk
  have ht' : w.drew.cell? ⟨qt, 0, none⟩ = some (.pointer (some ⟨p, 0, none⟩)) := ht
  have ha' : w.drew.cell? ⟨qa, 0, none⟩ = some (.bool a) := ha
  by_cases h1 : x < 1
  · have PC := Lib.hid (show putC nd na (ps.map Pl.sl) x a = 1 from by unfold putC; rw [if_pos h1])
    have PS := Lib.hid (show putS nd na (ps.map Pl.sl) x a = ps.map Pl.sl from by unfold putS; rw [PC.out]; rfl)
    have d : decide (1 ≤ x) = false := by simp; omega
    clear h h1
    go_enter Tryz.func146, Tryz.ntmps146
    go_wp2_with fail
    (with_reducible refine (unless_no _ _).mono ?_)
    rintro e w' ⟨rfl, rfl⟩
    go_wp2_with fail
    refine ⟨rfl, ?_⟩
    rw [PC.out, PS.out]
    exact ⟨rfl, H.out.to (Only.refl _ _), Only.refl _ _⟩
  · have d : decide (1 ≤ x) = true := by simp; omega
    have c2 : w.drew.cell? ⟨p, 2, none⟩ = some (.map (some b)) := by show w.cell? _ = _; rw [h.row.cell]; rfl
    have LK := (show Md12 w.drew b ps from h.md).look h.once wx
    have OZ := Lib.hid (((Only.refl none_ w).alloc (.cells #[.int .i64 0, .bool false, .int .i64 0, .bool false] 169)).drew)
    have c2z : ((w.alloc (.cells #[.int .i64 0, .bool false, .int .i64 0, .bool false] 169)).drew).cell? ⟨p, 2, none⟩ = some (.map (some b)) := OZ.out.cell (show w.cell? _ = _ by rw [h.row.cell]; rfl) (fun s => s)
    have hkz : ((w.alloc (.cells #[.int .i64 0, .bool false, .int .i64 0, .bool false] 169)).drew).cell? ⟨qk, 0, none⟩ = some (.int .i64 x) := OZ.out.cell hk (fun s => s)
    have htz : ((w.alloc (.cells #[.int .i64 0, .bool false, .int .i64 0, .bool false] 169)).drew).cell? ⟨qt, 0, none⟩ = some (.pointer (some ⟨p, 0, none⟩)) := OZ.out.cell ht (fun s => s)
    have LZ := (h.md.still OZ.out).look h.once wx
    have e0 := has_sl ps x
    cases hh : hasP ps x with
    | true =>
      have PC := Lib.hid (show putC nd na (ps.map Pl.sl) x a = 4 from by unfold putC; rw [if_neg h1, e0, hh]; rfl)
      have PS := Lib.hid (show putS nd na (ps.map Pl.sl) x a = ps.map Pl.sl from by unfold putS; rw [PC.out]; rfl)
      rw [hh] at LK LZ
      generalize atP ps x = q at LK LZ
      unfold plVal at LK LZ
      clear h h1 e0 hh
      go_enter Tryz.func146, Tryz.ntmps146
      go_wp2_with fail
      (with_reducible refine (unless_yes _ _).mono ?_)
      rintro e w' ⟨rfl, rfl⟩
      go_wp2_with fail
      go_region
      all_goals
        go_wp2_with fail
        (with_reducible refine (unless_no _ _).mono ?_)
        rintro e w' ⟨rfl, rfl⟩
        go_wp2_with fail
        refine ⟨rfl, ?_⟩
        rw [PC.out, PS.out]
        first
          | exact ⟨rfl, H.out.to ((Only.refl _ _).drew.alloc _), (Only.refl _ _).drew.alloc _⟩
          | exact ⟨rfl, H.out.to (((Only.refl _ _).alloc _).drew), ((Only.refl _ _).alloc _).drew⟩
    | false =>
      rw [hh] at LK LZ
      generalize atP ps x = q at LK LZ
      unfold plVal at LK LZ
      have hx0 : hasL (ps.map Pl.sl) x = false := e0.trans hh
      have RL := row_len ps a
      by_cases hr : 0 < roomP nd na ps a
      · have PC := Lib.hid (show putC nd na (ps.map Pl.sl) x a = 0 from by unfold putC; unfold roomP at hr; rw [if_neg h1, hx0, if_neg (by simp), if_neg (by omega)])
        have PS := Lib.hid (show (enterP ps L ⟨x, a, 0, true⟩).map Pl.sl = putS nd na (ps.map Pl.sl) x a from by unfold putS; rw [PC.out, if_pos rfl, enter_sl, cut_no hx0])
        have EN := Lib.hid (fun (W : World) (o : Only none_ w W) => tenter_yes (⟨x, a, 0, true⟩ : Pl) W (H.out.still o) hr hL wx)
        clear h h1 e0 hh hr hx0 RL
        go_enter Tryz.func146, Tryz.ntmps146
        go_wp2_with fail
        (with_reducible refine (unless_yes _ _).mono ?_)
        rintro e w' ⟨rfl, rfl⟩
        go_wp2_with fail
        go_region
        all_goals
          go_wp2_with fail
          (with_reducible refine (unless_yes _ _).mono ?_)
          rintro e w' ⟨rfl, rfl⟩
          go_wp2_with fail
          (with_reducible refine (EN.out _ ?_).mono ?_)
          · first | exact (Only.refl _ _).drew.alloc _ | exact ((Only.refl _ _).alloc _).drew
          rintro e w2 ⟨rfl, h2, o2⟩
          have H2 := Lib.hid h2
          have O2 := Lib.hid (show Only (two12 p b) w w2 from by first | exact ((Only.refl _ _).drew.alloc _).then_ o2 | exact (((Only.refl _ _).alloc _).drew).then_ o2)
          clear h2 o2
          go_wp2_with fail
          go_end0
          unfold Does
          rw [PC.out]
          exact ⟨rfl, ⟨_, _, H2.out, PS.out, Nat.le_refl _⟩, O2.out⟩
      · have PC := Lib.hid (show putC nd na (ps.map Pl.sl) x a = 2 from by unfold putC; unfold roomP at hr; rw [if_neg h1, hx0, if_neg (by simp), if_pos (by omega)])
        have PS := Lib.hid (show putS nd na (ps.map Pl.sl) x a = ps.map Pl.sl from by unfold putS; rw [PC.out]; rfl)
        have EN := Lib.hid (fun (W : World) (o : Only none_ w W) => tenter_no (⟨x, a, 0, true⟩ : Pl) W (H.out.still o) hr)
        clear h h1 e0 hh hr hx0 RL
        go_enter Tryz.func146, Tryz.ntmps146
        go_wp2_with fail
        (with_reducible refine (unless_yes _ _).mono ?_)
        rintro e w' ⟨rfl, rfl⟩
        go_wp2_with fail
        go_region
        all_goals
          go_wp2_with fail
          (with_reducible refine (unless_yes _ _).mono ?_)
          rintro e w' ⟨rfl, rfl⟩
          go_wp2_with fail
          (with_reducible refine (EN.out _ ?_).mono ?_)
          · first | exact (Only.refl _ _).drew.alloc _ | exact ((Only.refl _ _).alloc _).drew
          rintro e w2 ⟨rfl, o2⟩
          have O2 := Lib.hid (show Only none_ w w2 from by first | exact ((Only.refl _ _).drew.alloc _).same o2 | exact (((Only.refl _ _).alloc _).drew).same o2)
          clear o2
          go_wp2_with fail
          refine ⟨rfl, ?_⟩
          rw [PC.out, PS.out]
          exact ⟨rfl, H.out.to O2.out, O2.out.up⟩

set_option maxHeartbeats 2000000 in
theorem promote1_any {p b nd na L qk qt : Nat} {ps : List Pl} (x : Int) (w : World) (h : TnAt w p b nd na L ps) (ht : Var w qt (.pointer (some ⟨p, 0, none⟩))) (hk : Var w qk (.int .i64 x)) (wx : (Lit.int .i64 x).wf = true) (hL : L < 100000000) :
    Calls Tryz.prog 111 #[.pointer (some ⟨qt, 0, none⟩), .pointer (some ⟨qk, 0, none⟩)] w (Does w p b nd na L (promC nd (ps.map Pl.sl) x) (promS nd (ps.map Pl.sl) x)) := by
  have H := Lib.hid h
  have lk := hk.lt
  have lt' := ht.lt
  have e0 := has_sl ps x
  cases hh : hasP ps x with
  | false =>
    have PC := Lib.hid (show promC nd (ps.map Pl.sl) x = 3 from by unfold promC; rw [e0, hh]; rfl)
    have PS := Lib.hid (show promS nd (ps.map Pl.sl) x = ps.map Pl.sl from by unfold promS; rw [PC.out]; rfl)
    have AT := Lib.hid (tat_no x w h wx hh)
    clear h e0 hh
    go_enter Tryz.func111, Tryz.ntmps111
    go_wp2_with fail
    (with_reducible refine (AT.out).mono ?_)
    rintro e w1 ⟨rfl, o1⟩
    go_wp2_with fail
    refine ⟨rfl, ?_⟩
    rw [PC.out, PS.out]
    exact ⟨rfl, H.out.to o1, o1.up⟩
  | true =>
    have AT := Lib.hid (tat_yes x w h wx hh)
    have hx0 : hasL (ps.map Pl.sl) x = true := e0.trans hh
    have HK := Lib.hid (atP_has hh).2
    have ea := at_sl ps x
    generalize atP ps x = q at *
    cases ha : q.a with
    | false =>
      have PC := Lib.hid (show promC nd (ps.map Pl.sl) x = 5 from by unfold promC; rw [hx0, ea]; simp [Pl.sl, ha])
      have PS := Lib.hid (show promS nd (ps.map Pl.sl) x = ps.map Pl.sl from by unfold promS; rw [PC.out]; rfl)
      rw [ha] at AT
      clear h e0 hh hx0 ea
      go_enter Tryz.func111, Tryz.ntmps111
      go_wp2_with fail
      (with_reducible refine (AT.out).mono ?_)
      rintro e w1 ⟨rfl, o1⟩
      have O1 := Lib.hid o1
      clear o1
      go_wp2_with fail
      (with_reducible refine (unless_no _ _).mono ?_)
      rintro e w' ⟨rfl, rfl⟩
      go_wp2_with fail
      refine ⟨rfl, ?_⟩
      rw [PC.out, PS.out]
      exact ⟨rfl, H.out.to (O1.out.alloc _), (O1.out.alloc _).up⟩
    | true =>
      rw [ha] at AT
      have RL := row_len ps false
      by_cases hr : 0 < roomP nd na ps false
      · have PC := Lib.hid (show promC nd (ps.map Pl.sl) x = 0 from by unfold promC; unfold roomP mostL at hr; rw [hx0, ea]; simp [Pl.sl, ha] at hr RL ⊢; omega)
        have PS := Lib.hid (show (enterP ps L ⟨q.k, false, q.n, q.s⟩).map Pl.sl = promS nd (ps.map Pl.sl) x from by unfold promS; rw [PC.out, if_pos rfl, enter_sl, ea]; simp only [HK.out, Pl.sl])
        have WX := Lib.hid wx
        have EN := Lib.hid (fun (W : World) (o : Only none_ w W) => tenter_yes (⟨q.k, false, q.n, q.s⟩ : Pl) W (H.out.still o) hr hL (by rw [HK.out]; exact WX.out))
        clear h e0 hh hx0 ea hr RL wx
        go_enter Tryz.func111, Tryz.ntmps111
        go_wp2_with fail
        (with_reducible refine (AT.out).mono ?_)
        rintro e w1 ⟨rfl, o1⟩
        have O1 := Lib.hid o1
        have ht1 : w1.cell? ⟨qt, 0, none⟩ = some (.pointer (some ⟨p, 0, none⟩)) := o1.cell ht (fun s => s)
        have lt1 : qt < w1.heap.size := Nat.lt_of_lt_of_le lt' o1.size
        clear o1
        go_wp2_with fail
        (with_reducible refine (unless_yes _ _).mono ?_)
        rintro e w' ⟨rfl, rfl⟩
        go_wp2_with fail
        (with_reducible refine (EN.out _ ?_).mono ?_)
        · exact O1.out.alloc _
        rintro e w2 ⟨rfl, h2, o2⟩
        have H2 := Lib.hid h2
        have O2 := Lib.hid ((O1.out.alloc _).then_ o2)
        clear h2 o2
        go_wp2_with fail
        go_end0
        unfold Does
        rw [PC.out]
        exact ⟨rfl, ⟨_, _, H2.out, PS.out, Nat.le_refl _⟩, O2.out⟩
      · have PC := Lib.hid (show promC nd (ps.map Pl.sl) x = 2 from by unfold promC; unfold roomP mostL at hr; rw [hx0, ea]; simp [Pl.sl, ha] at hr RL ⊢; omega)
        have PS := Lib.hid (show promS nd (ps.map Pl.sl) x = ps.map Pl.sl from by unfold promS; rw [PC.out]; rfl)
        have EN := Lib.hid (fun (W : World) (o : Only none_ w W) => tenter_no (⟨q.k, false, q.n, q.s⟩ : Pl) W (H.out.still o) hr)
        clear h e0 hh hx0 ea hr RL
        go_enter Tryz.func111, Tryz.ntmps111
        go_wp2_with fail
        (with_reducible refine (AT.out).mono ?_)
        rintro e w1 ⟨rfl, o1⟩
        have O1 := Lib.hid o1
        have ht1 : w1.cell? ⟨qt, 0, none⟩ = some (.pointer (some ⟨p, 0, none⟩)) := o1.cell ht (fun s => s)
        have lt1 : qt < w1.heap.size := Nat.lt_of_lt_of_le lt' o1.size
        clear o1
        go_wp2_with fail
        (with_reducible refine (unless_yes _ _).mono ?_)
        rintro e w' ⟨rfl, rfl⟩
        go_wp2_with fail
        (with_reducible refine (EN.out _ ?_).mono ?_)
        · exact O1.out.alloc _
        rintro e w2 ⟨rfl, o2⟩
        have O2 := Lib.hid ((O1.out.alloc _).same o2)
        clear o2
        go_wp2_with fail
        refine ⟨rfl, ?_⟩
        rw [PC.out, PS.out]
        exact ⟨rfl, H.out.to O2.out, O2.out.up⟩
end Go.Proofs.YtfbpjobobdidiaaGreatDoor


/- Turns in memory: a ticket waits, or not; it ends. -/
namespace Go.Proofs.YtfbpjobobdidiaaGreatDoor
open Go.RowKit Go.Maps
set_option linter.unusedVariables false
set_option maxRecDepth 100000

/-- a ticket waits, or not -/
def waitP1 (ps : List Pl) (x : Int) (v : Bool) : List Pl := ps.map (fun p => if p.k = x then { p with s := v } else p)
theorem wait1_sl (ps : List Pl) (x : Int) (v : Bool) : (waitP1 ps x v).map Pl.sl = waitS (ps.map Pl.sl) x v := by
  unfold waitP1 waitS
  rw [List.map_map, List.map_map]
  apply List.map_congr_left
  intro p _
  show Pl.sl (if p.k = x then _ else _) = if p.sl.k = x then _ else _
  show Pl.sl (if p.k = x then _ else _) = if p.k = x then _ else _
  split <;> rfl
theorem wait1_k (x : Int) (v : Bool) (p : Pl) : (if p.k = x then { p with s := v } else p).k = p.k ∧ (if p.k = x then { p with s := v } else p).a = p.a ∧ (if p.k = x then { p with s := v } else p).n = p.n := by
  split <;> exact ⟨rfl, rfl, rfl⟩
theorem wait1_same {ps : List Pl} (o : Once12 ps) {x : Int} {v : Bool} (h : (atP ps x).s = v ∨ hasP ps x = false) : waitP1 ps x v = ps := by
  unfold waitP1
  rw [List.map_congr_left (g := id)]
  · simp
  · intro p hp
    show (if p.k = x then _ else _) = p
    by_cases e : p.k = x
    · rw [if_pos e]
      rcases h with h | h
      · subst e
        rw [atP_of o hp] at h
        cases p
        simp at h ⊢
        exact h.symm
      · have := hasP_iff.2 ⟨p, hp, e⟩
        rw [h] at this; cases this
    · rw [if_neg e]
theorem wait1_at {w w' : World} {p b nd na L : Nat} {ps : List Pl} {x : Int} {v : Bool} (h : TnAt w p b nd na L ps) (r : Row w' p 147 #[.int .i64 nd, .int .i64 na, .map (some b), .int .i64 L]) (m : Md12 w' b (waitP1 ps x v)) : TnAt w' p b nd na L (waitP1 ps x v) := by
  refine ⟨r, m, ?_, ?_, ?_, ?_, h.nd64, h.na64⟩
  · unfold Once12 waitP1
    rw [List.pairwise_map]
    exact h.once.imp (fun {a c} k => by rw [(wait1_k x v a).1, (wait1_k x v c).1]; exact k)
  · unfold Rise waitP1
    rw [List.pairwise_map]
    exact h.rise.imp (fun {a c} k => by rw [(wait1_k x v a).2.2, (wait1_k x v c).2.2]; exact k)
  · intro q hq
    obtain ⟨a, ha, rfl⟩ := List.mem_map.1 hq
    rw [(wait1_k x v a).2.2]
    exact h.top a ha
  · intro a
    unfold waitP1
    rw [List.filter_map, List.length_map]
    have : ((fun q : Pl => q.a == a) ∘ fun p : Pl => if p.k = x then { p with s := v } else p) = fun q => q.a == a := by
      funext q
      show ((if q.k = x then { q with s := v } else q).a == a) = _
      rw [(wait1_k x v q).2.1]
    rw [this]
    exact h.few a
theorem wait1_once {ps : List Pl} (h : Once12 ps) (x : Int) (v : Bool) : Once12 (waitP1 ps x v) := by
  unfold Once12 waitP1
  rw [List.pairwise_map]
  exact h.imp (fun {a c} k => by rw [(wait1_k x v a).1, (wait1_k x v c).1]; exact k)
theorem wait1_mem {ps : List Pl} (o : Once12 ps) {q : Pl} (hq : q ∈ ps) (v : Bool) :
    (∀ p ∈ waitP1 ps q.k v, p = { q with s := v } ∨ (p ∈ ps ∧ p.k ≠ q.k)) ∧ { q with s := v } ∈ waitP1 ps q.k v ∧ ∀ p ∈ ps, p.k ≠ q.k → p ∈ waitP1 ps q.k v := by
  refine ⟨fun p hp => ?_, List.mem_map.2 ⟨q, hq, if_pos rfl⟩, fun p hp hk => List.mem_map.2 ⟨p, hp, if_neg hk⟩⟩
  obtain ⟨a, ha, rfl⟩ := List.mem_map.1 hp
  by_cases e : a.k = q.k
  · rw [if_pos e]
    have := o.inj ha hq e
    subst this
    exact .inl rfl
  · rw [if_neg e]
    exact .inr ⟨ha, e⟩

set_option maxHeartbeats 2000000 in
theorem change1_any {p b nd na L qk qt qa : Nat} {ps : List Pl} (x : Int) (v : Bool) (w : World) (h : TnAt w p b nd na L ps) (ht : Var w qt (.pointer (some ⟨p, 0, none⟩))) (hk : Var w qk (.int .i64 x)) (ha : Var w qa (.bool v)) (wx : (Lit.int .i64 x).wf = true) :
    Calls Tryz.prog 172 #[.pointer (some ⟨qt, 0, none⟩), .pointer (some ⟨qk, 0, none⟩), .pointer (some ⟨qa, 0, none⟩)] w (Does w p b nd na L (waitC (ps.map Pl.sl) x v) (waitS (ps.map Pl.sl) x v)) := by
  have H := Lib.hid h
  have lk := hk.lt
  have lt' := ht.lt
  have la := ha.lt
  have e0 := has_sl ps x
  rw [← wait1_sl]
  cases hh : hasP ps x with
  | false =>
    have PC := Lib.hid (show waitC (ps.map Pl.sl) x v = 3 from by unfold waitC; rw [e0, hh]; rfl)
    have PS := Lib.hid (wait1_same (v := v) h.once (.inr hh))
    have AT := Lib.hid (tat_no x w h wx hh)
    clear h e0 hh
    go_enter Tryz.func172, Tryz.ntmps172
    go_wp2_with fail
    (with_reducible refine (AT.out).mono ?_)
    rintro e w1 ⟨rfl, o1⟩
    go_wp2_with fail
    refine ⟨rfl, ?_⟩
    rw [PC.out, PS.out]
    exact ⟨rfl, H.out.to o1, o1.up⟩
  | true =>
    have AT := Lib.hid (tat_yes x w h wx hh)
    have hx0 : hasL (ps.map Pl.sl) x = true := e0.trans hh
    have HK := Lib.hid (atP_has hh)
    have ea := at_sl ps x
    by_cases hs : (atP ps x).s = v
    · have PC := Lib.hid (show waitC (ps.map Pl.sl) x v = 5 from by unfold waitC; rw [hx0, ea]; simp [Pl.sl, hs])
      have PS := Lib.hid (wait1_same (v := v) h.once (.inl hs))
      rw [hs] at AT
      generalize atP ps x = q at *
      clear h e0 hh hx0 ea
      go_enter Tryz.func172, Tryz.ntmps172
      go_wp2_with fail
      (with_reducible refine (AT.out).mono ?_)
      rintro e w1 ⟨rfl, o1⟩
      have O1 := Lib.hid o1
      have ha1 : w1.cell? ⟨qa, 0, none⟩ = some (.bool v) := o1.cell ha (fun s => s)
      have la1 : qa < w1.heap.size := Nat.lt_of_lt_of_le la o1.size
      clear o1
      go_wp2_with fail
      (with_reducible refine (unless_no _ _).mono ?_)
      rintro e w' ⟨rfl, rfl⟩
      go_wp2_with fail
      refine ⟨rfl, ?_⟩
      rw [PC.out, PS.out]
      exact ⟨rfl, H.out.to (O1.out.alloc _), (O1.out.alloc _).up⟩
    · have PC := Lib.hid (show waitC (ps.map Pl.sl) x v = 0 from by unfold waitC; rw [hx0, ea]; simp [Pl.sl, hs])
      have W1 := Lib.hid (wait1_mem h.once HK.out.1 v)
      have WO := Lib.hid (wait1_once h.once x v)
      have lp := h.row.lt
      have ne := h.ne
      have WX := Lib.hid wx
      have hne : ((atP ps x).s == v) = false := by simp [hs]
      generalize atP ps x = q at *
      clear h e0 hh hx0 ea hs wx
      go_enter Tryz.func172, Tryz.ntmps172
      go_wp2_with fail
      (with_reducible refine (AT.out).mono ?_)
      rintro e w1 ⟨rfl, o1⟩
      have O1 := Lib.hid o1
      have ha1 : w1.cell? ⟨qa, 0, none⟩ = some (.bool v) := o1.cell ha (fun s => s)
      have ht1 : w1.cell? ⟨qt, 0, none⟩ = some (.pointer (some ⟨p, 0, none⟩)) := o1.cell ht (fun s => s)
      have hk1 : w1.cell? ⟨qk, 0, none⟩ = some (.int .i64 x) := o1.cell hk (fun s => s)
      have zz := o1.size
      have la1 : qa < w1.heap.size := Nat.lt_of_lt_of_le la zz
      have lt1 : qt < w1.heap.size := Nat.lt_of_lt_of_le lt' zz
      have lk1 : qk < w1.heap.size := Nat.lt_of_lt_of_le lk zz
      have lp1 : p < w1.heap.size := Nat.lt_of_lt_of_le lp zz
      clear o1 AT
      go_wp2_with fail
      (with_reducible refine (unless_yes _ _).mono ?_)
      rintro e w' ⟨rfl, rfl⟩
      go_wp2_with fail
      have OD := Lib.hid ((O1.out.alloc (.cells #[.int .i64 q.k, .bool q.a, .int .i64 q.n, .bool v] 169)).drew)
      have o9 := Lib.hid ((((Only.refl none_ w1).alloc (.cells #[.int .i64 q.k, .bool q.a, .int .i64 q.n, .bool v] 169)).drew))
      have ht2 : ((w1.alloc (.cells #[.int .i64 q.k, .bool q.a, .int .i64 q.n, .bool v] 169)).drew).cell? ⟨qt, 0, none⟩ = some (.pointer (some ⟨p, 0, none⟩)) := o9.out.cell ht1 (fun s => s)
      have hk2 : ((w1.alloc (.cells #[.int .i64 q.k, .bool q.a, .int .i64 q.n, .bool v] 169)).drew).cell? ⟨qk, 0, none⟩ = some (.int .i64 x) := o9.out.cell hk1 (fun s => s)
      have R2 := Lib.hid (OD.out.still H.out.row)
      have c2 : ((w1.alloc (.cells #[.int .i64 q.k, .bool q.a, .int .i64 q.n, .bool v] 169)).drew).cell? ⟨p, 2, none⟩ = some (.map (some b)) := by rw [R2.out.cell]; rfl
      have RX := Lib.hid (show Row ((w1.alloc (.cells #[.int .i64 q.k, .bool q.a, .int .i64 q.n, .bool v] 169)).drew) w1.heap.size 169 #[.int .i64 q.k, .bool q.a, .int .i64 q.n, .bool v] from Row.fresh w1 _ _)
      obtain ⟨e0, e1, e2, e3⟩ := RX.out.four
      have xk := HK.out.2
      obtain ⟨w5, run5, m5, o5⟩ := (H.out.md.still OD.out).store (qs := waitP1 ps x v) WO.out (by have := H.out.len; omega) ⟨q.k, q.a, q.n, v⟩ (by rw [show (⟨q.k, q.a, q.n, v⟩ : Pl).k = x from xk]; exact WX.out) (by rw [← xk]; exact W1.out.1) (by rw [← xk]; exact W1.out.2.1) (by rw [← xk]; exact W1.out.2.2)
      have M5 := Lib.hid m5
      have O5 := Lib.hid ((OD.out.up (S := two12 p b)).same (o5.more (fun i hi e => .inr e)))
      have R5 := Lib.hid (o5.row R2.out (fun e => ne e))
      unfold plVal at run5
      rw [xk] at run5 e0
      rw [xk]
      rw [xk] at ht2 hk2 c2 e1 e2 e3
      clear m5 o5 hne la1 lt1 lk1 lp1 ha1 ht1 hk1
      go_region
      all_goals
        go_wp2_with fail
        go_end0
        unfold Does
        rw [PC.out]
        exact ⟨rfl, ⟨L, _, wait1_at H.out R5.out M5.out, rfl, by omega⟩, O5.out⟩

/-- a ticket has no place any more -/
theorem end_at {w w' : World} {p b nd na L : Nat} {ps : List Pl} {x : Int} (h : TnAt w p b nd na L ps) (r : Row w' p 147 #[.int .i64 nd, .int .i64 na, .map (some b), .int .i64 L]) (m : Md12 w' b (ps.filter (fun q => !(q.k == x)))) : TnAt w' p b nd na L (ps.filter (fun q => !(q.k == x))) := by
  refine ⟨r, m, h.once.filter _, h.rise.filter _, fun q hq => h.top q (List.mem_filter.1 hq).1, fun a => ?_, h.nd64, h.na64⟩
  rw [List.filter_filter]
  have : (fun q : Pl => (q.a == a) && !(q.k == x)) = fun q => (!(q.k == x)) && (q.a == a) := by funext q; rw [Bool.and_comm]
  rw [this, ← List.filter_filter]
  exact Nat.le_trans (List.length_filter_le _ _) (h.few a)
theorem cut_none {ps : List Pl} {x : Int} (h : hasP ps x = false) : ps.filter (fun q => !(q.k == x)) = ps := by
  rw [List.filter_eq_self]
  intro s hs
  have : s.k ≠ x := fun e => by
    have := hasP_iff.2 ⟨s, hs, e⟩
    rw [h] at this; cases this
  simpa using this
set_option maxHeartbeats 2000000 in
theorem end1_any {p b nd na L qk qt : Nat} {ps : List Pl} (x : Int) (w : World) (h : TnAt w p b nd na L ps) (ht : Var w qt (.pointer (some ⟨p, 0, none⟩))) (hk : Var w qk (.int .i64 x)) (wx : (Lit.int .i64 x).wf = true) :
    Calls Tryz.prog 144 #[.pointer (some ⟨qt, 0, none⟩), .pointer (some ⟨qk, 0, none⟩)] w (Does w p b nd na L (endC (ps.map Pl.sl) x) (cutL (ps.map Pl.sl) x)) := by
  have H := Lib.hid h
  have lk := hk.lt
  have lt' := ht.lt
  have e0 := has_sl ps x
  rw [cut_sl]
  cases hh : hasP ps x with
  | false =>
    have PC := Lib.hid (show endC (ps.map Pl.sl) x = 3 from by unfold endC; rw [e0, hh]; rfl)
    have PS := Lib.hid (cut_none hh)
    have AT := Lib.hid (tat_no x w h wx hh)
    clear h e0 hh
    go_enter Tryz.func144, Tryz.ntmps144
    go_wp2_with fail
    (with_reducible refine (AT.out).mono ?_)
    rintro e w1 ⟨rfl, o1⟩
    go_wp2_with fail
    refine ⟨rfl, ?_⟩
    rw [PC.out, PS.out]
    exact ⟨rfl, H.out.to o1, o1.up⟩
  | true =>
    have PC := Lib.hid (show endC (ps.map Pl.sl) x = 0 from by unfold endC; rw [e0, hh]; rfl)
    have AT := tat_yes x w h wx hh
    have xk := (atP_has hh).2
    have lp := h.row.lt
    have ne := h.ne
    have WX := Lib.hid wx
    generalize atP ps x = q at *
    rw [xk] at AT
    have AT := Lib.hid AT
    clear h e0 hh wx
    go_enter Tryz.func144, Tryz.ntmps144
    go_wp2_with fail
    (with_reducible refine (AT.out).mono ?_)
    rintro e w1 ⟨rfl, o1⟩
    have O1 := Lib.hid o1
    have o9 := Lib.hid ((((Only.refl none_ w1).alloc (.cells #[.int .i64 x, .bool q.a, .int .i64 q.n, .bool q.s] 169)).drew))
    have OD := Lib.hid (O1.out.same o9.out)
    have ht2 : ((w1.alloc (.cells #[.int .i64 x, .bool q.a, .int .i64 q.n, .bool q.s] 169)).drew).cell? ⟨qt, 0, none⟩ = some (.pointer (some ⟨p, 0, none⟩)) := OD.out.cell ht (fun s => s)
    have R2 := Lib.hid (OD.out.still H.out.row)
    have c2 : ((w1.alloc (.cells #[.int .i64 x, .bool q.a, .int .i64 q.n, .bool q.s] 169)).drew).cell? ⟨p, 2, none⟩ = some (.map (some b)) := by rw [R2.out.cell]; rfl
    have RX := Lib.hid (show Row ((w1.alloc (.cells #[.int .i64 x, .bool q.a, .int .i64 q.n, .bool q.s] 169)).drew) w1.heap.size 169 #[.int .i64 x, .bool q.a, .int .i64 q.n, .bool q.s] from Row.fresh w1 _ _)
    obtain ⟨e0, e1, e2, e3⟩ := RX.out.four
    obtain ⟨w5, run5, m5, o5⟩ := (H.out.md.still OD.out).drop (qs := ps.filter (fun q => !(q.k == x))) (H.out.once.filter _) x WX.out (fun r => by rw [List.mem_filter]; simp) 0
    have M5 := Lib.hid m5
    have O5 := Lib.hid ((OD.out.up (S := two12 p b)).same (o5.more (fun i hi e => .inr e)))
    have R5 := Lib.hid (o5.row R2.out (fun e => ne e))
    clear m5 o5 o1 AT
    go_wp2_with fail
    go_region
    all_goals
      go_wp2_with fail
      go_end0
      unfold Does
      rw [PC.out]
      exact ⟨rfl, ⟨L, _, end_at H.out R5.out M5.out, rfl, by omega⟩, O5.out⟩
end Go.Proofs.YtfbpjobobdidiaaGreatDoor


/- Turns in memory: the exported calls. -/
namespace Go.Proofs.YtfbpjobobdidiaaGreatDoor
open Go.RowKit Go.Maps
set_option linter.unusedVariables false
set_option maxRecDepth 100000

def Did (w : World) (p b nd na L : Nat) (c : Int) (ss : List Sl) (e : Ending) (w' : World) : Prop := e = .returned (.int .i64 c) ∧ TurnTo w' p b nd na L ss ∧ Only (two12 p b) w w'
theorem TurnTo.put {w : World} {p b nd na L g : Nat} {ss : List Sl} (h : TurnTo w p b nd na L ss) (hp : g ≠ p) (hb : g ≠ b) (v : Value) : TurnTo (w.setCell ⟨g, 0, none⟩ v) p b nd na L ss := by
  obtain ⟨L', ps, h, e, l⟩ := h
  have o := (Only.refl (fun k => k = g) w).into rfl 0 v
  exact ⟨L', ps, h.keep o (fun q => hp q.symm) (fun q => hb q.symm), e, l⟩
theorem catch_does {p b nd na L : Nat} {c : Int} {ss : List Sl} (G : FuncId) (caps : Array Value) (w : World) (hp : p < w.heap.size) (hb : b < w.heap.size) (hG : ∀ w, (callFunc G caps).run Tryz.prog w = .ok (.enter G caps) w)
    (h : Calls Tryz.prog G caps (w.alloc (.cells #[.int .i64 0] 28)) (Does (w.alloc (.cells #[.int .i64 0] 28)) p b nd na L c ss)) :
    Calls Tryz.prog 77 #[.func (.func G) #[] caps] w (Did w p b nd na L c ss) := by
  refine (catch_code G caps w (two12 p b) (fun r w' => r = coded c ∧ TurnTo w' p b nd na L ss) hG (by unfold two12; omega) ?_ (h.mono ?_)).mono ?_
  · rintro r w1 v o ⟨rfl, h⟩
    exact ⟨rfl, h.put (by omega) (by omega) v⟩
  · rintro e w' ⟨rfl, h, o⟩
    exact ⟨_, rfl, ⟨rfl, h⟩, o⟩
  · rintro e w' ⟨r, rfl, ⟨rfl, h⟩, o⟩
    exact ⟨by rw [coded_get], h, o⟩
theorem var_at {w : World} {v : Value} {t : TypeId} {q : Nat} (h : q = w.heap.size) : Var (w.alloc (.cells #[v] t)) q v := by
  subst h
  show World.cell? _ _ = _
  rw [(Row.fresh w t #[v]).cell]; rfl
theorem var_alloc {w : World} {q : Nat} {v : Value} (h : Var w q v) (o : Obj) : Var (w.alloc o) q v := ((Only.refl none_ w).alloc o).cell h (fun s => s)
theorem only_two (w : World) (o1 o2 : Obj) : Only none_ w ((w.alloc o1).alloc o2) := ((Only.refl none_ w).alloc _).alloc _
theorem only_three (w : World) (o1 o2 o3 : Obj) : Only none_ w (((w.alloc o1).alloc o2).alloc o3) := (((Only.refl none_ w).alloc _).alloc _).alloc _

set_option maxHeartbeats 1000000 in
theorem tput_any {p b nd na L : Nat} {ps : List Pl} (x : Int) (a : Bool) (w : World) (h : TnAt w p b nd na L ps) (wx : (Lit.int .i64 x).wf = true) (hL : L < 100000000) :
    Calls Tryz.prog 110 #[.pointer (some ⟨p, 0, none⟩), .int .i64 x, .bool a] w (Did w p b nd na L (putC nd na (ps.map Pl.sl) x a) (putS nd na (ps.map Pl.sl) x a)) := by
  have lp := h.row.lt
  have lb := h.md.lt
  have O3 := Lib.hid (only_three w (.cells #[.pointer (some ⟨p, 0, none⟩)] 90) (.cells #[.int .i64 x] 3) (.cells #[.bool a] 4))
  have C := Lib.hid (catch_does 146 #[.pointer (some ⟨w.heap.size + 1, 0, none⟩), .pointer (some ⟨w.heap.size, 0, none⟩), .pointer (some ⟨w.heap.size + 1 + 1, 0, none⟩)] (((w.alloc (.cells #[.pointer (some ⟨p, 0, none⟩)] 90)).alloc (.cells #[.int .i64 x] 3)).alloc (.cells #[.bool a] 4)) (by simp; omega) (by simp; omega) (fun _ => rfl)
    (put1_any x a _ (h.still (O3.out.alloc _)) (var_alloc (var_alloc (var_at (by simp)) _) _) (var_alloc (var_alloc (var_alloc (var_at rfl) _) _) _) (var_alloc (var_at (by simp)) _) wx hL))
  clear h
  generalize putC nd na (ps.map Pl.sl) x a = c at *
  generalize putS nd na (ps.map Pl.sl) x a = ss at *
  go_enter Tryz.func110, Tryz.ntmps110
  go_wp2_with fail
  (with_reducible refine (C.out).mono ?_)
  rintro e w2 ⟨rfl, h2, o2⟩
  have H2 := Lib.hid h2
  have O2 := Lib.hid (O3.out.then_ o2)
  clear h2 o2
  go_wp2_with fail
  go_ret
  exact ⟨rfl, H2.out, O2.out⟩
set_option maxHeartbeats 1000000 in
theorem tchange_any {p b nd na L : Nat} {ps : List Pl} (x : Int) (v : Bool) (w : World) (h : TnAt w p b nd na L ps) (wx : (Lit.int .i64 x).wf = true) :
    Calls Tryz.prog 152 #[.pointer (some ⟨p, 0, none⟩), .int .i64 x, .bool v] w (Did w p b nd na L (waitC (ps.map Pl.sl) x v) (waitS (ps.map Pl.sl) x v)) := by
  have lp := h.row.lt
  have lb := h.md.lt
  have O3 := Lib.hid (only_three w (.cells #[.pointer (some ⟨p, 0, none⟩)] 90) (.cells #[.int .i64 x] 3) (.cells #[.bool v] 4))
  have C := Lib.hid (catch_does 172 #[.pointer (some ⟨w.heap.size, 0, none⟩), .pointer (some ⟨w.heap.size + 1, 0, none⟩), .pointer (some ⟨w.heap.size + 1 + 1, 0, none⟩)] (((w.alloc (.cells #[.pointer (some ⟨p, 0, none⟩)] 90)).alloc (.cells #[.int .i64 x] 3)).alloc (.cells #[.bool v] 4)) (by simp; omega) (by simp; omega) (fun _ => rfl)
    (change1_any x v _ (h.still (O3.out.alloc _)) (var_alloc (var_alloc (var_alloc (var_at rfl) _) _) _) (var_alloc (var_alloc (var_at (by simp)) _) _) (var_alloc (var_at (by simp)) _) wx))
  clear h
  generalize waitC (ps.map Pl.sl) x v = c at *
  generalize waitS (ps.map Pl.sl) x v = ss at *
  go_enter Tryz.func152, Tryz.ntmps152
  go_wp2_with fail
  (with_reducible refine (C.out).mono ?_)
  rintro e w2 ⟨rfl, h2, o2⟩
  have H2 := Lib.hid h2
  have O2 := Lib.hid (O3.out.then_ o2)
  clear h2 o2
  go_wp2_with fail
  go_ret
  exact ⟨rfl, H2.out, O2.out⟩
theorem tstart_any {p b nd na L : Nat} {ps : List Pl} (x : Int) (w : World) (h : TnAt w p b nd na L ps) (wx : (Lit.int .i64 x).wf = true) :
    Calls Tryz.prog 142 #[.pointer (some ⟨p, 0, none⟩), .int .i64 x] w (Did w p b nd na L (waitC (ps.map Pl.sl) x false) (waitS (ps.map Pl.sl) x false)) := by
  have C := Lib.hid (tchange_any x false w h wx)
  clear h
  generalize waitC (ps.map Pl.sl) x false = c at *
  generalize waitS (ps.map Pl.sl) x false = ss at *
  go_enter Tryz.func142, Tryz.ntmps142
  go_wp2_with fail
  (with_reducible refine (C.out).mono ?_)
  rintro e w2 ⟨rfl, h2, o2⟩
  have H2 := Lib.hid h2
  have O2 := Lib.hid o2
  clear h2 o2
  go_wp2_with fail
  go_ret
  exact ⟨rfl, H2.out, O2.out⟩
theorem tagain_any {p b nd na L : Nat} {ps : List Pl} (x : Int) (w : World) (h : TnAt w p b nd na L ps) (wx : (Lit.int .i64 x).wf = true) :
    Calls Tryz.prog 121 #[.pointer (some ⟨p, 0, none⟩), .int .i64 x] w (Did w p b nd na L (waitC (ps.map Pl.sl) x true) (waitS (ps.map Pl.sl) x true)) := by
  have C := Lib.hid (tchange_any x true w h wx)
  clear h
  generalize waitC (ps.map Pl.sl) x true = c at *
  generalize waitS (ps.map Pl.sl) x true = ss at *
  go_enter Tryz.func121, Tryz.ntmps121
  go_wp2_with fail
  (with_reducible refine (C.out).mono ?_)
  rintro e w2 ⟨rfl, h2, o2⟩
  have H2 := Lib.hid h2
  have O2 := Lib.hid o2
  clear h2 o2
  go_wp2_with fail
  go_ret
  exact ⟨rfl, H2.out, O2.out⟩
set_option maxHeartbeats 1000000 in
theorem tpromote_any {p b nd na L : Nat} {ps : List Pl} (x : Int) (w : World) (h : TnAt w p b nd na L ps) (wx : (Lit.int .i64 x).wf = true) (hL : L < 100000000) :
    Calls Tryz.prog 68 #[.pointer (some ⟨p, 0, none⟩), .int .i64 x] w (Did w p b nd na L (promC nd (ps.map Pl.sl) x) (promS nd (ps.map Pl.sl) x)) := by
  have lp := h.row.lt
  have lb := h.md.lt
  have O3 := Lib.hid (only_two w (.cells #[.pointer (some ⟨p, 0, none⟩)] 90) (.cells #[.int .i64 x] 3))
  have C := Lib.hid (catch_does 111 #[.pointer (some ⟨w.heap.size, 0, none⟩), .pointer (some ⟨w.heap.size + 1, 0, none⟩)] ((w.alloc (.cells #[.pointer (some ⟨p, 0, none⟩)] 90)).alloc (.cells #[.int .i64 x] 3)) (by simp; omega) (by simp; omega) (fun _ => rfl)
    (promote1_any x _ (h.still (O3.out.alloc _)) (var_alloc (var_alloc (var_at rfl) _) _) (var_alloc (var_at (by simp)) _) wx hL))
  clear h
  generalize promC nd (ps.map Pl.sl) x = c at *
  generalize promS nd (ps.map Pl.sl) x = ss at *
  go_enter Tryz.func68, Tryz.ntmps68
  go_wp2_with fail
  (with_reducible refine (C.out).mono ?_)
  rintro e w2 ⟨rfl, h2, o2⟩
  have H2 := Lib.hid h2
  have O2 := Lib.hid (O3.out.then_ o2)
  clear h2 o2
  go_wp2_with fail
  go_ret
  exact ⟨rfl, H2.out, O2.out⟩
set_option maxHeartbeats 1000000 in
theorem tend_any {p b nd na L : Nat} {ps : List Pl} (x : Int) (w : World) (h : TnAt w p b nd na L ps) (wx : (Lit.int .i64 x).wf = true) :
    Calls Tryz.prog 106 #[.pointer (some ⟨p, 0, none⟩), .int .i64 x] w (Did w p b nd na L (endC (ps.map Pl.sl) x) (cutL (ps.map Pl.sl) x)) := by
  have lp := h.row.lt
  have lb := h.md.lt
  have O3 := Lib.hid (only_two w (.cells #[.pointer (some ⟨p, 0, none⟩)] 90) (.cells #[.int .i64 x] 3))
  have C := Lib.hid (catch_does 144 #[.pointer (some ⟨w.heap.size, 0, none⟩), .pointer (some ⟨w.heap.size + 1, 0, none⟩)] ((w.alloc (.cells #[.pointer (some ⟨p, 0, none⟩)] 90)).alloc (.cells #[.int .i64 x] 3)) (by simp; omega) (by simp; omega) (fun _ => rfl)
    (end1_any x _ (h.still (O3.out.alloc _)) (var_alloc (var_alloc (var_at rfl) _) _) (var_alloc (var_at (by simp)) _) wx))
  clear h
  generalize endC (ps.map Pl.sl) x = c at *
  generalize cutL (ps.map Pl.sl) x = ss at *
  go_enter Tryz.func106, Tryz.ntmps106
  go_wp2_with fail
  (with_reducible refine (C.out).mono ?_)
  rintro e w2 ⟨rfl, h2, o2⟩
  have H2 := Lib.hid h2
  have O2 := Lib.hid (O3.out.then_ o2)
  clear h2 o2
  go_wp2_with fail
  go_ret
  exact ⟨rfl, H2.out, O2.out⟩
end Go.Proofs.YtfbpjobobdidiaaGreatDoor


/- Turns in memory: New. -/
namespace Go.Proofs.YtfbpjobobdidiaaGreatDoor
open Go.RowKit Go.Maps
set_option linter.unusedVariables false
set_option maxRecDepth 100000

theorem Row.only {w : World} {g : Nat} {t : TypeId} {v : Value} (h : Row w g t #[v]) : w.cell? ⟨g, 0, none⟩ = some v := by rw [h.cell]; rfl
def may12 (nd na : Int) : Bool := decide (1 ≤ nd ∧ nd ≤ 64 ∧ 0 ≤ na ∧ na ≤ 64)
theorem tnew1_no (q r s : Nat) (nd na : Int) (w : World) (hq : Var w q (.int .i64 nd)) (hr : Var w r (.int .i64 na)) (hn : may12 nd na = false) :
    Calls Tryz.prog 78 #[.pointer (some ⟨q, 0, none⟩), .pointer (some ⟨r, 0, none⟩), .pointer (some ⟨s, 0, none⟩)] w fun e w' => e = left 1 ∧ w = w' := by
  have hn := of_decide_eq_false hn
  by_cases k1 : 1 ≤ nd
  · by_cases k2 : nd ≤ 64
    · by_cases k3 : 0 ≤ na
      · have t1 : decide (1 ≤ nd) = true := by simpa using k1
        have t2 : decide (nd ≤ 64) = true := by simpa using k2
        have t3 : decide (0 ≤ na) = true := by simpa using k3
        have t4 : decide (na ≤ 64) = false := by simp; omega
        clear hn k1 k2 k3
        go_enter Tryz.func78, Tryz.ntmps78
        go_wp2_with fail
        (with_reducible refine (unless_yes _ _).mono ?_)
        rintro e w' ⟨rfl, rfl⟩
        go_wp2_with fail
        (with_reducible refine (unless_no _ _).mono ?_)
        rintro e w' ⟨rfl, rfl⟩
        go_wp2_with fail
        exact ⟨rfl, rfl, rfl⟩
      · have t1 : decide (1 ≤ nd) = true := by simpa using k1
        have t2 : decide (nd ≤ 64) = true := by simpa using k2
        have t3 : decide (0 ≤ na) = false := by simpa using k3
        clear hn k1 k2 k3
        go_enter Tryz.func78, Tryz.ntmps78
        go_wp2_with fail
        (with_reducible refine (unless_yes _ _).mono ?_)
        rintro e w' ⟨rfl, rfl⟩
        go_wp2_with fail
        (with_reducible refine (unless_no _ _).mono ?_)
        rintro e w' ⟨rfl, rfl⟩
        go_wp2_with fail
        exact ⟨rfl, rfl, rfl⟩
    · have t1 : decide (1 ≤ nd) = true := by simpa using k1
      have t2 : decide (nd ≤ 64) = false := by simpa using k2
      clear hn k1 k2
      go_enter Tryz.func78, Tryz.ntmps78
      go_wp2_with fail
      (with_reducible refine (unless_no _ _).mono ?_)
      rintro e w' ⟨rfl, rfl⟩
      go_wp2_with fail
      exact ⟨rfl, rfl, rfl⟩
  · have t1 : decide (1 ≤ nd) = false := by simpa using k1
    clear hn k1
    go_enter Tryz.func78, Tryz.ntmps78
    go_wp2_with fail
    (with_reducible refine (unless_no _ _).mono ?_)
    rintro e w' ⟨rfl, rfl⟩
    go_wp2_with fail
    exact ⟨rfl, rfl, rfl⟩
theorem tn_nil {w : World} {p b nd na : Nat} (r : Row w p 147 #[.int .i64 nd, .int .i64 na, .map (some b), .int .i64 0]) (m : Md12 w b []) (h1 : nd ≤ 64) (h2 : na ≤ 64) : TnAt w p b nd na 0 [] :=
  ⟨r, m, List.Pairwise.nil, List.Pairwise.nil, fun q hq => (by cases hq), fun a => Nat.zero_le _, h1, h2⟩
set_option maxHeartbeats 1000000 in
theorem tnew1_yes (q r s : Nat) (nd na : Nat) (w : World) (hq : Var w q (.int .i64 nd)) (hr : Var w r (.int .i64 na)) (hs : Row w s 90 #[.pointer none]) (h1 : 1 ≤ nd) (h2 : nd ≤ 64) (h3 : na ≤ 64) :
    Calls Tryz.prog 78 #[.pointer (some ⟨q, 0, none⟩), .pointer (some ⟨r, 0, none⟩), .pointer (some ⟨s, 0, none⟩)] w fun e w' => e = .returned (.tuple #[]) ∧ (∃ p b, TnAt w' p b nd na 0 [] ∧ Row w' s 90 #[.pointer (some ⟨p, 0, none⟩)] ∧ w.heap.size ≤ p ∧ w.heap.size ≤ b) ∧ Only (fun k => k = s) w w' := by
  have hmm := @run_makeMap Tryz.prog
  have t1 : decide ((1 : Int) ≤ nd) = true := by simp; omega
  have t2 : decide ((nd : Int) ≤ 64) = true := by simp; omega
  have t3 : decide ((0 : Int) ≤ na) = true := by simp
  have t4 : decide ((na : Int) ≤ 64) = true := by simp; omega
  have lq := hq.lt
  have lr := hr.lt
  have ls := hs.lt
  have HS := Lib.hid hs
  have c := hs.only
  have z := hs.frozen 0
  have c9 : ∀ o o', ((w.alloc o).alloc o').cell? ⟨s, 0, none⟩ = some (.pointer none) := fun o o' => ((HS.out.alloc o).alloc o').only
  have z9 : ∀ o o', ((w.alloc o).alloc o').frozen? ⟨s, 0, none⟩ = false := fun o o' => ((HS.out.alloc o).alloc o').frozen 0
  have H2 := Lib.hid (show nd ≤ 64 ∧ na ≤ 64 from ⟨h2, h3⟩)
  clear hs h1 h2 h3
  go_enter Tryz.func78, Tryz.ntmps78
  go_wp2_with fail
  (with_reducible refine (unless_yes _ _).mono ?_)
  rintro e w' ⟨rfl, rfl⟩
  go_wp2_with fail
  (with_reducible refine (unless_yes _ _).mono ?_)
  rintro e w' ⟨rfl, rfl⟩
  go_wp2_with fail
  go_end0
  have r1 := HS.out.put 0 (.pointer (some ⟨w.heap.size + 1, 0, none⟩))
  have o1 := (Only.refl (fun k => k = s) w).into (b := s) rfl 0 (.pointer (some ⟨w.heap.size + 1, 0, none⟩))
  have hz : (w.setCell ⟨s, 0, none⟩ (.pointer (some ⟨w.heap.size + 1, 0, none⟩))).heap.size = w.heap.size := by simp [World.setCell]
  generalize w.setCell ⟨s, 0, none⟩ (.pointer (some ⟨w.heap.size + 1, 0, none⟩)) = W at *
  have a1 := World.ownsMap_made (H := Unit) W Tryz.prog 3 plElem
  have a2 := Row.fresh (W.alloc (.map #[] 0)) 147 #[.int .i64 nd, .int .i64 na, .map (some w.heap.size), .int .i64 0]
  simp only [World.size_alloc, hz] at a1 a2
  refine ⟨rfl, ⟨w.heap.size + 1, w.heap.size, tn_nil a2 ⟨_, a1.alloc _, Reads12.nil⟩ H2.out.1 H2.out.2, ?_, by omega, by omega⟩, ?_⟩
  · exact (r1.alloc _).alloc _
  · exact (o1.alloc _).alloc _

set_option maxHeartbeats 1000000 in
theorem tnew_no (nd na : Int) (w : World) (hn : may12 nd na = false) :
    Calls Tryz.prog 35 #[.int .i64 nd, .int .i64 na] w fun e w' => e = .returned (.tuple #[.pointer none, .int .i64 1]) ∧ Only none_ w w' := by
  have C : Calls Tryz.prog 77 #[.func (.func 78) #[] #[.pointer (some ⟨w.heap.size, 0, none⟩), .pointer (some ⟨w.heap.size + 1, 0, none⟩), .pointer (some ⟨w.heap.size + 1 + 1, 0, none⟩)]]
      (((w.alloc (.cells #[.int .i64 nd] 3)).alloc (.cells #[.int .i64 na] 3)).alloc (.cells #[.pointer none] 90)) fun e w' =>
        e = .returned (.int .i64 1) ∧ Row w' (w.heap.size + 1 + 1) 90 #[.pointer none] ∧ Only none_ w w' := by
    have hq : Var (((w.alloc (.cells #[.int .i64 nd] 3)).alloc (.cells #[.int .i64 na] 3)).alloc (.cells #[.pointer none] 90)) w.heap.size (.int .i64 nd) := var_alloc (var_alloc (var_at rfl) _) _
    have hr : Var (((w.alloc (.cells #[.int .i64 nd] 3)).alloc (.cells #[.int .i64 na] 3)).alloc (.cells #[.pointer none] 90)) (w.heap.size + 1) (.int .i64 na) := var_alloc (var_at (by simp)) _
    have hs := Row.fresh ((w.alloc (.cells #[.int .i64 nd] 3)).alloc (.cells #[.int .i64 na] 3)) 90 #[.pointer none]
    have hO := only_three w (.cells #[.int .i64 nd] 3) (.cells #[.int .i64 na] 3) (.cells #[.pointer none] 90)
    have hz : (((w.alloc (.cells #[.int .i64 nd] 3)).alloc (.cells #[.int .i64 na] 3)).alloc (.cells #[.pointer none] 90)).heap.size = w.heap.size + 3 := by simp
    simp only [World.size_alloc] at hs
    generalize ((w.alloc (.cells #[.int .i64 nd] 3)).alloc (.cells #[.int .i64 na] 3)).alloc (.cells #[.pointer none] 90) = W at *
    refine (catch_code 78 _ W none_ (fun r w' => r = some 1 ∧ Row w' (w.heap.size + 1 + 1) 90 #[.pointer none]) (fun _ => rfl) (fun s => s) ?_ ?_).mono ?_
    · rintro r w1 v _ ⟨rfl, s'⟩
      exact ⟨rfl, s'.far (by show w.heap.size + 1 + 1 ≠ W.heap.size; omega) v⟩
    · refine (tnew1_no _ _ _ nd na _ (var_alloc hq _) (var_alloc hr _) hn).mono ?_
      rintro e w' ⟨rfl, rfl⟩
      exact ⟨some 1, rfl, ⟨rfl, hs.alloc _⟩, Only.refl _ _⟩
    · rintro e w' ⟨r, rfl, ⟨rfl, s'⟩, o⟩
      exact ⟨rfl, s', hO.same o⟩
  have C := Lib.hid C
  clear hn
  go_enter Tryz.func35, Tryz.ntmps35
  go_wp2_with fail
  (with_reducible refine (C.out).mono ?_)
  rintro e w' ⟨rfl, s', o⟩
  have O := Lib.hid o
  have c0 := s'.only
  have c1 := s'.frozen 0
  clear s' o
  go_wp2_with fail
  exact bodyPost_ret (v := .tuple #[.pointer none, .int .i64 1]) (by simp [results, Tryz.results35, go_sem, c0]) rfl ⟨rfl, O.out.put (p := ⟨w.heap.size + 1 + 1, 0, none⟩) (fun k => by simp at k; omega) _⟩

set_option maxHeartbeats 1000000 in
theorem tnew_yes (nd na : Nat) (w : World) (h1 : 1 ≤ nd) (h2 : nd ≤ 64) (h3 : na ≤ 64) :
    Calls Tryz.prog 35 #[.int .i64 nd, .int .i64 na] w fun e w' => ∃ p b, e = .returned (.tuple #[.pointer (some ⟨p, 0, none⟩), .int .i64 0]) ∧ TnAt w' p b nd na 0 [] ∧ w.heap.size ≤ p ∧ w.heap.size ≤ b ∧ Only none_ w w' := by
  have C : Calls Tryz.prog 77 #[.func (.func 78) #[] #[.pointer (some ⟨w.heap.size, 0, none⟩), .pointer (some ⟨w.heap.size + 1, 0, none⟩), .pointer (some ⟨w.heap.size + 1 + 1, 0, none⟩)]]
      (((w.alloc (.cells #[.int .i64 nd] 3)).alloc (.cells #[.int .i64 na] 3)).alloc (.cells #[.pointer none] 90)) fun e w' =>
        e = .returned (.int .i64 0) ∧ (∃ p b, TnAt w' p b nd na 0 [] ∧ Row w' (w.heap.size + 1 + 1) 90 #[.pointer (some ⟨p, 0, none⟩)] ∧ w.heap.size + 3 ≤ p ∧ w.heap.size + 3 ≤ b) ∧ Only none_ w w' := by
    have hq : Var (((w.alloc (.cells #[.int .i64 nd] 3)).alloc (.cells #[.int .i64 na] 3)).alloc (.cells #[.pointer none] 90)) w.heap.size (.int .i64 nd) := var_alloc (var_alloc (var_at rfl) _) _
    have hr : Var (((w.alloc (.cells #[.int .i64 nd] 3)).alloc (.cells #[.int .i64 na] 3)).alloc (.cells #[.pointer none] 90)) (w.heap.size + 1) (.int .i64 na) := var_alloc (var_at (by simp)) _
    have hs := Row.fresh ((w.alloc (.cells #[.int .i64 nd] 3)).alloc (.cells #[.int .i64 na] 3)) 90 #[.pointer none]
    have hO := only_three w (.cells #[.int .i64 nd] 3) (.cells #[.int .i64 na] 3) (.cells #[.pointer none] 90)
    have hz : (((w.alloc (.cells #[.int .i64 nd] 3)).alloc (.cells #[.int .i64 na] 3)).alloc (.cells #[.pointer none] 90)).heap.size = w.heap.size + 3 := by simp
    simp only [World.size_alloc] at hs
    generalize ((w.alloc (.cells #[.int .i64 nd] 3)).alloc (.cells #[.int .i64 na] 3)).alloc (.cells #[.pointer none] 90) = W at *
    refine (catch_code 78 _ W (fun k => k = w.heap.size + 1 + 1) (fun r w' => r = none ∧ ∃ p b, TnAt w' p b nd na 0 [] ∧ Row w' (w.heap.size + 1 + 1) 90 #[.pointer (some ⟨p, 0, none⟩)] ∧ W.heap.size + 1 ≤ p ∧ W.heap.size + 1 ≤ b) (fun _ => rfl) (by omega) ?_ ?_).mono ?_
    · rintro r w1 v _ ⟨rfl, p, b, h', s', k1, k2⟩
      have o := (Only.refl (fun k => k = W.heap.size) w1).into rfl 0 v
      exact ⟨rfl, p, b, h'.keep o (by omega) (by omega), s'.far (by show w.heap.size + 1 + 1 ≠ W.heap.size; omega) v, k1, k2⟩
    · refine (tnew1_yes _ _ _ nd na _ (var_alloc hq _) (var_alloc hr _) (hs.alloc _) h1 h2 h3).mono ?_
      rintro e w' ⟨rfl, ⟨p, b, h', s', k1, k2⟩, o⟩
      simp only [World.size_alloc] at k1 k2
      exact ⟨none, rfl, ⟨rfl, p, b, h', s', by omega, by omega⟩, o⟩
    · rintro e w' ⟨r, rfl, ⟨rfl, p, b, h', s', k1, k2⟩, o⟩
      refine ⟨rfl, ⟨p, b, h', s', by omega, by omega⟩, hO.trans o (fun i hi s => ?_)⟩
      omega
  have C := Lib.hid C
  clear h1 h2 h3
  go_enter Tryz.func35, Tryz.ntmps35
  go_wp2_with fail
  (with_reducible refine (C.out).mono ?_)
  rintro e w' ⟨rfl, ⟨p, b, h', s', k1, k2⟩, o⟩
  have O := Lib.hid o
  have H := Lib.hid h'
  have c0 := s'.only
  have c1 := s'.frozen 0
  clear s' o h'
  go_wp2_with fail
  have oo := (Only.refl (fun k => k = w.heap.size + 1 + 1) w').into rfl 0 (.pointer (some ⟨p, 0, none⟩))
  exact bodyPost_ret (v := .tuple #[.pointer (some ⟨p, 0, none⟩), .int .i64 0]) (by simp [results, Tryz.results35, go_sem, c0]) rfl
    ⟨p, b, rfl, H.out.keep oo (by omega) (by omega), by omega, by omega, O.out.put (p := ⟨w.heap.size + 1 + 1, 0, none⟩) (fun k => by simp at k; omega) _⟩
end Go.Proofs.YtfbpjobobdidiaaGreatDoor


/- A table of what is expected: entries are sorted by their ages. -/
import Derived.Test.YtfmmmiiohaaegaaTpGrow
import Derived.Test.YtfmmmiiohaaegaaArgs
import Derived.Test.YtfmmmiiohaaegaaShelf
namespace Go.Proofs.Ytfmmmiiohaaegaa
open Go.RowKit Go.Maps Go.Sort Go.Shelf
set_option linter.unusedVariables false

/-- what the sort compares -/
abbrev byAge (x y : En) : Int := Go.Lib.compareInt x.age y.age

set_option maxHeartbeats 1000000 in
theorem younger_any (x y : En) (w : World) : Calls Try.prog 55 #[.agg #[.int .i64 x.next, .int .i64 x.age], .agg #[.int .i64 y.next, .int .i64 y.age]] w fun e w' => e = .returned (.int .i64 (byAge x y)) ∧ ∃ q os', w' = grow (w.drewN q) os' := by
  have hcon := fun W' => Try.cmp_Compare_int x.age y.age W'
  unfold byAge
  generalize Go.Lib.compareInt x.age y.age = r at hcon ⊢
  go_enter Try.func55, Try.ntmps55
  go_wp2_with (go_at_call 67; refine (hcon _).mono ?_; rintro e w' ⟨rfl, rfl⟩)
  go_ret
  exact ⟨rfl, 0, _, by rw [alloc_eq_grow, alloc_eq_grow, grow_grow]; rfl⟩

theorem lt_age (x y : En) : Go.Proofs.ltOf byAge x y = decide (x.age < y.age) := by
  unfold Go.Proofs.ltOf byAge Go.Lib.compareInt
  by_cases h1 : x.age < y.age
  · have : (x.age : Int) < y.age := by omega
    simp [h1, this]
  · have : ¬ (x.age : Int) < y.age := by omega
    by_cases h2 : (y.age : Int) < x.age <;> simp [h1, this, h2]
theorem swo_age : SWO (Go.Proofs.ltOf byAge) where
  irrefl x := by rw [lt_age]; simp
  trans x y z h1 h2 := by rw [lt_age] at *; simp at *; omega
  ntrans x y z h1 h2 := by rw [lt_age] at *; simp at *; omega

theorem rise_one : ∀ {l l' : List En}, l.Pairwise (fun a b => a.age < b.age) → l'.Pairwise (fun a b => a.age < b.age) → (∀ x, x ∈ l ↔ x ∈ l') → l = l'
  | [], [], _, _, _ => rfl
  | [], b :: r', _, _, h => by have := (h b).2 (by simp); cases this
  | a :: r, [], _, _, h => by have := (h a).1 (by simp); cases this
  | a :: r, b :: r', hl, hl', h => by
    obtain ⟨h1, h2⟩ := List.pairwise_cons.1 hl
    obtain ⟨h3, h4⟩ := List.pairwise_cons.1 hl'
    have e : a = b := by
      rcases List.mem_cons.1 ((h a).1 (by simp)) with q | q
      · exact q
      · rcases List.mem_cons.1 ((h b).2 (by simp)) with k | k
        · exact k.symm
        · have := h3 a q
          have := h1 b k
          omega
    subst e
    congr 1
    refine rise_one h2 h4 (fun x => ⟨fun hx => ?_, fun hx => ?_⟩)
    · rcases List.mem_cons.1 ((h x).1 (by simp [hx])) with q | q
      · have := h1 x hx; rw [q] at this; omega
      · exact q
    · rcases List.mem_cons.1 ((h x).2 (by simp [hx])) with q | q
      · have := h3 x hx; rw [q] at this; omega
      · exact q

theorem age_inj {es : List En} (h : es.Pairwise (fun a b => a.age < b.age)) {a b : En} (ha : a ∈ es) (hb : b ∈ es) (e : a.age = b.age) : a = b := by
  obtain ⟨i, hi, rfl⟩ := List.getElem_of_mem ha
  obtain ⟨j, hj, rfl⟩ := List.getElem_of_mem hb
  rcases Nat.lt_trichotomy i j with q | q | q
  · have := List.pairwise_iff_getElem.1 h i j hi hj q; omega
  · subst q; rfl
  · have := List.pairwise_iff_getElem.1 h j i hj hi q; omega
/-- a permutation of what a table has, sorted, is what it has -/
theorem sorted_is {es xs : List En} {d : Array En} (h : es.Pairwise (fun a b => a.age < b.age)) (hn : xs.Nodup) (hm : ∀ e, e ∈ xs ↔ e ∈ es) (hp : PermIn 0 xs.toArray.size xs.toArray d) (hs : SortedIn (Go.Proofs.ltOf byAge) 0 xs.toArray.size d) : d.toList = es := by
  obtain ⟨h1, _, h3⟩ := hp
  have sz : d.size = xs.length := by rw [h1]; simp
  have e1 : d.extract 0 xs.toArray.size = d := by rw [List.size_toArray, ← sz]; simp
  have e2 : xs.toArray.extract 0 xs.toArray.size = xs.toArray := by simp
  rw [e1, e2] at h3
  have mem : ∀ x, x ∈ d.toList ↔ x ∈ es := fun x => by rw [h3.mem_iff]; exact hm x
  have nd : d.toList.Nodup := (h3.nodup_iff).2 hn
  refine rise_one ?_ h mem
  rw [List.pairwise_iff_getElem]
  intro i j hi hj hij
  have hi' : i < d.size := by simpa using hi
  have hj' : j < d.size := by simpa using hj
  have := hs i j (Nat.zero_le _) hij (by simp; omega)
  rw [lt_age, getElem!_pos d i hi', getElem!_pos d j hj'] at this
  have hle : d[i].age ≤ d[j].age := by simpa using this
  have mi : d[i] ∈ es := (mem _).1 (by simp)
  have mj : d[j] ∈ es := (mem _).1 (by simp)
  show d[i].age < d[j].age
  rcases Nat.lt_or_ge d[i].age d[j].age with q | q
  · exact q
  · exfalso
    have eq : d[i].age = d[j].age := by omega
    have := age_inj h mi mj eq
    have nd2 := List.pairwise_iff_getElem.1 nd i j hi hj hij
    exact nd2 (by simpa using this)

theorem only_sorted {w : World} {g n : Nat} {os : Array Obj} (d : Array En) : Only (fun k => k = g) w (Go.Proofs.sortWorldK En.cells 2 w g 0 n d os) := by
  refine ⟨rfl, rfl, rfl, ?_, fun k hk hne => ?_⟩
  · exact Go.Proofs.size_sortWorldK_c En.cells 2 w g 0 n d os
  · unfold Go.Proofs.sortWorldK
    rw [heap_grow_old _ _ (by simpa [putRowK] using hk)]
    have : g ≠ k := fun e => hne e.symm
    simp [putRowK, putRow, mapBlock, Sort.ahead, Array.getElem?_modify, this]
end Go.Proofs.Ytfmmmiiohaaegaa

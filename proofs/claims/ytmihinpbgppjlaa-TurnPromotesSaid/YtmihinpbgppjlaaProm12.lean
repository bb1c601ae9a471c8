/- Plain facts of turns that TurnPromotes asks: all wait; demands and the others told as rows of tickets. No condition but what each says. -/
import Derived.Test.YtmihinpbgppjlaaKeep12
namespace Go.Proofs.Ytmihinpbgppjlaa
open Go.RowKit Go.Maps
set_option linter.unusedVariables false

def mkS (a : Bool) (l : List Int) : List Sl := l.map (fun k => ⟨k, a, true⟩)
structure Pr (ss : List Sl) (dl al : List Int) : Prop where
  once : OnceL ss
  d : rowL false ss = mkS false dl
  a : rowL true ss = mkS true al
theorem mkS_len (a : Bool) (l : List Int) : (mkS a l).length = l.length := List.length_map _
theorem Pr.has {ss : List Sl} {dl al : List Int} (h : Pr ss dl al) (x : Int) : hasL ss x = true ↔ x ∈ dl ∨ x ∈ al := by
  rw [hasL_iff]
  constructor
  · rintro ⟨s, hs, rfl⟩
    cases ha : s.a with
    | false =>
      have := row_mem.2 ⟨hs, ha⟩
      rw [h.d] at this
      obtain ⟨k, hk, rfl⟩ := List.mem_map.1 this
      exact .inl hk
    | true =>
      have := row_mem.2 ⟨hs, ha⟩
      rw [h.a] at this
      obtain ⟨k, hk, rfl⟩ := List.mem_map.1 this
      exact .inr hk
  · rintro (hx | hx)
    · have : (⟨x, false, true⟩ : Sl) ∈ rowL false ss := by rw [h.d]; exact List.mem_map.2 ⟨x, hx, rfl⟩
      exact ⟨_, (row_mem.1 this).1, rfl⟩
    · have : (⟨x, true, true⟩ : Sl) ∈ rowL true ss := by rw [h.a]; exact List.mem_map.2 ⟨x, hx, rfl⟩
      exact ⟨_, (row_mem.1 this).1, rfl⟩
theorem Pr.wait {ss : List Sl} {dl al : List Int} (h : Pr ss dl al) : waitL ss = dl ++ al := by
  unfold waitL
  rw [h.d, h.a]
  unfold mkS
  rw [List.filter_eq_self.2 (fun s hs => by
    rcases List.mem_append.1 hs with q | q
    · obtain ⟨k, _, rfl⟩ := List.mem_map.1 q; rfl
    · obtain ⟨k, _, rfl⟩ := List.mem_map.1 q; rfl), List.map_append, List.map_map, List.map_map]
  have e1 : ((fun s : Sl => s.k) ∘ fun k : Int => (⟨k, false, true⟩ : Sl)) = id := rfl
  have e2 : ((fun s : Sl => s.k) ∘ fun k : Int => (⟨k, true, true⟩ : Sl)) = id := rfl
  rw [e1, e2, List.map_id, List.map_id]
theorem Pr.free {ss : List Sl} {dl al : List Int} (h : Pr ss dl al) (n m : Nat) : freeI n false ss = (n : Int) - dl.length ∧ freeI m true ss = (m : Int) - al.length := by
  unfold freeI
  rw [h.d, h.a, mkS_len, mkS_len]
  exact ⟨rfl, rfl⟩
theorem Pr.nil : Pr [] [] [] := ⟨List.Pairwise.nil, rfl, rfl⟩
theorem Pr.putD {nd na : Nat} {ss : List Sl} {dl al : List Int} (h : Pr ss dl al) {x : Int} (h1 : 1 ≤ x) (hd : x ∉ dl) (ha : x ∉ al) (hr : dl.length < nd) : putC nd na ss x false = 0 ∧ Pr (putS nd na ss x false) (dl ++ [x]) al := by
  have hh : hasL ss x = false := by
    cases e : hasL ss x with
    | false => rfl
    | true => rcases (h.has x).1 e with q | q <;> contradiction
  have c : putC nd na ss x false = 0 := by
    unfold putC
    rw [if_neg (by omega), hh, if_neg (by simp), if_neg (by rw [h.d, mkS_len]; exact Nat.not_le.2 hr)]
  refine ⟨c, ⟨put_once h.once x false, ?_, ?_⟩⟩
  · unfold putS
    rw [c, if_pos rfl, row_put, if_pos rfl, h.d]
    unfold mkS
    rw [List.map_append]
    rfl
  · unfold putS
    rw [c, if_pos rfl, row_put, if_neg (by decide), h.a]
theorem Pr.putA {nd na : Nat} {ss : List Sl} {dl al : List Int} (h : Pr ss dl al) {x : Int} (h1 : 1 ≤ x) (hd : x ∉ dl) (ha : x ∉ al) (hr : al.length < na) : putC nd na ss x true = 0 ∧ Pr (putS nd na ss x true) dl (al ++ [x]) := by
  have hh : hasL ss x = false := by
    cases e : hasL ss x with
    | false => rfl
    | true => rcases (h.has x).1 e with q | q <;> contradiction
  have c : putC nd na ss x true = 0 := by
    unfold putC
    rw [if_neg (by omega), hh, if_neg (by simp), if_neg (by rw [h.a, mkS_len]; exact Nat.not_le.2 hr)]
  refine ⟨c, ⟨put_once h.once x true, ?_, ?_⟩⟩
  · unfold putS
    rw [c, if_pos rfl, row_put, if_neg (by decide), h.d]
  · unfold putS
    rw [c, if_pos rfl, row_put, if_pos rfl, h.a]
    unfold mkS
    rw [List.map_append]
    rfl
theorem Pr.prom {nd : Nat} {ss : List Sl} {dl al : List Int} (h : Pr ss dl al) {k : Nat} {n : Int} (hn : al[k]? = some n) (hr : dl.length < nd) :
    promC nd ss n = 0 ∧ Pr (promS nd ss n) (dl ++ [n]) (al.take k ++ al.drop (k + 1)) ∧ promC nd (promS nd ss n) n = 5 ∧ promS nd (promS nd ss n) n = promS nd ss n := by
  have hy : (rowL true ss)[k]? = some ⟨n, true, true⟩ := by rw [h.a]; unfold mkS; rw [List.getElem?_map, hn]; rfl
  have ST := stand_in h.once hy
  obtain ⟨E1, E2, E3, E4⟩ := ST
  have c : promC nd ss n = 0 := by
    unfold promC
    rw [E1, E2, if_pos rfl, if_pos rfl, if_neg (by rw [h.d, mkS_len]; omega)]
  have eS : promS nd ss n = cutL ss n ++ [⟨n, false, true⟩] := by
    unfold promS
    rw [c, if_pos rfl, E2]
  have o := prom_once (nd := nd) h.once n
  have P : Pr (promS nd ss n) (dl ++ [n]) (al.take k ++ al.drop (k + 1)) := by
    refine ⟨o, ?_, ?_⟩
    · rw [eS, row_put, if_pos rfl, row_cut, show cutL (rowL false ss) n = rowL false ss from cut_nowhere (fun z hz => E4 z hz), h.d]
      unfold mkS
      rw [List.map_append]
      rfl
    · rw [eS, row_put, if_neg (by decide), row_cut]
      have := Go.Proofs.Ytmihinpbgppjlaa.cut_at (h.once.row true) hy
      rw [this, h.a]
      unfold mkS
      rw [List.map_append, List.map_take, List.map_drop]
  have m : (⟨n, false, true⟩ : Sl) ∈ promS nd ss n := by rw [eS]; simp
  have c5 : promC nd (promS nd ss n) n = 5 := by
    have h1 : hasL (promS nd ss n) n = true := hasL_iff.2 ⟨_, m, rfl⟩
    have h2 : atL (promS nd ss n) n = ⟨n, false, true⟩ := atL_of o m
    unfold promC
    rw [h1, h2]
    rfl
  refine ⟨c, P, c5, ?_⟩
  generalize promS nd ss n = s2 at c5 ⊢
  unfold promS
  rw [c5]
  rfl
/-- the tickets of the first so many puts -/
def upL (d : Int) (i : Nat) : List Int := (List.range i).map (fun a : Nat => (a : Int) + d)
theorem up_len (d : Int) (i : Nat) : (upL d i).length = i := by unfold upL; simp
theorem up_more (d : Int) (i : Nat) : upL d (i + 1) = upL d i ++ [(i : Int) + d] := by
  unfold upL
  rw [List.range_succ, List.map_append]
  rfl
theorem up_in {d x : Int} {i : Nat} (h : x ∈ upL d i) : d ≤ x ∧ x < d + i := by
  obtain ⟨a, ha, rfl⟩ := List.mem_map.1 h
  have := List.mem_range.1 ha
  omega
/-- a slice of the law's own grows -/
theorem Sg.grow {w0 w w' : World} {v v' : Value} {xs ys : List Int} {B : Asr} (h : Sg w0 w ((AI v xs).and B)) (ho : OwnsInts w' 0 v' ys) (hl : v'.ownBlock = v.ownBlock ∨ v'.ownBlock = some w.heap.size) (o : w.grownBy w' v.ownBlock) : Sg w0 w' ((AI v' ys).and B) := by
  obtain ⟨⟨M, ⟨MA, MB, ⟨ha, m⟩, hb, d, e⟩, l⟩, k⟩ := h
  have oo : Only MA w w' := (Only.of_grown o).more (fun i _ q => (m i).2 q.symm)
  refine Asr.frame (A' := AI v' ys) hb d e l k ⟨⟨fun g => v'.ownBlock = some g, ⟨ho, fun g => Iff.rfl⟩, fun g hg => ?_⟩, oo⟩
  rcases hl with q | q
  · exact .inl ((m g).2 (by rw [← q, hg]))
  · rw [q] at hg
    injection hg with hg
    exact .inr (by omega)
theorem Sg.ints {w0 w : World} {v : Value} {l : List Int} (h : Sg w0 w (AI v l)) : OwnsInts w 0 v l := by
  obtain ⟨⟨M, ⟨a, _⟩, l⟩, k⟩ := h
  exact a
theorem ints_more {w : World} {base n : Nat} {v : Value} {l : List Int} {x : Int} (hn : n = l.length + 1) (h : w.ownsRow base 3 1 v n (l.flatMap one ++ one x)) : OwnsInts w base v (l ++ [x]) := by
  subst hn
  unfold OwnsInts Owns
  rw [List.flatMap_append, List.length_append]
  simpa using h
theorem src_one (w : World) (x : Int) : Src (w.alloc (.cells #[.int .i64 x] 3)) (.slice (some ⟨w.heap.size, 0, none⟩) 1 1) 1 (one x) := .inr ⟨_, _, rfl, fun j u hj => by rw [add12, Nat.zero_add, (Row.fresh w 3 #[.int .i64 x]).cell, List.getElem?_toArray]; exact hj⟩
theorem one_len (l : List Int) : (l.flatMap one).length = l.length * 1 := by
  have := flat_size one1 l
  unfold flat at this
  simpa using this
theorem one_cells (l : List Int) : ∀ u ∈ l.flatMap one, u.oneCell' = true := fun u hu => by
  obtain ⟨x, _, hx⟩ := List.mem_flatMap.1 hu
  exact one_one x u hx
theorem next_len {dl al : List Int} {n : Int} {r m : Nat} (h1 : dl.length + al.length = 40) (h2 : al.length ≤ 20) (hm : al.length = m) (rm : r < m) :
    (dl ++ [n]).length + (al.take r ++ al.drop (r + 1)).length = 40 ∧ (al.take r ++ al.drop (r + 1)).length ≤ 20 ∧ 80 - 2 * al.length + 1 + 1 = 80 - 2 * (al.take r ++ al.drop (r + 1)).length := by
  rw [List.length_append, List.length_append, List.length_take, List.length_drop]
  simp only [List.length_cons, List.length_nil]
  omega
theorem less_more {len j : Nat} (h : j < len) : len - (j + 1) < len - j := by omega
theorem ints_both {w : World} {base : Nat} {v : Value} {d a : List Int} (h : w.ownsRow base 3 1 v (0 + d.length + a.length) ([] ++ d.flatMap one ++ a.flatMap one)) : OwnsInts w base v (d ++ a) := by
  show World.ownsRow _ _ _ _ _ _ _
  rw [List.flatMap_append, List.length_append]
  simpa using h
theorem free_pr {p c : Nat} {ss : List Sl} {dl al : List Int} {w0 w : World} (h : Sg w0 w (AT p 60 20 c ss)) (hp : Pr ss dl al) :
    Calls Try.prog 13 #[.pointer (some ⟨p, 0, none⟩)] w fun e w' => e = .returned (.tuple #[.int .i64 (60 - (dl.length : Int)), .int .i64 (20 - (al.length : Int))]) ∧ Only none_ w w' := by
  have := sg_free h
  rw [(hp.free 60 20).1, (hp.free 60 20).2] at this
  exact this
end Go.Proofs.Ytmihinpbgppjlaa

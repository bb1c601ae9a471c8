/- Plain facts of turns that the laws of layer 12 ask: who waits, each once, in which order. No condition but what each says. -/
import Derived.Test.YtmihinpbgppjlaaTnAwake
namespace Go.Proofs.Ytmihinpbgppjlaa
open Go.RowKit Go.Maps
set_option linter.unusedVariables false

theorem Md.wf {w : World} {b : Nat} {ps : List Pl} (h : Md w b ps) : ∀ q ∈ ps, (Lit.int .i64 q.k).wf = true := by
  intro q hq
  obtain ⟨D, ho, hr⟩ := h
  have hk : has D (.int .i64 q.k) = true := by rw [hr.1]; exact hasP_iff.2 ⟨q, hq, rfl⟩
  obtain ⟨es, clock, hb, F, _, rfl⟩ := ho
  obtain ⟨p, hp, hpk⟩ := List.any_eq_true.1 hk
  obtain ⟨x, hx, rfl⟩ := List.mem_map.1 (mem_sorted.1 hp)
  obtain ⟨y, hy⟩ := F.reads x hx
  rw [WideElems.rg_of hy] at hpk
  obtain ⟨a, _, e2, wa⟩ := keyOf_int_inv Try.underlying3 (WideElems.rd_key hy)
  have := WideAt.sameKey_eq hpk
  rw [this] at e2
  injection e2 with _ e2
  rw [e2]
  exact wa
theorem Sg.wfs {w0 w : World} {p nd na c : Nat} {ss : List Sl} (h : Sg w0 w (AT p nd na c ss)) : ∀ s ∈ ss, (Lit.int .i64 s.k).wf = true := by
  obtain ⟨⟨M, ⟨b, L, ps, h, rfl, _⟩, _⟩, _⟩ := h
  intro s hs
  obtain ⟨q, hq, rfl⟩ := List.mem_map.1 hs
  exact h.md.wf q hq
/-- all that wait, in their order -/
def waitW (ss : List Sl) : List Sl := (rowL false ss ++ rowL true ss).filter (·.s)
theorem waitL_W (ss : List Sl) : waitL ss = (waitW ss).map (·.k) := rfl
theorem waitW_mem {ss : List Sl} {s : Sl} : s ∈ waitW ss ↔ s ∈ ss ∧ s.s = true := by
  unfold waitW
  rw [List.mem_filter, List.mem_append, row_mem, row_mem]
  constructor
  · rintro ⟨⟨h, _⟩ | ⟨h, _⟩, hs⟩ <;> exact ⟨h, hs⟩
  · rintro ⟨h, hs⟩
    refine ⟨?_, hs⟩
    cases e : s.a
    · exact .inl ⟨h, rfl⟩
    · exact .inr ⟨h, rfl⟩
theorem waitW_once {ss : List Sl} (o : OnceL ss) : OnceL (waitW ss) := by
  unfold OnceL waitW
  apply List.Pairwise.filter
  rw [List.pairwise_append]
  refine ⟨o.row false, o.row true, fun a ha b hb e => ?_⟩
  have h1 := row_mem.1 ha
  have h2 := row_mem.1 hb
  have := o.inj h1.1 h2.1 e
  subst this
  rw [h1.2] at h2
  cases h2.2
theorem waitW_up (ss : List Sl) : (waitW ss).Pairwise (fun a b => a.a = true → b.a = true) := by
  unfold waitW
  apply List.Pairwise.filter
  rw [List.pairwise_append]
  refine ⟨List.pairwise_of_forall_mem_list (fun a ha b hb k => ?_), List.pairwise_of_forall_mem_list (fun a ha b hb k => (row_mem.1 hb).2), fun a ha b hb k => (row_mem.1 hb).2⟩
  rw [(row_mem.1 ha).2] at k
  cases k
theorem waitL_nodup {ss : List Sl} (o : OnceL ss) : (waitL ss).Nodup := by
  rw [waitL_W]
  unfold List.Nodup
  rw [List.pairwise_map]
  exact waitW_once o
theorem wait_out (n : Int) : ∀ l : List Sl, ((waitS l n false).filter (·.s)).map (·.k) = ((l.filter (·.s)).map (·.k)).filter (· != n)
  | [] => rfl
  | a :: r => by
    have ih := wait_out n r
    have e : waitS (a :: r) n false = (if a.k = n then { a with s := false } else a) :: waitS r n false := rfl
    rw [e]
    by_cases h : a.k = n
    · rw [if_pos h, List.filter_cons, List.filter_cons]
      cases hs : a.s
      · simp [ih]
      · simp [ih, h]
    · rw [if_neg h, List.filter_cons, List.filter_cons]
      cases hs : a.s
      · simp [ih]
      · simp [ih, h]
theorem wait_app (l r : List Sl) (n : Int) (v : Bool) : waitS (l ++ r) n v = waitS l n v ++ waitS r n v := by
  unfold waitS
  rw [List.map_append]
theorem waitL_out (ss : List Sl) (n : Int) : waitL (waitS ss n false) = (waitL ss).filter (· != n) := by
  unfold waitL
  rw [row_wait, row_wait, ← wait_app, wait_out]
theorem keeps {ss : List Sl} (o : OnceL ss) {n : Int} (h : n ∈ waitL ss) :
    waitC ss n false = 0 ∧ waitC (waitS ss n false) n true = 0 ∧ waitS (waitS ss n false) n true = ss ∧ (waitL (waitS ss n false)).length + 1 = (waitL ss).length := by
  rw [waitL_W] at h
  obtain ⟨s, hs, rfl⟩ := List.mem_map.1 h
  obtain ⟨hs1, hs2⟩ := waitW_mem.1 hs
  have e1 : hasL ss s.k = true := hasL_iff.2 ⟨s, hs1, rfl⟩
  have e2 := atL_of o hs1
  have m2 : ({ s with s := false } : Sl) ∈ waitS ss s.k false := List.mem_map.2 ⟨s, hs1, if_pos rfl⟩
  have o2 := wait_once o s.k false
  have e3 : hasL (waitS ss s.k false) s.k = true := hasL_iff.2 ⟨_, m2, rfl⟩
  have e4 : atL (waitS ss s.k false) s.k = { s with s := false } := atL_of o2 m2
  refine ⟨?_, ?_, ?_, ?_⟩
  · unfold waitC
    rw [e1, e2, hs2]
    rfl
  · unfold waitC
    rw [e3, e4]
    rfl
  · unfold waitS
    rw [List.map_map, List.map_congr_left (g := id)]
    · simp
    · intro a ha
      show (if (if a.k = s.k then { a with s := false } else a).k = s.k then _ else _) = a
      by_cases k : a.k = s.k
      · rw [if_pos k, if_pos k]
        have := o.inj ha hs1 k
        subst this
        cases a
        simp at hs2 ⊢
        exact hs2
      · rw [if_neg k, if_neg k]
  · rw [waitL_out, ← (waitL_nodup o).erase_eq_filter, List.length_erase_of_mem (by rw [waitL_W]; exact h)]
    have : 0 < (waitL ss).length := List.length_pos_of_mem (by rw [waitL_W]; exact h)
    omega
/-- one that waits, where it stands in the order -/
theorem wait_look {ss : List Sl} (o : OnceL ss) {k : Nat} {y : Sl} (hy : (waitW ss)[k]? = some y) : hasL ss y.k = true ∧ atL ss y.k = y ∧ y.s = true := by
  have h := waitW_mem.1 (List.mem_of_getElem? hy)
  exact ⟨hasL_iff.2 ⟨y, h.1, rfl⟩, atL_of o h.1, h.2⟩
/-- whether the one ahead is no demand -/
def laterW (l : List Sl) (k : Nat) : Bool := if k = 0 then false else match l[k - 1]? with | some y => y.a | none => false
theorem later_next {l : List Sl} {k : Nat} {y : Sl} (hy : l[k]? = some y) : laterW l (k + 1) = y.a := by
  unfold laterW
  rw [if_neg (by omega), Nat.add_sub_cancel, hy]
theorem later_ok {ss : List Sl} {k : Nat} {y : Sl} (hy : (waitW ss)[k]? = some y) (h : laterW (waitW ss) k = true) : y.a = true := by
  unfold laterW at h
  split at h
  · cases h
  · have hk := lt_of_get hy
    have hk1 : k - 1 < (waitW ss).length := by omega
    rw [List.getElem?_eq_getElem hk1] at h
    have := List.pairwise_iff_getElem.1 (waitW_up ss) (k - 1) k hk1 hk (by omega) h
    rw [List.getElem?_eq_getElem hk] at hy
    rw [← Option.some.inj hy]
    exact this
theorem wait_apart {ss : List Sl} (o : OnceL ss) {j k : Nat} {y z : Sl} (hj : (waitW ss)[j]? = some z) (hk : (waitW ss)[k]? = some y) (hlt : j < k) : z.k ≠ y.k := by
  have lj := lt_of_get hj
  have lk := lt_of_get hk
  have := List.pairwise_iff_getElem.1 (waitW_once o) j k lj lk hlt
  rw [List.getElem?_eq_getElem lj] at hj
  rw [List.getElem?_eq_getElem lk] at hk
  rw [← Option.some.inj hj, ← Option.some.inj hk]
  exact this
/-- a slice of integers that a call has told lies beside -/
theorem Sg.told {w0 w w' : World} {A : Asr} {v : Value} {xs : List Int} (h : Sg w0 w A) (ho : OwnsInts w' w.heap.size v xs) (o : Only none_ w w') : Sg w0 w' (A.and (AI v xs)) := by
  obtain ⟨⟨M, a, l⟩, k⟩ := h
  have kk := k.size
  refine ⟨⟨fun g => M g ∨ v.ownBlock = some g, ⟨M, fun g => v.ownBlock = some g, A.keep a o (fun _ _ s => s), ⟨Owns.lower ho (Nat.zero_le _), fun g => Iff.rfl⟩, fun g hg e => ?_, fun g => Iff.rfl⟩, fun g hg => ?_⟩, k.idle o⟩
  · have := A.lt a g hg
    have := (Owns.base_le ho e).1
    omega
  · rcases hg with hg | hg
    · exact l g hg
    · have := (Owns.base_le ho hg).1
      omega
theorem Sg.reads {w0 w : World} {v : Value} {xs : List Int} (h : Sg w0 w (AI v xs)) : Reads w v xs := by
  obtain ⟨⟨M, ⟨a, _⟩, l⟩, k⟩ := h
  exact Reads.of_owns a
theorem sg_rnew11 (w0 w : World) {B : Asr} (h : Sg w0 w B) :
    Calls Try.prog 11 #[.int .i64 1, .int .i64 1] w fun e w' => ∃ q, e = .returned (.pointer (some ⟨q, 0, none⟩)) ∧ Sg w0 w' ((AR q 1 1 []).and B) ∧ Only none_ w w' := sg_rnew 1 1 w0 w h
end Go.Proofs.Ytmihinpbgppjlaa

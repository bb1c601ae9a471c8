/- One request's answers, plainly: with the steps of others left out they are the same. -/
import Derived.Test.YtoflkeedfgnkhaaPk17
import Derived.Test.YtoflkeedfgnkhaaLw17
import Derived.Test.YtoflkeedfgnkhaaDu17
namespace Go.Proofs.Ytoflkeedfgnkhaa
open Go.RowKit Go.Maps
set_option linter.unusedVariables false
def IdsIn (rs : List Rq) : Prop := ∀ r ∈ rs, 1 ≤ r.id ∧ r.id ≤ 16
theorem pig17 {rs : List Rq} (h : OnceQ rs) (hi : IdsIn rs) {x : Int} (h1 : 1 ≤ x) (h16 : x ≤ 16) (hx : hasQ rs x = false) : rs.length < 16 := by
  have hn : (x :: rs.map (·.id)).Nodup := by
    rw [List.nodup_cons]
    refine ⟨fun hm => ?_, ?_⟩
    · obtain ⟨r, hr, e⟩ := List.mem_map.1 hm
      have := hasQ_iff.2 ⟨r, hr, e⟩
      rw [hx] at this; cases this
    · unfold List.Nodup
      rw [List.pairwise_map]; exact h
  have := sub_len _ ((List.range 16).map (fun k : Nat => (k : Int) + 1)) hn (fun y hy => by
    rw [List.mem_map]
    have hb : 1 ≤ y ∧ y ≤ 16 := by
      rcases List.mem_cons.1 hy with rfl | hy
      · exact ⟨h1, h16⟩
      · obtain ⟨r, hr, rfl⟩ := List.mem_map.1 hy; exact hi r hr
    exact ⟨(y - 1).toNat, List.mem_range.2 (by omega), by omega⟩)
  simp only [List.length_cons, List.length_map, List.length_range] at this
  omega
theorem find_cut_self (rs : List Rq) (x : Int) : findQ (cutQ rs x) x = none := by
  unfold findQ cutQ
  rw [List.find?_eq_none]
  intro r hr
  have := (List.mem_filter.1 hr).2
  simpa using this
theorem find_cut_ne {rs : List Rq} {x y : Int} (h : y ≠ x) : findQ (cutQ rs x) y = findQ rs y := by
  unfold findQ cutQ
  rw [List.find?_filter]
  congr 1
  funext r
  by_cases e : r.id = y
  · simp [e, h]
  · simp [e]
theorem find_upd_ne {rs : List Rq} {x y : Int} {f : Rq → Rq} (hf : ∀ s, (f s).id = s.id) (h : y ≠ x) : findQ (updQ rs x f) y = findQ rs y := by
  unfold findQ updQ
  induction rs with
  | nil => rfl
  | cons s rs ih =>
    rw [List.map_cons, List.find?_cons, List.find?_cons, ih]
    by_cases e : s.id = x
    · rw [if_pos e, hf, e]
      have : (x == y) = false := by simpa using fun q : x = y => h q.symm
      rw [this]
    · rw [if_neg e]
theorem find_upd_self {rs : List Rq} {x : Int} {f : Rq → Rq} (hf : ∀ s, (f s).id = s.id) : findQ (updQ rs x f) x = (findQ rs x).map f := by
  unfold findQ updQ
  induction rs with
  | nil => rfl
  | cons s rs ih =>
    rw [List.map_cons, List.find?_cons, List.find?_cons, ih]
    by_cases e : s.id = x
    · rw [if_pos e, hf, e]; simp
    · rw [if_neg e]
      have : (s.id == x) = false := by simpa using e
      rw [this]
theorem find_more_ne {rs : List Rq} {q : Rq} {y : Int} (h : q.id ≠ y) : findQ (rs ++ [q]) y = findQ rs y := by
  unfold findQ
  rw [List.find?_append]
  simp [h]
theorem find_more_self {rs : List Rq} {q : Rq} (h : hasQ rs q.id = false) : findQ (rs ++ [q]) q.id = some q := by
  have := find_no h
  unfold findQ at this ⊢
  rw [List.find?_append, this]
  simp
/-- whose requests are there behind a step -/
theorem step_ids {room : Nat} {t : Tq} {a : Act1} {r : Rq} (h : r ∈ (stepT room t a).rs) : r.id = a.id ∨ ∃ s ∈ t.rs, r.id = s.id := by
  have cutc : ∀ {x : Int}, r ∈ cutQ t.rs x → ∃ s ∈ t.rs, r.id = s.id := fun h => ⟨r, (List.mem_filter.1 h).1, rfl⟩
  have putc : ∀ {n : Nat} {v : Int}, r ∈ (putS t a.id a.place n v).rs → ∃ s ∈ t.rs, r.id = s.id := by
    intro n v h
    rcases put_cases (t := t) (x := a.id) (q := a.place) (v := v) (a := n) with e | ⟨r', _, _, ⟨_, e⟩ | ⟨_, e⟩⟩
    · rw [e] at h; exact ⟨r, h, rfl⟩
    · rw [e] at h; exact cutc h
    · rw [e] at h
      obtain ⟨s, hs, e⟩ := updQ_mem h
      refine ⟨s, hs, ?_⟩
      rw [e]
      split <;> rfl
  unfold stepT at h
  split at h
  · change r ∈ openS _ _ _ _ _ at h
    unfold openS at h
    split at h
    · rcases List.mem_append.1 h with h | h
      · exact .inr ⟨r, h, rfl⟩
      · rw [List.mem_singleton.1 h]; exact .inl rfl
    · exact .inr ⟨r, h, rfl⟩
  · split at h
    · exact .inr (putc h)
    · split at h
      · exact .inr (putc h)
      · split at h
        · unfold cancelS at h
          split at h
          · exact .inr (cutc h)
          · exact .inr ⟨r, h, rfl⟩
        · split at h
          · exact .inr ⟨r, h, rfl⟩
          · exact .inr ⟨r, h, rfl⟩
/-- whose answers are there behind a step, where none was kept -/
theorem step_kept {room : Nat} {t : Tq} {a : Act1} (k : t.kept = []) : (stepT room t a).kept = [] ∨ ∃ n : An, n.id = a.id ∧ (stepT room t a).kept = [n] := by
  have putc : ∀ {n : Nat} {v : Int}, (putS t a.id a.place n v).kept = [] ∨ ∃ m : An, m.id = a.id ∧ (putS t a.id a.place n v).kept = [m] := by
    intro n v
    rcases put_cases (t := t) (x := a.id) (q := a.place) (v := v) (a := n) with e | ⟨r', h1, _, ⟨_, e⟩ | ⟨_, e⟩⟩
    · rw [e]; exact .inl k
    · rw [e]
      refine .inr ⟨ansQ (mark a.place.toNat n v r'), (find_some h1).2.1, ?_⟩
      show t.kept ++ [_] = _
      rw [k]
      rfl
    · rw [e]; exact .inl k
  unfold stepT
  split
  · exact .inl k
  · split
    · exact putc
    · split
      · exact putc
      · split
        · unfold cancelS
          split
          · refine .inr ⟨⟨a.id, 8, []⟩, rfl, ?_⟩
            show t.kept ++ [_] = _
            rw [k]
            rfl
          · exact .inl k
        · split
          · exact .inl rfl
          · exact .inl k
/-- a step of another's -/
theorem step_ne {room : Nat} {t : Tq} {a : Act1} {x : Int} (h : x ≠ a.id) : findQ (stepT room t a).rs x = findQ t.rs x := by
  have putc : ∀ {n : Nat} {v : Int}, findQ (putS t a.id a.place n v).rs x = findQ t.rs x := by
    intro n v
    rcases put_cases (t := t) (x := a.id) (q := a.place) (v := v) (a := n) with e | ⟨r', _, _, ⟨_, e⟩ | ⟨_, e⟩⟩
    · rw [e]
    · rw [e]; exact find_cut_ne h
    · rw [e]; exact find_upd_ne (fun _ => rfl) h
  unfold stepT
  split
  · show findQ (openS _ _ _ _ _) x = _
    unfold openS
    split
    · exact find_more_ne (fun q => h q.symm)
    · rfl
  · split
    · exact putc
    · split
      · exact putc
      · split
        · unfold cancelS
          split
          · exact find_cut_ne h
          · rfl
        · split <;> rfl
/-- how a request stands in the table of all, and in its own -/
structure Mine (x : Int) (t s : List Rq) : Prop where
  it : IdsIn t
  ks : ∀ r ∈ s, r.id = x
  fd : findQ t x = findQ s x
theorem Mine.has {x : Int} {t s : List Rq} (h : Mine x t s) : hasQ t x = hasQ s x := by rw [has_find, has_find, h.fd]
theorem Mine.nil (x : Int) : Mine x [] [] := ⟨fun r hr => (by cases hr), fun r hr => (by cases hr), rfl⟩
theorem Mine.kind {x : Int} {t s : List Rq} (h : Mine x t s) : kindI t x = kindI s x := by unfold kindI; rw [h.fd]
theorem put_own {t s : Tq} {x : Int} (fd : findQ t.rs x = findQ s.rs x) (kt : t.kept = []) (ks : s.kept = []) (p : Int) (a : Nat) (v : Int) :
    findQ (putS t x p a v).rs x = findQ (putS s x p a v).rs x ∧ (putS t x p a v).kept = (putS s x p a v).kept := by
  have pi : putI t.rs x p = putI s.rs x p := by unfold putI; rw [fd]
  unfold putS
  rw [← fd, ← pi]
  cases findQ t.rs x with
  | none => exact ⟨by rw [fd], by rw [kt, ks]⟩
  | some r =>
    dsimp only
    split
    · split
      · exact ⟨by rw [show (cutT t x (ansQ (mark p.toNat a v r))).rs = cutQ t.rs x from rfl, show (cutT s x (ansQ (mark p.toNat a v r))).rs = cutQ s.rs x from rfl, find_cut_self, find_cut_self], by
          show t.kept ++ [_] = s.kept ++ [_]
          rw [kt, ks]⟩
      · exact ⟨by
          show findQ (updQ t.rs x _) x = findQ (updQ s.rs x _) x
          rw [find_upd_self (f := mark p.toNat a v) (fun _ => rfl), find_upd_self (f := mark p.toNat a v) (fun _ => rfl), fd], by rw [kt, ks]⟩
    · exact ⟨by rw [fd], by rw [kt, ks]⟩
theorem own_step {t s : Tq} {a : Act1} (m : Mine a.id t.rs s.rs) (gt : GoodQ 16 t.rs) (gs : GoodQ 16 s.rs) (kt : t.kept = []) (ks : s.kept = []) (h1 : 1 ≤ a.id) (h16 : a.id ≤ 16) :
    Mine a.id (stepT 16 t a).rs (stepT 16 s a).rs ∧ (stepT 16 t a).kept = (stepT 16 s a).kept := by
  have key : findQ (stepT 16 t a).rs a.id = findQ (stepT 16 s a).rs a.id ∧ (stepT 16 t a).kept = (stepT 16 s a).kept := by
    unfold stepT
    split
    · refine ⟨?_, by rw [kt, ks]⟩
      show findQ (openS 16 t.rs a.id a.n a.place) a.id = findQ (openS 16 s.rs a.id a.n a.place) a.id
      cases hx : hasQ t.rs a.id with
      | true =>
        have hy := m.has
        rw [hx] at hy
        have et : openI 16 t.rs a.id a.n a.place ≠ 0 := by
          unfold openI
          rw [hx]
          split
          · rw [if_pos rfl]; decide
          · decide
        have es : openI 16 s.rs a.id a.n a.place ≠ 0 := by
          unfold openI
          rw [← hy]
          split
          · rw [if_pos rfl]; decide
          · decide
        unfold openS
        rw [if_neg et, if_neg es, m.fd]
      | false =>
        have hy := m.has
        rw [hx] at hy
        have lt := pig17 gt.once m.it h1 h16 hx
        have ls := pig17 gs.once (fun r hr => by rw [m.ks r hr]; exact ⟨h1, h16⟩) h1 h16 hy.symm
        have e : openI 16 t.rs a.id a.n a.place = openI 16 s.rs a.id a.n a.place := by
          unfold openI
          rw [hx, ← hy, if_neg (show ¬ 16 ≤ t.rs.length by omega), if_neg (show ¬ 16 ≤ s.rs.length by omega)]
        unfold openS
        rw [e]
        split
        · have e1 := find_more_self (rs := t.rs) (q := newQ a.id a.n a.place) hx
          have e2 := find_more_self (rs := s.rs) (q := newQ a.id a.n a.place) hy.symm
          exact e1.trans e2.symm
        · exact m.fd
    · split
      · exact put_own m.fd kt ks _ _ _
      · split
        · exact put_own m.fd kt ks _ _ _
        · split
          · unfold cancelS
            rw [← m.has]
            split
            · exact ⟨by
                show findQ (cutQ t.rs a.id) a.id = findQ (cutQ s.rs a.id) a.id
                rw [find_cut_self, find_cut_self], by
                show t.kept ++ [_] = s.kept ++ [_]
                rw [kt, ks]⟩
            · exact ⟨m.fd, by rw [kt, ks]⟩
          · split
            · exact ⟨m.fd, rfl⟩
            · exact ⟨m.fd, by rw [kt, ks]⟩
  refine ⟨⟨fun r hr => ?_, fun r hr => ?_, key.1⟩, key.2⟩
  · rcases step_ids hr with e | ⟨r', h', e⟩
    · rw [e]; exact ⟨h1, h16⟩
    · rw [e]; exact m.it r' h'
  · rcases step_ids hr with e | ⟨r', h', e⟩
    · exact e
    · rw [e]; exact m.ks r' h'
theorem other_step {t s : Tq} {a : Act1} {x : Int} (m : Mine x t.rs s.rs) (h1 : 1 ≤ a.id) (h16 : a.id ≤ 16) (hx : x ≠ a.id) : Mine x (stepT 16 t a).rs s.rs := by
  refine ⟨fun r hr => ?_, m.ks, by rw [step_ne hx]; exact m.fd⟩
  rcases step_ids hr with e | ⟨r', h', e⟩
  · rw [e]; exact ⟨h1, h16⟩
  · rw [e]; exact m.it r' h'
end Go.Proofs.Ytoflkeedfgnkhaa

/- Lanes in memory: one lane is another one, and the map with it. -/
import Derived.Test.YtjeiaialnanemaaLnWith
import Derived.Maps.AppendAt
namespace Go.Proofs.Ytjeiaialnanemaa
open Go.RowKit Go.Maps
set_option linter.unusedVariables false

theorem row_of_owns {w : World} {v : Value} {l : List Int} {g : Nat} (h : OwnsInts w 0 v l) (hg : v.ownBlock = some g) : ∃ cur, Row w g 3 cur := by
  rcases h.2 with ⟨hv, _⟩ | ⟨g', cap, cur, hv, _, hh, _⟩
  · rw [hv] at hg; cases hg
  · rw [hv] at hg
    injection hg with hg
    exact ⟨cur, by rw [← hg]; exact hh⟩
theorem LL.gp {w : World} {p r b : Nat} {vs : List Value} {M : Nat → Prop} {n room : Nat} {ss : List Sd} (h : LL w p r b vs M n room ss) {i : Nat} {v : Value} {g : Nat} (hv : vs[i]? = some v) (hg : v.ownBlock = some g) : g ≠ p ∧ g ≠ r ∧ g ≠ b := by
  obtain ⟨cur, hr⟩ := row_of_owns (h.lanes i v hv) hg
  exact ⟨hr.apart h.row (by decide), hr.apart h.rows (by decide), h.md.ne hr⟩
theorem LL.pr {w : World} {p r b : Nat} {vs : List Value} {M : Nat → Prop} {n room : Nat} {ss : List Sd} (h : LL w p r b vs M n room ss) : p ≠ r ∧ p ≠ b ∧ r ≠ b := ⟨h.row.apart h.rows (by decide), h.md.ne h.row, h.md.ne h.rows⟩
/-- one lane is another one, and the map with it -/
theorem LL.turned {w w5 w7 : World} {p r b k : Nat} {vs : List Value} {v v5 : Value} {M : Nat → Prop} {n room : Nat} {ss fs : List Sd} (h : LL w p r b vs M n room ss) (hv : vs[k]? = some v) (o5 : Only (fun j => some j = v.ownBlock) w w5)
    (ho : OwnsInts w5 0 v5 (laneL fs (k : Int))) (hat : v5.ownBlock = v.ownBlock ∨ ∃ g, v5.ownBlock = some g ∧ w.heap.size ≤ g) (o7 : Only (fun j => j = b) (w5.setCell ⟨r, k, none⟩ v5) w7) (md : Md w7 b fs)
    (hs : ∀ i : Int, i ≠ k → laneL fs i = laneL ss i) (once : Once fs) (inb : ∀ s ∈ fs, 0 ≤ s.b ∧ s.b < n) : LnTo w p M n room fs w7 := by
  have hk := lt_of_get hv
  have ng : ∀ g, v5.ownBlock = some g → g ≠ p ∧ g ≠ r ∧ g ≠ b := fun g hg => by
    rcases hat with q | ⟨g', q, hl⟩
    · exact h.gp hv (by rw [← q]; exact hg)
    · rw [q] at hg
      injection hg with hg
      have := h.lt p h.mp
      have := h.lt r h.mr
      have := h.lt b h.mb
      omega
  have np : ¬ some p = v.ownBlock := fun e => (h.gp hv e.symm).1 rfl
  have nr : ¬ some r = v.ownBlock := fun e => (h.gp hv e.symm).2.1 rfl
  have o6 := (Only.refl (fun j => j = r) w5).into rfl k v5
  have O57 : Only (fun j => j = r ∨ j = b) w5 w7 := (o6.more (fun _ _ e => Or.inl e)).trans o7 (fun _ _ e => Or.inr e)
  have rows := o7.row ((o5.row h.rows nr).put k v5) (fun e => h.pr.2.2 e)
  have evs : vs.toArray.setIfInBounds k v5 = (vs.set k v5).toArray := by simp
  rw [evs] at rows
  have gv : ∀ i u, (vs.set k v5)[i]? = some u → (i = k ∧ u = v5) ∨ (i ≠ k ∧ vs[i]? = some u) := fun i u hu => by
    rw [List.getElem?_set] at hu
    by_cases e : k = i
    · rw [if_pos e, if_pos hk] at hu
      injection hu with hu
      exact .inl ⟨e.symm, hu.symm⟩
    · rw [if_neg e] at hu
      exact .inr ⟨fun q => e q.symm, hu⟩
  have z5 := o5.size
  have z7 := O57.size
  have nv : ∀ i u g, i ≠ k → vs[i]? = some u → u.ownBlock = some g → v5.ownBlock ≠ some g := fun i u g hi hu hg e => by
    rcases hat with q | ⟨g', q, hl⟩
    · rw [q] at e
      exact hi (h.apart i k u v g hu hv hg e)
    · rw [q] at e
      injection e with e
      have := h.lt g (h.mv i u g hu hg)
      omega
  refine ⟨⟨fun g => M g ∨ (w.heap.size ≤ g ∧ g < w7.heap.size), ⟨r, b, vs.set k v5, ?_⟩, fun g hg => hg.imp id (·.1)⟩, ?_⟩
  · exact {
      row := O57.row (o5.row h.row np) (fun e => by rcases e with e | e; exact h.pr.1 e; exact h.pr.2.1 e)
      rows := rows
      len := by rw [List.length_set]; exact h.len
      lanes := fun i u hu => by
        rcases gv i u hu with ⟨rfl, rfl⟩ | ⟨hi, hu⟩
        · exact ho.keep O57 (fun g hg e => by rcases e with e | e; exact (ng g hg).2.1 e; exact (ng g hg).2.2 e)
        · rw [hs (i : Int) (by omega)]
          refine ((h.lanes i u hu).keep o5 (fun g hg e => hi (h.apart i k u v g hu hv hg e.symm))).keep O57 (fun g hg e => ?_)
          have := h.gp hu hg
          rcases e with e | e
          · exact this.2.1 e
          · exact this.2.2 e
      apart := fun i j u v' g hu hv' hg hg' => by
        rcases gv i u hu with ⟨rfl, rfl⟩ | ⟨hi, hu2⟩
        · rcases gv j v' hv' with ⟨rfl, rfl⟩ | ⟨hj, hv'⟩
          · rfl
          · exact absurd hg (nv j v' g hj hv' hg')
        · rcases gv j v' hv' with ⟨rfl, rfl⟩ | ⟨hj, hv2⟩
          · exact absurd hg' (nv i u g hi hu2 hg)
          · exact h.apart i j u v' g hu2 hv2 hg hg'
      md := md
      once := once
      inb := inb
      mp := .inl h.mp
      mr := .inl h.mr
      mb := .inl h.mb
      mv := fun i u g hu hg => by
        rcases gv i u hu with ⟨rfl, rfl⟩ | ⟨hi, hu⟩
        · rcases hat with q | ⟨g', q, hl⟩
          · exact .inl (h.mv _ v g hv (by rw [← q]; exact hg))
          · have l5 := (ho.base_le hg).2
            rw [q] at hg
            injection hg with hg
            exact .inr ⟨by omega, by omega⟩
        · exact .inl (h.mv i u g hu hg)
      lt := fun g hg => by
        rcases hg with hg | hg
        · have := h.lt g hg; omega
        · exact hg.2 }
  · refine (o5.more (fun i _ e => h.mv k v i hv e.symm)).trans O57 (fun i _ e => ?_)
    rcases e with e | e
    · rw [e]; exact h.mr
    · rw [e]; exact h.mb
theorem lane_more (ss : List Sd) (b x i : Int) : laneL (ss ++ [⟨b, x⟩]) i = if b = i then laneL ss i ++ [x] else laneL ss i := by
  unfold laneL
  rw [List.filter_append, List.map_append]
  by_cases h : b = i
  · rw [if_pos h, List.filter_cons_of_pos (by simpa using h)]; rfl
  · rw [if_neg h, List.filter_cons_of_neg (by simpa using h)]; simp
theorem step_append_at11 {P : Program} {ops : Array Oper} {o : Oper} {a : Act} {w : World} {K : Act → World → Prop} {Q : Exit → Act → World → Prop} {E : Prop}
    (hg : o.guard = none) (s x : Operand) (t : TypeId) (hop : o.op = Op.call { callee := Callee.builtin Builtin.append, args := #[s, x], argTypes := #[t, t] })
    (base : Nat) (e : TypeId) (i : TypeInfo) (z : Value) (size bytes : Nat) (h1 : P.underlying t = some (.slice e)) (h2 : P.info? e = some i) (h3 : i.zero = some z) (h4 : i.size = size) (h5 : i.bytes = bytes) (h6 : z.cells.size = size) (h7 : 0 < size)
    (v : Value) (k : Nat) (xs : List Value) (hs : a.eval s = v) (hown : w.ownsRow base e size v k xs)
    (ad : Addr) (m c : Nat) (news : List Value) (hx : a.eval x = .slice (some ad) m c) (hn : news.length = m * size) (hc : ∀ j u, news[j]? = some u → w.cell? (ad.add j) = some u) (h1c : ∀ u ∈ news, u.oneCell' = true)
    (b1 : k + m ≤ maxLen) (b2 : (k + m) * bytes ≤ 140737488355328) (b3 : base ≤ w.heap.size)
    (hK : ∀ v' w', w'.ownsRow base e size v' (k + m) (xs ++ news) → w.grownBy w' v.ownBlock → (v'.ownBlock = v.ownBlock ∨ v'.ownBlock = some w.heap.size) → K (a.put o.dst v') w') :
    if Region.wanted o (yielded ops a.tmps) = true then Oper.wp P o a w K Q else E := by
  have hw : Region.wanted o (yielded ops a.tmps) = true := by simp [Region.wanted, hg]
  rw [if_pos hw]
  obtain ⟨v', w', hrun, r1, r2, _, r4⟩ := run_append_own_at (P := P) w base t o.type e i z size bytes h1 h2 h3 h4 h5 h6 h7 v k xs hown ad m c news hn hc h1c b1 b2 b3
  unfold Oper.wp
  simp [execOp, hop, resolve, invoke, builtin, hs, hx, hrun, Result.andThen]
  exact hK v' w' r1 r2 r4
end Go.Proofs.Ytjeiaialnanemaa

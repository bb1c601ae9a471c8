/- What the laws of both tables share. -/
import Derived.Test.YtoflkeedfgnkhaaSt17
namespace Go.Proofs.Ytoflkeedfgnkhaa
open Go.RowKit Go.Maps
set_option linter.unusedVariables false
set_option maxRecDepth 100000
def Small17 (t : Tq) : Prop := ∀ n ∈ t.kept, n.vs.length ≤ 8
theorem Small17.nil (rs : List Rq) : Small17 ⟨rs, []⟩ := fun n h => by cases h
theorem Small17.big {t : Tq} (h : Small17 t) : ∀ n ∈ t.kept, n.vs.length ≤ 1000000 := fun n q => by have := h n q; omega
theorem ansQ_len {r : Rq} (h : FineQ r) : (ansQ r).vs.length ≤ 8 := by
  rcases (ansQ_ok h).1 with q | q | q
  · exact q.2
  · rw [q.2]; decide
  · rw [q.2]; decide
theorem Small17.more {t : Tq} (h : Small17 t) {rs : List Rq} {a : An} (ha : a.vs.length ≤ 8) : Small17 ⟨rs, t.kept ++ [a]⟩ := fun n q => by
  rcases List.mem_append.1 q with q | q
  · exact h n q
  · rw [List.mem_singleton.1 q]; exact ha
theorem Small17.put {room : Nat} {t : Tq} (g : GoodQ room t.rs) (h : Small17 t) (x q v : Int) {a : Nat} (ha : a = 1 ∨ a = 2) : Small17 (putS t x q a v) := by
  rcases put_cases (t := t) (x := x) (q := q) (v := v) (a := a) with e | ⟨r, e1, _, ⟨_, e2⟩ | ⟨_, e2⟩⟩
  · rw [e]; exact h
  · rw [e2]
    exact h.more (ansQ_len ((g.fine r (find_some e1).1).mark ha))
  · rw [e2]; exact h
theorem Small17.step {room : Nat} {t : Tq} (g : GoodQ room t.rs) (h : Small17 t) (n : Nat) (a : Act1) : Small17 (stepT n t a) := by
  unfold stepT
  split
  · exact h
  · split
    · exact h.put g _ _ _ (.inl rfl)
    · split
      · exact h.put g _ _ _ (.inr rfl)
      · split
        · unfold cancelS
          split
          · exact h.more (Nat.zero_le _)
          · exact h
        · split
          · exact Small17.nil _
          · exact h
section
variable {w0 w w' u : World} {p : Nat} {c c0 : Nat → Nat} {q : Nat} {d d0 : Nat → Nat} {room L : Nat} {t : Tq} {rm K : Nat} {s : Tq} {b : Nat} {cs : Array Value}
theorem E17.stepped (h : E17 w0 u c0 d0 w p c q d room L t rm K s b cs) {L' K' : Nat} {t' s' : Tq} {c' d' : Nat → Nat} (hd : D17 w0 w' p c' q d' room L' t' rm K' s') (gc : Gw w c c') (gd : Gw w d d') (o : Only (fun g => c g ≠ 0 ∨ d g ≠ 0) w w') : E17 w0 u c0 d0 w' p c' q d' room L' t' rm K' s' b cs where
  duo := hd
  row := o.row h.row (fun k => by rcases k with k | k; exact k h.nc; exact k h.nd)
  nc := Classical.byContradiction fun k => (by
    have := h.row.lt
    rcases gc b k with z | z
    · exact z h.nc
    · omega)
  nd := Classical.byContradiction fun k => (by
    have := h.row.lt
    rcases gd b k with z | z
    · exact z h.nd
    · omega)
  gc := fun g k => (by
    have := h.on.size
    rcases gc g k with z | z
    · exact h.gc g z
    · exact .inr (by omega))
  gd := fun g k => (by
    have := h.on.size
    rcases gd g k with z | z
    · exact h.gd g z
    · exact .inr (by omega))
  on := h.on.trans o (fun i hi k => by
    rcases k with k | k
    · rcases h.gc i k with z | z
      · exact .inl z
      · omega
    · rcases h.gd i k with z | z
      · exact .inr z
      · omega)
theorem e_step (h : E17 w0 u c0 d0 w p c q d room L t rm K s b cs) (a : Act1) (wa : (Lit.int .i64 a.id).wf = true) (hL : L < 1000000) (hK : K < 1000000) (b1 : Small17 t) (b2 : Small17 s) :
    Calls Try.prog 11 #[.pointer (some ⟨p, 0, none⟩), .pointer (some ⟨q, 0, none⟩), .agg #[.int .i64 a.kind, .int .i64 a.id, .int .i64 a.n, .int .i64 a.place, .int .u64 a.v]] w fun e w' => ∃ bb : Bool, e = .returned (.bool bb) ∧ (t = s → room = rm → bb = true) ∧ ∃ c' d', E17 w0 u c0 d0 w' p c' q d' room (L + 1) (stepT room t a) rm (K + 1) (stepT rm s a) b cs :=
  (step_any a w h.duo wa hL hK b1.big b2.big).mono (fun e w' z => let ⟨bb, e1, hb, c', d', hd, gc, gd, o⟩ := z; ⟨bb, e1, hb, c', d', h.stepped hd gc gd o⟩)
/-- both alike -/
theorem e_same (h : E17 w0 u c0 d0 w p c q d room L t room L t b cs) (a : Act1) (wa : (Lit.int .i64 a.id).wf = true) (hL : L < 1000000) (b1 : Small17 t) :
    Calls Try.prog 11 #[.pointer (some ⟨p, 0, none⟩), .pointer (some ⟨q, 0, none⟩), .agg #[.int .i64 a.kind, .int .i64 a.id, .int .i64 a.n, .int .i64 a.place, .int .u64 a.v]] w fun e w' => e = .returned (.bool true) ∧ ∃ c' d', E17 w0 u c0 d0 w' p c' q d' room (L + 1) (stepT room t a) room (L + 1) (stepT room t a) b cs :=
  (e_step h a wa hL hL b1 b1).mono (fun e w' z => let ⟨bb, e1, hb, z⟩ := z; ⟨by rw [e1, hb rfl rfl], z⟩)
theorem e_pend (h : E17 w0 u c0 d0 w p c q d room L t rm K s b cs) :
    Calls Try.prog 13 #[.pointer (some ⟨p, 0, none⟩)] w fun e w' => ∃ v, e = .returned v ∧ OwnsInts w' w.heap.size v (sortI (t.rs.map (·.id))) ∧ Only none_ w w' := lpending h.duo.lt
theorem f_pend (h : E17 w0 u c0 d0 w p c q d room L t rm K s b cs) :
    Calls Try.prog 14 #[.pointer (some ⟨q, 0, none⟩)] w fun e w' => ∃ v, e = .returned v ∧ OwnsInts w' w.heap.size v (sortI (s.rs.map (·.id))) ∧ Only none_ w w' := let ⟨_, k⟩ := h.duo.rw; rpending_any w k
theorem e_touch (h : E17 w0 u c0 d0 w p c q d room L t rm K s b cs) (x : Int) (wx : (Lit.int .i64 x).wf = true) :
    Calls Try.prog 15 #[.pointer (some ⟨p, 0, none⟩), .int .i64 x] w fun e w' => e = .returned (.bool (touchedB t.rs x)) ∧ Only none_ w w' := ltouched x h.duo.lt wx
theorem f_touch (h : E17 w0 u c0 d0 w p c q d room L t rm K s b cs) (x : Int) :
    Calls Try.prog 16 #[.pointer (some ⟨q, 0, none⟩), .int .i64 x] w fun e w' => e = .returned (.bool (touchedB s.rs x)) ∧ Only none_ w w' := let ⟨_, k⟩ := h.duo.rw; rtouched_any x w k
theorem e_kind (h : E17 w0 u c0 d0 w p c q d room L t rm K s b cs) (x : Int) (wx : (Lit.int .i64 x).wf = true) :
    Calls Try.prog 17 #[.pointer (some ⟨p, 0, none⟩), .int .i64 x] w fun e w' => e = .returned (.int .i64 (kindI t.rs x)) ∧ Only none_ w w' := lkind x h.duo.lt wx
theorem f_kind (h : E17 w0 u c0 d0 w p c q d room L t rm K s b cs) (x : Int) :
    Calls Try.prog 18 #[.pointer (some ⟨q, 0, none⟩), .int .i64 x] w fun e w' => e = .returned (.int .i64 (kindI s.rs x)) ∧ Only none_ w w' := let ⟨_, k⟩ := h.duo.rw; rkind_any x w k
theorem ints_same (v u : Value) (xs : List Int) (w : World) (hx : Reads w v xs) (hy : Reads w u xs) (hm : xs.length ≤ 1000000) :
    Calls Try.prog 12 #[v, u] w fun e w' => e = .returned (.bool true) ∧ Only none_ w w' := (ints_any v u xs xs w hx hy hm hm).mono (fun e w' z => ⟨by rw [z.1]; simp, z.2⟩)
theorem d_take (h : D17 w0 w p c q d room L t rm K s) :
    Calls Try.prog 20 #[.pointer (some ⟨p, 0, none⟩)] w fun e w' => ∃ v, e = .returned v ∧ ∃ c', D17 w0 w' p c' q d room 0 ⟨t.rs, []⟩ rm K s ∧ AR w' (fun g => d g = 0) v t.kept :=
  (ltake h.lt).mono (fun e w' z => let ⟨v, e1, c', h1, h2, h3, h4⟩ := z; ⟨v, e1, c', (h.code h1 (fun g k => .inl (h3 g k)) h4), h2.more (fun g _ k => h.apart g k.1)⟩)
theorem g_take (h : D17 w0 w p c q d room L t rm K s) :
    Calls Try.prog 21 #[.pointer (some ⟨q, 0, none⟩)] w fun e w' => ∃ v, e = .returned v ∧ ∃ d', D17 w0 w' p c q d' room L t rm K ⟨s.rs, []⟩ ∧ AR w' (fun g => True) v s.kept ∧ Only (fun g => d g ≠ 0) w w' := by
  obtain ⟨X, k'⟩ := h.rw
  exact (rtake_any w k').mono (fun e w' z => let ⟨v, e1, d', X', h1, h2, h3, h4⟩ := z; ⟨v, e1, d', h.doc h1 (fun g k => .inl (h3 g k)) h4, h2.more (fun g _ _ => trivial), h4⟩)
end
end Go.Proofs.Ytoflkeedfgnkhaa
